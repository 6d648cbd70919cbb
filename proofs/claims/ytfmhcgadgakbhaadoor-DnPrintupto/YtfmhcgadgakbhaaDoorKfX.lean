import Derived.Test.YtfmhcgadgakbhaaDoorKfW
import Derived.Test.YtfmhcgadgakbhaaDoorKfN
import Derived.Test.YtfmhcgadgakbhaaDoorDuG
namespace Go.Proofs.YtfmhcgadgakbhaaDoor
namespace Ke
open Go.RowKit
open Du (PRow DRow PX sd sd_len drow_at pV pV_len prow_at CpQ copyDN_any spared_any)
set_option linter.unusedVariables false
set_option linter.unusedSimpArgs false
set_option maxRecDepth 100000

/-- The reasons by the addresses that their variables hold. -/
def evA (ad : Nat → Addr) (k : Nat) : TypeId × Value := (142, .pointer (some (ad k)))
theorem senF {ad : Nat → Addr} {W : World} (h : Sen ad W) : ErrsF (evA ad) W ∧ W.cell? ⟨0, 0, none⟩ = some (.iface (evA ad 50).1 (evA ad 50).2) :=
  ⟨⟨(h.1 (58, 1) (by decide)).1, (h.1 (59, 2) (by decide)).1, (h.1 (57, 3) (by decide)).1, (h.1 (51, 4) (by decide)).1⟩, (h.1 (50, 0) (by decide)).1⟩
theorem cer_mem {ps : List PR} {num : Int} (h : cer ps num ≠ 0) : cer ps num = 50 ∨ cer ps num = 51 ∨ cer ps num = 57 ∨ cer ps num = 58 ∨ cer ps num = 59 := by
  unfold cer at h ⊢
  split
  · exact Or.inr (Or.inr (Or.inr (Or.inl rfl)))
  · rename_i q
    rw [if_neg q] at h
    rcases rer_mem ps with e | e | e | e | e
    · exact absurd e h
    · exact Or.inr (Or.inl e)
    · exact Or.inr (Or.inr (Or.inl e))
    · exact Or.inr (Or.inr (Or.inr (Or.inl e)))
    · exact Or.inr (Or.inr (Or.inr (Or.inr e)))
set_option maxHeartbeats 1000000 in
theorem lfault_nil (w : World) : Calls Tryd.prog 7 #[.nilIface, .int .i64 0, .int .i64 0] w fun e w' => e = .returned (.bool true) ∧ Below w.heap.size w w' := by
  have cF : Hid (Calls Tryd.prog 16 #[.nilIface] w fun e w' => e = .returned (.tuple #[.int .i64 0, .int .i64 0]) ∧ w' = w) := fault_nil w
  go_enter Tryd.func7, Tryd.ntmps7
  go_wp2_with fail
  refine cF.out.mono ?_
  rintro e W1 ⟨rfl, rfl⟩
  clear cF
  go_wp2_with fail
  go_ret
  exact ⟨rfl, Below.refl _ _⟩
set_option maxHeartbeats 1000000 in
theorem lfault_ref (ad : Nat → Addr) (k : Nat) (num : Int) (w : World) (h : Sen ad w) (hT : ErrT w) (hk : k = 50 ∨ k = 51 ∨ k = 57 ∨ k = 58 ∨ k = 59) :
    Calls Tryd.prog 7 #[.iface 50 (.agg #[.iface 142 (.pointer (some (ad k))), .int .i64 num]), .int .i64 (k : Int), .int .i64 num] w fun e w' => e = .returned (.bool true) ∧ Below w.heap.size w w' := by
  have cF : Hid (Calls Tryd.prog 16 #[.iface 50 (.agg #[.iface 142 (.pointer (some (ad k))), .int .i64 num])] w fun e w' => e = .returned (.tuple #[.int .i64 (k : Int), .int .i64 num]) ∧ Below w.heap.size w w') := fault_ref ad k num w h hT hk
  have k0 : ((k : Int) == 0) = false := by rw [beq_eq_false_iff_ne]; omega
  have kk : ((k : Int) == (k : Int)) = true := by rw [beq_iff_eq]
  have nn : (num == num) = true := by rw [beq_iff_eq]
  clear h hT hk
  go_enter Tryd.func7, Tryd.ntmps7
  go_wp2_with fail
  refine cF.out.mono ?_
  rintro e W1 ⟨rfl, hb⟩
  have hb' : Hid (Below w.heap.size w W1) := hb
  clear cF hb
  go_wp2_with fail
  go_ret
  exact ⟨rfl, hb'.out⟩
/-- What Print tells, by its text and its refusal. -/
def Pq (ad : Nat → Addr) (D : List (List PR)) (s : ByteArray) (x : Value) : Prop :=
  (Az D ∧ (dtx D).length ≤ 4096 ∧ s = S (dtx D) ∧ x = .nilIface) ∨ (Az D ∧ 4096 < (dtx D).length ∧ s = ⟨#[]⟩ ∧ x = refV (evA ad) 50 (D.length : Int)) ∨ (∃ k, ∃ h : k < D.length, Fs D k ∧ s = ⟨#[]⟩ ∧ x = refV (evA ad) (cer D[k] (k : Int)) (k : Int))
theorem prF_pq {ad : Nat → Addr} {w w' : World} {D : List (List PR)} {e : Ending} (h : PrF (evA ad) w D e w') : ∃ s x, e = .returned (.tuple #[.string s, x]) ∧ Pq ad D s x := by
  rcases h.2 with ⟨h1, h2, h3⟩ | ⟨h1, h2, h3⟩ | ⟨k, h1, h2, h3⟩
  · exact ⟨_, _, h3, Or.inl ⟨h1, h2, rfl, rfl⟩⟩
  · exact ⟨_, _, h3, Or.inr (Or.inl ⟨h1, h2, rfl, rfl⟩)⟩
  · exact ⟨_, _, h3, Or.inr (Or.inr ⟨k, h1, h2, rfl, rfl⟩)⟩
theorem rpF_pq {ad : Nat → Addr} {w w' : World} {D : List (List PR)} {e : Ending} {s : ByteArray} {x : Value} (hq : Pq ad D s x) (h : RpF w D e w') :
    ∃ f at_ : Int, e = .returned (.tuple #[.string s, .int .i64 f, .int .i64 at_]) ∧ ∀ W, Sen ad W → ErrT W → Calls Tryd.prog 7 #[x, .int .i64 f, .int .i64 at_] W fun e w' => e = .returned (.bool true) ∧ Below W.heap.size W w' := by
  rcases h.2 with ⟨h1, h2, h3⟩ | ⟨h1, h2, h3⟩ | ⟨k, h1, h2, h3⟩
  · rcases hq with ⟨q1, q2, q3, q4⟩ | ⟨q1, q2, q3, q4⟩ | ⟨m, q1, q2, q3, q4⟩
    · subst q3 q4
      exact ⟨0, 0, h3, fun W _ _ => lfault_nil W⟩
    · omega
    · exact (fs_az q2 h1).elim
  · rcases hq with ⟨q1, q2, q3, q4⟩ | ⟨q1, q2, q3, q4⟩ | ⟨m, q1, q2, q3, q4⟩
    · omega
    · subst q3 q4
      exact ⟨50, _, h3, fun W hS hT => lfault_ref ad 50 _ W hS hT (Or.inl rfl)⟩
    · exact (fs_az q2 h1).elim
  · rcases hq with ⟨q1, q2, q3, q4⟩ | ⟨q1, q2, q3, q4⟩ | ⟨m, q1, q2, q3, q4⟩
    · exact (fs_az h2 q1).elim
    · exact (fs_az h2 q1).elim
    · have := fs_one h2 q2
      subst this
      subst q3 q4
      exact ⟨_, _, h3, fun W hS hT => lfault_ref ad _ _ W hS hT (cer_mem h2.2.2)⟩
theorem str_self (s : ByteArray) : (s.toList == s.toList) = true := beq_self_eq_true _
set_option maxHeartbeats 4000000 in
theorem dnPrint_walk (ad : Nat → Addr) (sa : Option Addr) (sc n : Nat) (L : List PX) (w : World) (hS : Sen ad w) (hE : ErrT w) (hG : RowTab w) (hn : L.length = n) (hr : DRow w sa L) (hz : ∀ r ∈ L, ∀ p ∈ r.2.2, p.1.length + p.2.length ≤ 4194300) (hzl : ∀ r ∈ L, r.2.2.length ≤ 1073741824) (hnb : n ≤ 1073741824) (hD : dW (sd L) ≤ 900000000000) :
    Calls Tryd.prog 3 #[.slice sa n sc] w fun e w' => e = .returned (.bool true) ∧ Below w.heap.size w w' := by
  have nb : (n : Int) ≤ 1073741824 := by omega
  have hC : Hid (Calls Tryd.prog 4 #[.slice sa n sc] w fun e w' => ∃ a c Os, e = .returned (.slice a n c) ∧ CpQ w L n a c Os w') := (copyDN_any sa sc L n w hn hr (fun r hr => by have := hzl r hr; omega) (by omega)).mono (fun e w' h => by obtain ⟨a, c, Os, h1, h2⟩ := h; exact ⟨a, c, Os, h1, h2⟩)
  have hn' : Hid (L.length = n) := hn
  have hr' : Hid (DRow w sa L) := hr
  have hS' : Hid (Sen ad w ∧ ErrT w ∧ RowTab w) := ⟨hS, hE, hG⟩
  have hz' : Hid ((∀ r ∈ L, ∀ p ∈ r.2.2, p.1.length + p.2.length ≤ 4194300) ∧ (∀ r ∈ L, r.2.2.length ≤ 1073741824) ∧ n ≤ 1073741824 ∧ dW (sd L) ≤ 900000000000) := ⟨hz, hzl, hnb, hD⟩
  clear hS hE hG hn hr hz hzl hnb hD
  go_enter Tryd.func3, Tryd.ntmps3
  go_wp2_with fail
  refine hC.out.mono ?_
  rintro e W1 ⟨a, c, Os, rfl, hQ⟩
  have hQ' : Hid (CpQ w L n a c Os W1) := hQ
  have hb1 : Hid (Below w.heap.size w W1) := by obtain ⟨_, _, _, _, _, _, h7, _⟩ := hQ; exact h7
  have hsd : Hid (sd Os = sd L) := hQ.sd hn'.out
  have hmem : Hid (∀ r ∈ Os, ∃ r' ∈ L, r'.2.2 = r.2.2) := fun r hr => by
    have h1 : r.2.2 ∈ sd Os := List.mem_map.2 ⟨r, hr, rfl⟩
    rw [hsd.out] at h1
    obtain ⟨r', h2, h3⟩ := List.mem_map.1 h1
    exact ⟨r', h2, h3⟩
  have hOl : Hid (Os.length = n) := by unfold Hid; rw [← sd_len Os, hsd.out, sd_len]; exact hn'.out
  have hP : Hid (Calls Tryd.prog 5 #[.slice a n c] W1 fun e w' => PrF (evA ad) W1 (sd L) e w') := by
    have h := print_any (evA ad) a c n Os W1 (senF (hS'.out.1.below hb1.out)).1 (senF (hS'.out.1.below hb1.out)).2 hOl.out hQ.grow.1 (fun r hr p hp => by obtain ⟨r', h2, h3⟩ := hmem.out r hr; rw [← h3] at hp; have := hz'.out.1 r' h2 p hp; omega) (fun r hr => by obtain ⟨r', h2, h3⟩ := hmem.out r hr; rw [← h3]; exact hz'.out.2.1 r' h2) hz'.out.2.2.1 (by rw [hsd.out]; exact hz'.out.2.2.2)
    rw [hsd.out] at h
    exact h
  clear hC hQ hmem hOl hsd
  go_wp2_with fail
  refine hP.out.mono ?_
  rintro e W2 hp
  have hb2 : Hid (Below w.heap.size w W2) := hb1.out.trans (hp.1.mono hb1.out.size)
  have hQ2 : Hid (CpQ w L n a c Os W2) := hQ'.out.below hp.1
  obtain ⟨s, x, rfl, hq⟩ := prF_pq hp
  have hq' : Hid (Pq ad (sd L) s x) := hq
  have hR : Hid (Calls Tryd.prog 6 #[.slice sa n sc] W2 fun e w' => RpF W2 (sd L) e w') := rprint_any sa sc n L W2 (rowTab_below hS'.out.2.2 hb2.out) hn'.out (hr'.out.below hb2.out) hz'.out.1 hz'.out.2.1 hz'.out.2.2.1 hz'.out.2.2.2
  clear hP hp hq hQ' hb1
  go_wp2_with fail
  refine hR.out.mono ?_
  rintro e W3 hp
  have hb3 : Hid (Below w.heap.size w W3) := hb2.out.trans (hp.1.mono hb2.out.size)
  have hQ3 : Hid (CpQ w L n a c Os W3) := hQ2.out.below hp.1
  obtain ⟨f, at_, rfl, hF⟩ := rpF_pq hq'.out hp
  have hF3 : Hid (Calls Tryd.prog 7 #[x, .int .i64 f, .int .i64 at_] W3 fun e w' => e = .returned (.bool true) ∧ Below W3.heap.size W3 w') := hF W3 (hS'.out.1.below hb3.out) ((hb3.out.cell (World.block_lt_of_cell? _ _ hS'.out.2.1)).trans hS'.out.2.1)
  have ss := str_self s
  clear hR hp hF hQ2 hb2 hq'
  go_wp2_with fail
  refine hF3.out.mono ?_
  rintro e W4 ⟨rfl, hb⟩
  have hb4 : Hid (Below w.heap.size w W4) := hb3.out.trans (hb.mono hb3.out.size)
  have hQ4 : Hid (CpQ w L n a c Os W4) := hQ3.out.below hb
  have hV : Hid (Calls Tryd.prog 8 #[.slice a n c, .slice sa n sc] W4 fun e w' => e = .returned (.bool true) ∧ ∃ q, w' = W4.drewN q) := spared_any w a sa c sc Os L n W4 hn'.out (fun r hr => by have := hz'.out.2.1 r hr; omega) (by have := hz'.out.2.2.1; omega) (hr'.out.below hb4.out) hQ4.out
  clear hF3 hb hb3 hQ3 hQ4
  go_wp2_with fail
  refine hV.out.mono ?_
  rintro e W5 ⟨rfl, q, hq⟩
  have hfin : Hid (Below w.heap.size w W5) := by
    rw [hq]
    exact hb4.out.trans ⟨rfl, rfl, rfl, Nat.le_refl _, fun _ _ => rfl⟩
  clear hV hq hb4
  go_wp2_with fail
  go_ret
  exact ⟨rfl, hfin.out⟩
end Ke
end Go.Proofs.YtfmhcgadgakbhaaDoor
