import Derived.Test.YthpfnajgbocpnaaPtStp
namespace Go.Proofs.Ythpfnajgbocpnaa
namespace Pt
open Go.RowKit Go.Sort Go.Lib
open PtMath (Inc setOf cnt)
open PtHpM (Hd ky kf swpH Hp Gd sw)
set_option linter.unusedVariables false
set_option maxRecDepth 100000
open PtT (Rk TB en)
variable {Tk : PtT.Rk}

theorem info_cu : (Try.prog.info? 45).map (fun i => (i.zero, i.size, i.bytes)) = some (some (.agg #[.slice none 0 0]), 1, 24) := by kernel_rfl
theorem ownH_nil (W : World) (B : Nat) : OwnH W B (.slice none 0 0) [] := ⟨rfl, Or.inl ⟨rfl, rfl⟩⟩
/-- One head more, of a row of one. -/
theorem push_hd (w : World) {ops : Array Oper} {rest : List Oper} {o : Oper} {a : Act} {Q : Exit → Act → World → Prop} (hgd : o.guard = none) (s x : Operand)
    (ho : o.op = .call { callee := .builtin .append, args := #[s, x], argTypes := #[51, 51] }) (B : Nat) (v : Value) (H : List Hd) (m : Hd) (g : Nat)
    (hs : a.eval s = v) (hx : a.eval x = .slice (some ⟨g, 0, none⟩) 1 1) (hown : OwnH w B v H) (hg : w.heap[g]? = some (.cells #[hv m] 45 (0, 0))) (hB : B ≤ w.heap.size) (hl : (H.length + 1) * 24 ≤ 140737488355328)
    (h : ∀ g' cap w', OwnH w' B (.slice (some ⟨g', 0, none⟩) (H.length + 1) cap) (H ++ [m]) → Below B w w' → wpList Try.prog ops Q rest (a.put o.dst (.slice (some ⟨g', 0, none⟩) (H.length + 1) cap)) w') :
    wpList Try.prog ops Q (o :: rest) a w := by
  obtain ⟨i0, hi, hz0, hz1, hz2⟩ := info_parts info_cu
  refine wpList_append_lies w hgd s x 51 ho B 45 i0 _ 1 24 Try.underlying51 hi hz0 hz1 hz2 rfl (by decide) v H.length (H.map hv) hs hown ⟨g, 0, none⟩ 1 1 [hv m] hx rfl (World.news_of_block hg) (by intro u hu; simp at hu; subst hu; rfl) (by decide) (by unfold maxLen; omega) (by omega) hB w.heap.size rfl ?_
  intro g' cap w' h1 h2 h3 _
  refine h g' cap w' ?_ ?_
  · unfold OwnH
    rw [List.map_append, List.length_append]
    exact h1
  · refine (Below.refl _ _).grown h2 hB ?_
    intro k hk
    exact (World.ownsRow.lt (show w.ownsRow B 45 1 v H.length (H.map hv) from hown) _ hk).1
theorem ownH_form {W : World} {B : Nat} {v : Value} {H : List Hd} (h : OwnH W B v H) : (v = .slice none 0 0 ∧ H = []) ∨ ∃ g cap, v = .slice (some ⟨g, 0, none⟩) H.length cap ∧ B ≤ g := by
  rcases h.2 with ⟨rfl, hn⟩ | ⟨g, cap, cur, rfl, h3, _⟩
  · exact Or.inl ⟨rfl, List.eq_nil_of_length_eq_zero hn⟩
  · exact Or.inr ⟨g, cap, rfl, h3⟩
/-- A row of lists. -/
def SRow (w : World) (sa : Option Addr) (Ss : List Hd) : Prop := ∀ i (hi : i < Ss.length), ∃ b off, sa = some ⟨b, off, none⟩ ∧ w.cell? ⟨b, off + i, none⟩ = some (hv Ss[i])
theorem SRow.below {w w' : World} {sa : Option Addr} {Ss : List Hd} (h : SRow w sa Ss) (hb : Below w.heap.size w w') : SRow w' sa Ss := fun i hi => by
  obtain ⟨b, off, e, h1⟩ := h i hi
  refine ⟨b, off, e, ?_⟩
  rw [hb.cell (World.block_lt_of_cell? w _ h1)]
  exact h1
/-- Those that have a number. -/
def some1 (Ss : List Hd) : List Hd := Ss.filter fun h => decide (0 < h.2.2.length)
theorem HdOk.below {W W' : World} {B : Nat} {h : Hd} (hh : HdOk Tk W B h) (hB : B ≤ W.heap.size) (hb : Below B W W') : HdOk Tk W' B h := by
  refine ⟨hh.1.of_block (fun k hk _ => hb.block k ?_), hh.2⟩
  obtain ⟨a, c, l⟩ := h
  cases a with
  | none => cases hk
  | some x => simp at hk; have := hh.2.2.2 x rfl; omega

set_option maxRecDepth 100000 in
set_option maxHeartbeats 1000000 in
theorem headsOf_any (sa : Option Addr) (Ss : List Hd) (sc : Nat) (w : World) (hr : SRow w sa Ss) (hok : ∀ h ∈ Ss, 0 < h.2.2.length → HdOk Tk w w.heap.size h) (hl : Ss.length * 24 ≤ 140737488355328) :
    Calls Try.prog 30 #[.slice sa Ss.length sc] w fun e w' => ∃ v H', e = .returned v ∧ OwnH w' w.heap.size v H' ∧ H'.Perm (some1 Ss) ∧ Hp (kf H') H'.length 0 ∧ Below w.heap.size w w' := by
  have hS : Hid (SRow w sa Ss ∧ (∀ h ∈ Ss, 0 < h.2.2.length → HdOk Tk w w.heap.size h) ∧ Ss.length * 24 ≤ 140737488355328) := ⟨hr, hok, hl⟩
  have sb : (Ss.length : Int) ≤ 17592186044416 := by omega
  obtain ⟨n, hn⟩ : ∃ n, Ss.length = n := ⟨_, rfl⟩
  rw [hn] at sb ⊢
  have hn' : Hid (Ss.length = n) := hn
  clear hr hok hl hn
  go_enter Try.func30, Try.ntmps30
  go_wp2_with fail
  go_loopw [3, 9] (fun v iv wr => ∃ k : Nat, iv = .int .i64 (k : Int) ∧ k ≤ n ∧ Hid (OwnH wr w.heap.size v (some1 (Ss.take k)) ∧ Below w.heap.size w wr)) (fun _ iv _ => n - (intOf iv).toNat)
  case atStart => exact ⟨0, rfl, Nat.zero_le _, ownH_nil _ _, Below.refl _ _⟩
  case round =>
    obtain ⟨k, rfl, hk, hQ⟩ := hrel
    have k0 : (0 : Int) ≤ (k : Int) := Int.natCast_nonneg _
    by_cases hlt : k < n
    · have k1 : (k : Int) < (n : Int) := Int.ofNat_lt.2 hlt
      have hkS : k < Ss.length := by rw [hn'.out]; exact hlt
      obtain ⟨b, off, rfl, c1⟩ := (hS.out.1.below hQ.out.2) k hkS
      have htk : some1 (Ss.take (k + 1)) = some1 (Ss.take k) ++ (if 0 < Ss[k].2.2.length then [Ss[k]] else []) := by
        unfold some1
        rw [List.take_succ_eq_append_getElem hkS, List.filter_append]
        by_cases e : 0 < Ss[k].2.2.length
        · simp [e]
        · simp [e]
      have hlen : Hid ((some1 (Ss.take k)).length + 1 ≤ n) := by
        have h1 : (some1 (Ss.take k)).length ≤ (Ss.take k).length := List.length_filter_le _ _
        rw [List.length_take] at h1
        unfold Hid
        omega
      have hlt' : Hid (k < n) := hlt
      have hnb : Hid (n * 24 ≤ 140737488355328) := by have := hS.out.2.2; rw [hn'.out] at this; exact this
      generalize hx : Ss[k] = x at *
      by_cases e : 0 < x.2.2.length
      · rw [if_pos e] at htk
        have htk' : Hid (some1 (Ss.take (k + 1)) = some1 (Ss.take k) ++ [x]) := htk
        have e' : (0 : Int) < (x.2.2.length : Int) := Int.ofNat_lt.2 e
        generalize some1 (Ss.take k) = G at *
        obtain ⟨xa, xc, xl⟩ := x
        simp only [hv] at c1
        dsimp only at e'
        clear hk hlt hkS htk e hx
        generalize hnl : xl.length = nl at *
        go_wp2_with (at_builtin; refine push_hd _ rfl _ _ rfl w.heap.size _ G (xa, xc, xl) _ rfl rfl ?_ ?_ ?_ ?_ ?_; (exact World.ownsRow.alloc hQ.out.1 _); (simp only [hv, hnl]; exact heap_alloc_new _ _); (have := hQ.out.2.size; simp; omega); (have := hlen.out; have := hnb.out; omega); intro g' cap' w3 hO3 hb3)
        have hfin : Hid (OwnH w3 w.heap.size (.slice (some ⟨g', 0, none⟩) (G.length + 1) cap') (some1 (Ss.take (k + 1))) ∧ Below w.heap.size w w3) := ⟨by rw [htk'.out]; exact hO3, (hQ.out.2.alloc hQ.out.2.size _).trans hb3⟩
        clear hO3 hb3
        go_roundw
        case rel => exact ⟨k + 1, by simp, hlt'.out, hfin⟩
        case measure => have := hlt'.out; simp [intOf]; omega
      · rw [if_neg e, List.append_nil] at htk
        have hfin : Hid (OwnH wr w.heap.size u3 (some1 (Ss.take (k + 1))) ∧ Below w.heap.size w wr) := ⟨by rw [htk]; exact hQ.out.1, hQ.out.2⟩
        have e' : x.2.2.length = 0 := by omega
        obtain ⟨xa, xc, xl⟩ := x
        simp only [hv] at c1
        dsimp only at e'
        rw [e'] at c1
        clear hk hlt hkS htk e hx hQ
        go_wp2_with fail
        go_roundw
        case rel => exact ⟨k + 1, by simp, hlt'.out, hfin⟩
        case measure => have := hlt'.out; simp [intOf]; omega
    · have e : k = n := by omega
      subst e
      have k1 : ¬ (k : Int) < (k : Int) := by omega
      have hW : Hid (OwnH wr w.heap.size u3 (some1 Ss) ∧ Below w.heap.size w wr) := by
        have := hQ.out
        rw [← hn'.out, List.take_length] at this
        exact this
      have hokW : Hid (∀ h ∈ some1 Ss, HdOk Tk wr w.heap.size h) := fun h hh => by
        unfold some1 at hh
        rw [List.mem_filter] at hh
        exact (hS.out.2.1 h hh.1 (by simpa using hh.2)).below (Nat.le_refl _) hW.out.2
      have hlG : Hid ((some1 Ss).length ≤ 17592186044416) := by
        have h1 : (some1 Ss).length ≤ Ss.length := List.length_filter_le _ _
        have := hS.out.2.2
        unfold Hid
        omega
      clear hQ hk hlt
      obtain ⟨wo, rfl⟩ : ∃ wo, wo = wr := ⟨_, rfl⟩
      rcases ownH_form hW.out.1 with ⟨e3, hG⟩ | ⟨g, cap, e3, hg⟩
      · subst e3
        have hE : Hid (OwnH wo w.heap.size (.slice none 0 0) [] ∧ ([] : List Hd).Perm (some1 Ss) ∧ Hp (kf []) ([] : List Hd).length 0 ∧ Below w.heap.size w wo) := ⟨ownH_nil _ _, by rw [hG], fun j h1 h2 => by simp at h2, hW.out.2⟩
        clear hW hokW hlG hG
        go_wp2_with fail
        go_loopw [6] (fun iv wr' => iv = .int .i64 (-1) ∧ wr' = wo) (fun _ _ => 0)
        case atStart => exact ⟨by simp, by trivial⟩
        case round =>
          obtain ⟨rfl, rfl⟩ := hrel
          go_wp2_with fail
          go_ret
          exact ⟨_, [], rfl, hE.out⟩
      · subst e3
        obtain ⟨m, hm⟩ : ∃ m, (some1 Ss).length = m := ⟨_, rfl⟩
        have hm' : Hid ((some1 Ss).length = m) := hm
        have hW' : Hid (OwnH wo w.heap.size (.slice (some ⟨g, 0, none⟩) m cap) (some1 Ss) ∧ Below w.heap.size w wo ∧ m ≤ 17592186044416) := ⟨by have := hW.out.1; rw [hm] at this; exact this, hW.out.2, by have := hlG.out; omega⟩
        rw [hm]
        have mb : (m : Int) ≤ 17592186044416 := by have := hW'.out.2.2; omega
        have m0 : (0 : Int) ≤ (m : Int) := Int.natCast_nonneg _
        clear hW hlG hm
        go_wp2_with fail
        go_loopw [6] (fun iv wr' => ∃ (i : Nat) (Hc : List Hd), iv = .int .i64 ((i : Int) - 1) ∧ i ≤ m / 2 ∧ Hid (Hc.length = m ∧ OwnH wr' w.heap.size (.slice (some ⟨g, 0, none⟩) m cap) Hc ∧ Hc.Perm (some1 Ss) ∧ Hp (kf Hc) m i ∧ ButB g wo wr' ∧ ∀ h ∈ Hc, HdOk Tk wr' w.heap.size h)) (fun iv _ => (intOf iv + 1).toNat)
        case atStart => exact ⟨m / 2, some1 Ss, by simp, Nat.le_refl _, hm'.out, hW'.out.1, List.Perm.refl _, fun j h1 h2 h3 => by omega, ButB.refl _ _, hokW.out⟩
        case round =>
          obtain ⟨i, Hc, rfl, hi, hQ⟩ := hrel
          have i0 : (0 : Int) ≤ (i : Int) := Int.natCast_nonneg _
          have ib : (i : Int) ≤ 17592186044416 := by have := hW'.out.2.2; omega
          by_cases h1 : 1 ≤ i
          · have i1 : (0 : Int) ≤ (i : Int) - 1 := by omega
            have hi' : Hid (1 ≤ i ∧ i ≤ m / 2) := ⟨h1, hi⟩
            have hSk : Hid (Calls Try.prog 44 #[.slice (some ⟨g, 0, none⟩) m cap, .int .i64 ((i : Int) - 1)] wr fun e w' => e = .returned (.tuple #[]) ∧ ∃ H', H'.length = m ∧ OwnH w' w.heap.size (.slice (some ⟨g, 0, none⟩) m cap) H' ∧ H'.Perm (some1 Ss) ∧ Hp (kf H') m (i - 1) ∧ ButB g wo w' ∧ ∀ h ∈ H', HdOk Tk w' w.heap.size h) := by
              obtain ⟨q1, q2, q3, q4, q5, q6⟩ := hQ.out
              rw [← q1] at q2
              have := sink_any g cap (i - 1) w.heap.size Hc wr q2 q6 (by omega) (by have := hW'.out.2.2; omega) (by rw [q1, show i - 1 + 1 = i by omega]; exact q4)
              rw [q1, show (((i - 1 : Nat)) : Int) = (i : Int) - 1 by omega] at this
              refine this.mono ?_
              rintro e w' ⟨rfl, H', r1, r2, r3, r4⟩
              exact ⟨rfl, H', by rw [r2.length_eq]; exact q1, r1, r2.trans q3, r3, q5.trans r4, fun h hh => (q6 h (r2.mem_iff.1 hh)).but r4 hg⟩
            clear hQ h1 hi
            go_wp2_with (go_at_call 44; refine hSk.out.mono ?_; rintro e w5 ⟨rfl, H', hR⟩)
            have hR' : Hid _ := hR
            clear hR
            go_roundw
            case rel => exact ⟨i - 1, H', by have := hi'.out; simp; omega, by have := hi'.out; omega, hR'.out⟩
            case measure => have := hi'.out; simp [intOf]; omega
          · have e : i = 0 := by omega
            subst e
            have hE : Hid (∃ H', OwnH wr w.heap.size (.slice (some ⟨g, 0, none⟩) m cap) H' ∧ H'.Perm (some1 Ss) ∧ Hp (kf H') H'.length 0 ∧ Below w.heap.size w wr) := by
              obtain ⟨q1, q2, q3, q4, q5, q6⟩ := hQ.out
              exact ⟨Hc, q2, q3, by rw [q1]; exact q4, hW'.out.2.1.trans (q5.below hg)⟩
            clear hQ hi h1
            go_wp2_with fail
            go_ret
            obtain ⟨H', q⟩ := hE.out
            exact ⟨_, H', rfl, q⟩
end Pt
end Go.Proofs.Ythpfnajgbocpnaa
