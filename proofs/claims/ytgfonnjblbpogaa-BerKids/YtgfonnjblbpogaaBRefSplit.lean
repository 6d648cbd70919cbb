import Derived.Test.YtgfonnjblbpogaaBSpl
import Derived.Deep.DeepCutAuto
namespace Go.Proofs.Ytgfonnjblbpogaa
open Go.RowKit
open BerMath (Hd HR num hAt wAt)

theorem wAt_ok (b : List UInt8) (p e : Nat) (h : Hd) (hw : wAt b p e = .ok h) : hAt b p e = .ok h ∧ p + h.size + h.len ≤ e := by
  unfold wAt at hw
  cases hh : hAt b p e with
  | ok x =>
    rw [hh] at hw
    by_cases h1 : e < p + (x.size + x.len)
    · simp only [if_pos h1] at hw; cases hw
    · simp only [if_neg h1] at hw
      injection hw with hw
      subst hw
      exact ⟨rfl, by omega⟩
  | error o =>
    cases o with
    | some cq =>
      obtain ⟨c, q⟩ := cq
      rw [hh] at hw; cases hw
    | none => rw [hh] at hw; cases hw
theorem wAt_er (b : List UInt8) (p e c q : Nat) (hw : wAt b p e = HR.er c q) : c = 21 ∨ c = 22 ∨ c = 23 := by
  unfold wAt at hw
  cases hh : hAt b p e with
  | ok x =>
    rw [hh] at hw
    by_cases h1 : e < p + (x.size + x.len)
    · simp only [if_pos h1] at hw; cases hw
    · simp only [if_neg h1] at hw; cases hw
  | error o =>
    cases o with
    | some cq =>
      obtain ⟨c', q'⟩ := cq
      rw [hh] at hw
      have h1 := (BerMath.er_inj hw).1
      subst h1
      exact hAt_er _ _ _ _ _ hh
    | none => rw [hh] at hw; cases hw

theorem ownE_below {w w' : World} {B : Nat} {v : Value} {l : List Elm} (h : OwnE w B v l) (hb : Below w.heap.size w w') : OwnE w' B v l := by
  rcases h with ⟨h1, ⟨rfl, h2⟩ | ⟨g, cap, cur, rfl, h3, h4, h5⟩⟩
  · exact ⟨h1, Or.inl ⟨rfl, h2⟩⟩
  · have hg : g < w.heap.size := by
      rcases Nat.lt_or_ge g w.heap.size with h' | h'
      · exact h'
      · rw [Array.getElem?_eq_none h'] at h4; cases h4
    exact ⟨h1, Or.inr ⟨g, cap, cur, rfl, h3, by rw [hb.block g hg]; exact h4, h5⟩⟩
theorem heap_second (w : World) (o : Obj) (c : Array Value) (t : TypeId) : (((w.alloc o).alloc (.cells c t)).drew).heap[w.heap.size + 1]? = some (.cells c t) := by
  have h := heap_alloc_new (w.alloc o) (.cells c t)
  rw [World.size_alloc] at h
  exact h
theorem w_pqr' (p x y : Nat) (hp : p ≤ 140737488355328) (hx : x ≤ 6) (hy : y < 4294967296) : IntKind.i64.wrap (((p + x : Nat) : Int) + (y : Int)) = ((p + x + y : Nat) : Int) := by rw [IntKind.wrap_i64]; omega
/-- What a Split leaves: the list, a row of the call's own; or the fault. -/
def splitQ (s : ByteArray) (B : Nat) (r : Ending) (w' : World) : Prop :=
  (∃ l v, spl s (s.size + 1) 0 = .ok l ∧ r = .returned (.tuple #[v, .int .i64 0, .int .i64 0]) ∧ OwnE w' B v l) ∨
  (∃ c q, spl s (s.size + 1) 0 = .error (c, q) ∧ r = .returned (.tuple #[.slice none 0 0, .int .i64 c, .int .i64 q]))

set_option maxHeartbeats 2000000 in
theorem refSplit_any (s : ByteArray) (w : World) (hm : s.size ≤ 1048576) :
    Calls Try.prog 21 #[.string s] w fun r w' => splitQ s w.heap.size r w' ∧ Below w.heap.size w w' := by
  have hm' : Hid (s.size ≤ 1048576) := hm
  go_enter Try.func21, Try.ntmps21
  go_wp2_with fail
  go_loopw [5, 6] (fun lv pv wr => ∃ (p f : Nat) (l : List Elm), pv = .int .i64 (p : Int) ∧ p ≤ s.size ∧ s.size + 1 ≤ f + p ∧ l.length ≤ p ∧ Hid (spl s (s.size + 1) 0 = ahead l (spl s f p)) ∧ OwnE wr w.heap.size lv l ∧ Below w.heap.size w wr) (fun _ pv _ => s.size - (intOf pv).toNat)
  case atStart => exact ⟨0, s.size + 1, [], rfl, Nat.zero_le _, by omega, by simp, by unfold Hid; rw [ahead_nil], ownE_nil _ _, Below.refl _ _⟩
  case round =>
    obtain ⟨p, f, l, rfl, hp, hf, hl, hsp, hown, HB⟩ := hrel
    obtain ⟨f', rfl⟩ : ∃ f', f = f' + 1 := ⟨f - 1, by omega⟩
    by_cases hlt : p < s.size
    · have hW : ∀ W, Hid (Calls Try.prog 51 #[.string s, .int .i64 (p : Int), .int .i64 (s.size : Int)] W fun r w' => r = .returned (refWV s.data.toList p s.size) ∧ Below W.heap.size W w') := fun W => refWhole_any s p s.size W (Nat.le_refl _) (by omega) hp
      have hlt' : Hid (p < s.size) := hlt
      cases hw : wAt s.data.toList p s.size with
      | ok h =>
        have hv : refWV s.data.toList p s.size = .tuple #[.agg #[.int .i64 (h.cls : Int), .bool h.made, .int .i64 (h.tag : Int), .int .i64 (h.len : Int), .int .i64 (h.size : Int)], .int .i64 0, .int .i64 (p : Int)] := by unfold refWV; rw [hw]; rfl
        rw [hv] at hW
        obtain ⟨hh, hle⟩ := wAt_ok _ _ _ _ hw
        obtain ⟨k1, k2, k3, _⟩ := BerMath.hAt_ok _ _ _ _ hh
        have hnext : Hid (spl s (s.size + 1) 0 = ahead (l ++ [elOf s h p]) (spl s f' (p + h.size + h.len))) := by
          unfold Hid; rw [hsp.out, spl_ok s f' p h (by omega) hw, ahead_snoc]
        have wA := w_pq p h.size (by omega) k2
        have wE := w_pqr p h.size h.len (by omega) k2 k3
        have wE' := w_pqr' p h.size h.len (by omega) k2 k3
        have hAE : p + h.size ≤ p + h.size + h.len := Nat.le_add_right _ _
        have hpE : Hid (p + 2 ≤ p + h.size + h.len) := by unfold Hid; omega
        have hel : Hid (elOf s h p = ⟨h.cls, h.made, h.tag, s.extract (p + h.size) (p + h.size + h.len)⟩) := rfl
        have hf2 : Hid (s.size + 1 ≤ f' + (p + h.size + h.len)) := by unfold Hid; omega
        have hl2 : Hid (l.length ≤ 1048576 ∧ l.length ≤ p) := by unfold Hid; omega
        generalize p + h.size + h.len = E at *
        generalize p + h.size = A at *
        have a0 : (0 : Int) ≤ (A : Int) := Int.natCast_nonneg _
        have a1 : (A : Int) ≤ (E : Int) := Int.ofNat_le.2 hAE
        have a2 : (E : Int) ≤ (s.size : Int) := Int.ofNat_le.2 hle
        clear hv hw hsp hh k1 k2 k3 hf hl hlt hp
        go_upto_region 10 with (go_at_call 51; refine (hW _).out.mono ?_; rintro r w1 ⟨rfl, hb1⟩; have hown1 : OwnE w1 w.heap.size u5 l := ownE_below hown hb1; replace HB := HB.trans (hb1.mono HB.size); clear hb1)
        have hownA : OwnE (w1.alloc (.cells #[.int .i64 (h.cls : Int), .bool h.made, .int .i64 (h.tag : Int), .int .i64 (h.len : Int), .int .i64 (h.size : Int)] 29)) w.heap.size u5 l := World.ownsRow.alloc hown1 _
        have hne : u5.ownBlock ≠ some w1.heap.size := fun hk => Nat.lt_irrefl _ (hown1.lt _ hk).2
        have hB1 : w.heap.size ≤ w1.heap.size := HB.size
        go_region_held3 (fun w' => w'.cell? ⟨w1.heap.size, 0, none⟩ = some (.int .i64 (h.cls : Int)) ∧ w'.cell? ⟨w1.heap.size, 1, none⟩ = some (.bool h.made) ∧ w'.cell? ⟨w1.heap.size, 2, none⟩ = some (.int .i64 (h.tag : Int)) ∧ w'.cell? ⟨w1.heap.size, 3, none⟩ = some (.int .i64 (h.len : Int)))
          (first
            | go_keep
            | (go_split_ands
               refine ⟨?_, ?_, ?_, ?_⟩
               all_goals (rw [hgrow1.cell_far _ (by first | (simp; done) | (simp; omega)) (by first | exact hne | (intro hh; exact hne hh) | (intro hh; exact hne hh.symm))]; assumption)))
          ((refine step_elem _ (by rfl) _ _ (by rfl) w.heap.size _ l ⟨h.cls, h.made, h.tag, s.extract A E⟩ _ (by rfl) (by rfl) ?_ ?_ ?_ hl2.out.1 ?_; (first | exact World.ownsRow.drew (World.ownsRow.alloc hownA _) | exact World.ownsRow.alloc (World.ownsRow.drew hownA) _); (first | exact heap_second _ _ _ _ | (rw [World.alloc_drew]; exact heap_second _ _ _ _)); (simp; omega); intro v2 w2 hown2 hgrow1 hb2))
        have HBf : Below w.heap.size w w2 := by
          refine Below.trans ?_ hb2
          repeat' first | exact HB | refine Below.drew ?_ | refine Below.alloc ?_ (by first | exact hB1 | (simp; omega)) _
        have hlen2 : Hid ((l ++ [elOf s h p]).length ≤ E) := by
          unfold Hid
          rw [List.length_append]
          have h1 := hl2.out.2
          have h2 := hpE.out
          simp
          omega
        have hEs : Hid (E ≤ s.size) := hle
        clear hb2 hgrow1 hownA hown1
        go_wp2_with fail
        go_roundw
        case rel => exact ⟨E, f', l ++ [elOf s h p], by first | rfl | (rw [wE]), hEs.out, hf2.out, hlen2.out, hnext, by rw [hel.out]; exact hown2, HBf⟩
        case measure =>
          have h1 := hpE.out
          have h2 := hlt'.out
          simp [intOf]
          omega
      | error o =>
        cases o with
        | some cq =>
          obtain ⟨c, q⟩ := cq
          have hc := wAt_er _ _ _ _ _ hw
          have hv : refWV s.data.toList p s.size = .tuple #[.agg #[.int .i64 0, .bool false, .int .i64 0, .int .i64 0, .int .i64 0], .int .i64 (c : Int), .int .i64 (q : Int)] := by unfold refWV; rw [hw]; rfl
          rw [hv] at hW
          have hres : Hid (spl s (s.size + 1) 0 = .error ((c : Int), (q : Int))) := by unfold Hid; rw [hsp.out, spl_er s f' p c q (by omega) hw]; rfl
          have d1 : ((c : Int) == -1) = false := by rw [beq_eq_false_iff_ne]; omega
          have d2 : ((c : Int) == 0) = false := by rw [beq_eq_false_iff_ne]; omega
          clear hc hv hw hsp hown
          go_wp2_with (go_at_call 51; refine (hW _).out.mono ?_; rintro r w1 ⟨rfl, hb1⟩; replace HB := HB.trans (hb1.mono HB.size); clear hb1)
          refine bodyPost_ret_by (v := .tuple #[.slice none 0 0, .int .i64 (c : Int), .int .i64 (q : Int)]) (by simp [results, Try.results21]) rfl ⟨Or.inr ⟨_, _, hres.out, rfl⟩, HB.alloc HB.size _⟩
        | none =>
          have hv : refWV s.data.toList p s.size = .tuple #[.agg #[.int .i64 0, .bool false, .int .i64 0, .int .i64 0, .int .i64 0], .int .i64 (-1), .int .i64 (s.size : Int)] := by unfold refWV; rw [hw]; rfl
          rw [hv] at hW
          have hres : Hid (spl s (s.size + 1) 0 = .error (20, (s.size : Int))) := by unfold Hid; rw [hsp.out, spl_miss s f' p (by omega) hw]; rfl
          clear hv hw hsp hown
          go_wp2_with (go_at_call 51; refine (hW _).out.mono ?_; rintro r w1 ⟨rfl, hb1⟩; replace HB := HB.trans (hb1.mono HB.size); clear hb1)
          refine bodyPost_ret_by (v := .tuple #[.slice none 0 0, .int .i64 20, .int .i64 (s.size : Int)]) (by simp [results, Try.results21]) rfl ⟨Or.inr ⟨_, _, hres.out, rfl⟩, HB.alloc HB.size _⟩
    · have hpe : p = s.size := by omega
      subst hpe
      have hres : Hid (spl s (s.size + 1) 0 = .ok l) := by unfold Hid; rw [hsp.out, spl_end s f' s.size (Nat.le_refl _)]; simp [ahead]
      clear hsp
      go_wp2_with fail
      refine bodyPost_ret_by (v := .tuple #[u5, .int .i64 0, .int .i64 0]) (by simp [results, Try.results21]) rfl ⟨Or.inl ⟨l, u5, hres.out, rfl, hown⟩, HB⟩
end Go.Proofs.Ytgfonnjblbpogaa
