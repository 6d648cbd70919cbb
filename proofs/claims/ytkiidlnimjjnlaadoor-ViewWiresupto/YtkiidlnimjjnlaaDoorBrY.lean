import Derived.Test.YtkiidlnimjjnlaaDoorBrX
import Derived.Lib.AppendZeros
import Derived.Deep.DeepCutAuto
import Derived.BigQuiet
import Derived.Deep.RegionHeld3
import Derived.Deep.RegionHeldLaw
namespace Go.Proofs.YtkiidlnimjjnlaaDoor
open Go.RowKit BnI
open BerMath (Hd HR num hAt wAt El TR elEnd endE one andThen kids)
set_option linter.unusedVariables false
namespace BrM

def WkQ (s : ByteArray) (B : Nat) (r : Ending) (w' : World) : Prop :=
  ∃ (lv dv : Value) (c q : Int), r = .returned (.tuple #[lv, dv, .int .i64 c, .int .i64 q]) ∧ OwnP w' B lv (tr s).1 ∧ OwnI w' B dv (deps (tr s).1) ∧ ((∃ f : Nat × Nat, (tr s).2 = some f ∧ c = (f.1 : Int) ∧ q = (f.2 : Int)) ∨ ((tr s).2 = none ∧ c = 0 ∧ q = (lastE (tr s).1 : Int)))
theorem wkQ_bad {s : ByteArray} {B : Nat} {W : World} {lv dv ev : Value} {l : List El} {st : List Nat} {c q : Nat} (h : tr s = (l, some (c, q))) (hm : Mem W B lv dv ev l st) : WkQ s B (.returned (.tuple #[lv, dv, .int .i64 (c : Int), .int .i64 (q : Int)])) W :=
  ⟨lv, dv, _, _, rfl, by rw [h]; exact hm.1, by rw [h]; exact hm.2.1, Or.inl ⟨(c, q), by rw [h], rfl, rfl⟩⟩
theorem wkQ_ok {s : ByteArray} {B : Nat} {W : World} {lv dv ev : Value} {l : List El} {st : List Nat} {p : Nat} (h : tr s = (l, none) ∧ p = lastE l) (hm : Mem W B lv dv ev l st) : WkQ s B (.returned (.tuple #[lv, dv, .int .i64 0, .int .i64 (p : Int)])) W :=
  ⟨lv, dv, _, _, rfl, by rw [h.1]; exact hm.1, by rw [h.1]; exact hm.2.1, Or.inr ⟨by rw [h.1], rfl, by rw [h.1, h.2]⟩⟩
def slLen : Value → Nat
  | .slice _ n _ => n
  | _ => 0
theorem hdcell {W : World} {g : Nat} {cur : Array Value} {t : TypeId} (h : W.heap[g]? = some (.cells cur t (0, 0))) (j : Nat) (v : Value) (hv : cur[j]? = some v) : W.cell? ⟨g, j, none⟩ = some v := by
  simp [World.cell?, h, hv]
theorem meas_p (N p q : Nat) (h : p < q) (hq : q ≤ N) : N - (intOf (.int .i64 (q : Int))).toNat < N - (intOf (.int .i64 (p : Int))).toNat := by
  simp [intOf]
  omega
theorem ww (a b c : Nat) (h : a + b = c) (hc : c ≤ 281474976710656) : wrap64 ((a : Int) + (b : Int)) = (c : Int) := by unfold wrap64; omega
theorem w1 (a c : Nat) (h : a + 1 = c) (hc : c ≤ 281474976710656) : wrap64 ((a : Int) + 1) = (c : Int) := by unfold wrap64; omega
theorem wm (a c : Nat) (h : a = c + 1) (hc : c ≤ 281474976710656) : wrap64 ((a : Int) - 1) = (c : Int) := by unfold wrap64; omega
theorem Mem.alloc {W : World} {B : Nat} {lv dv ev : Value} {l : List El} {st : List Nat} (h : Mem W B lv dv ev l st) (o : Obj) : Mem (W.alloc o) B lv dv ev l st := ⟨World.ownsRow.alloc h.1 _, World.ownsRow.alloc h.2.1 _, World.ownsRow.alloc h.2.2.1 _, h.2.2.2⟩
/-- How a round goes on, by the element that is met. -/
def Go (s : ByteArray) (l : List El) (st : List Nat) (p e d : Nat) (mis : Nat) : Prop :=
  (∀ h, wAt s.data.toList p e = .ok h → Inv s (l ++ [(p, h, d)]) ((p + h.size + h.len) :: st) (if h.made = true then p + h.size else p + h.size + h.len)) ∧
  (∀ c q, wAt s.data.toList p e = .error (some (c, q)) → tr s = (l, some (c, q))) ∧
  (wAt s.data.toList p e = .error none → tr s = (l, some (mis, e)))
theorem go_first (s : ByteArray) (p : Nat) (hp : p = 0) : Go s [] [] p s.size 1 20 := by
  subst hp
  refine ⟨fun h hw => Inv.start hw, fun c q hw => ?_, fun hw => ?_⟩
  · unfold tr
    rw [BerMath.one_er _ _ _ _ _ _ (c, q) (by decide) hw]
  · unfold tr
    rw [BerMath.one_miss _ _ _ _ _ _ (by decide) hw]
theorem go_next {s : ByteArray} {l : List El} {st : List Nat} {p e : Nat} (h : Inv s l (e :: st) p) (hp : p < e) (hd : ¬ 64 < st.length + 2) : Go s l (e :: st) p e (st.length + 2) 26 :=
  ⟨fun x hw => h.step hp hd hw, fun c q hw => h.fail hp (fun K => BerMath.one_er _ _ _ _ _ _ (c, q) hd hw), fun hw => h.fail hp (fun K => BerMath.one_miss _ _ _ _ _ _ hd hw)⟩

set_option maxRecDepth 100000 in
set_option maxHeartbeats 4000000 in
theorem rwalk_any (s : ByteArray) (w : World) (hm : s.size ≤ 140737488355328) :
    Calls Tryd.prog 42 #[.string s] w fun r w' => WkQ s w.heap.size r w' ∧ Below w.heap.size w w' := by
  have hm' : Hid (s.size ≤ 140737488355328) := hm
  clear hm
  go_enter Tryd.func42, Tryd.ntmps42
  go_wp2_with fail
  go_loopw [6, 7, 8, 9] (fun lv dv ev pv wr => ∃ (l : List El) (st : List Nat) (p : Nat) (la : Option Addr) (ln lc : Nat) (dd : Value) (ea : Option Addr) (m ec : Nat), lv = .slice la ln lc ∧ dv = dd ∧ ev = .slice ea m ec ∧ pv = .int .i64 (p : Int) ∧ Hid (ln = l.length ∧ m = st.length ∧ Mem wr w.heap.size (.slice la ln lc) dd (.slice ea m ec) l st ∧ Below w.heap.size w wr ∧ ((l = [] ∧ st = [] ∧ p = 0) ∨ Inv s l st p))) (fun _ _ _ pv _ => s.size - (intOf pv).toNat)
  case atStart => exact ⟨[], [], 0, none, 0, 0, _, none, 0, 0, rfl, rfl, rfl, rfl, rfl, rfl, ⟨ownP_nil _ _, ownI_nil _ _, ownI_nil _ _, Or.inl rfl⟩, Below.refl _ _, Or.inl ⟨rfl, rfl, rfl⟩⟩
  case round =>
    obtain ⟨l, st, p, la, ln, lc, dd, ea, m, ec, rfl, hdv, rfl, rfl, HO⟩ := hrel
    have hdv' := hdv.symm
    clear hdv
    subst hdv'
    obtain ⟨wo, hwo⟩ : ∃ wo, wo = wr := ⟨_, rfl⟩
    subst hwo
    have HL : Hid (ln = l.length ∧ Below w.heap.size w wo) := ⟨HO.out.1, HO.out.2.2.2.1⟩
    have HS : Hid (m = st.length ∧ Mem wo w.heap.size (.slice la ln lc) dd (.slice ea m ec) l st ∧ ((l = [] ∧ st = [] ∧ p = 0) ∨ Inv s l st p)) := ⟨HO.out.2.1, HO.out.2.2.1, HO.out.2.2.2.2⟩
    clear HO
    go_wp2_with fail
    go_loopw [8] (fun ev wq => ∃ (st' : List Nat) (ea' : Option Addr) (m' ec' : Nat), ev = .slice ea' m' ec' ∧ Hid (wq = wo ∧ m' = st'.length ∧ Mem wo w.heap.size (.slice la ln lc) dd (.slice ea' m' ec') l st' ∧ ((l = [] ∧ st' = [] ∧ p = 0) ∨ Inv s l st' p))) (fun ev _ => slLen ev)
    case atStart => exact ⟨st, ea, m, ec, rfl, rfl, HS.out⟩
    case round =>
      obtain ⟨st', ea', m', ec', rfl, HI⟩ := hrel
      clear HS
      have hw := HI.out.1
      subst hw
      have HI2 : Hid (m' = st'.length ∧ Mem wr w.heap.size (.slice la ln lc) dd (.slice ea' m' ec') l st' ∧ ((l = [] ∧ st' = [] ∧ p = 0) ∨ Inv s l st' p)) := HI.out.2
      clear HI
      cases st' with
      | nil =>
        obtain ⟨hm0, HM, hcase⟩ := HI2.out
        clear HI2
        have hm00 : m' = 0 := hm0
        subst hm00
        clear hm0
        rcases hcase with ⟨rfl, _, hp0⟩ | hInv
        · have hln : ln = 0 := HL.out.1
          subst hln
          have HGo : Hid (Go s [] [] p s.size 1 20) := go_first s p hp0
          have hpe : p ≤ s.size := by omega
          have HMm : Hid (Mem wr w.heap.size (.slice la 0 lc) dd (.slice ea' 0 ec') ([] : List El) ([] : List Nat)) := HM
          clear HM
          have hW : ∀ W, Hid (Calls Tryd.prog 52 #[.string s, .int .i64 (p : Int), .int .i64 (s.size : Int)] W fun r w' => r = .returned (refWV s.data.toList p s.size) ∧ Below W.heap.size W w') := fun W => refWhole_any s p s.size W (Nat.le_refl _) hm'.out hpe
          cases hw : wAt s.data.toList p s.size with
          | ok h =>
            have hv : refWV s.data.toList p s.size = .tuple #[.agg #[.int .i64 (h.cls : Int), .bool h.made, .int .i64 (h.tag : Int), .int .i64 (h.len : Int), .int .i64 (h.size : Int)], .int .i64 0, .int .i64 (p : Int)] := by unfold refWV; rw [hw]; rfl
            rw [hv] at hW
            obtain ⟨k1', k2', k3', _, _, k6'⟩ := BerMath.wAt_ok _ _ _ _ hw
            have hN := HGo.out.1 h hw
            have hsz := hm'.out
            obtain ⟨A, hA⟩ : ∃ A, p + h.size = A := ⟨_, rfl⟩
            obtain ⟨Z, hZ⟩ : ∃ Z, A + h.len = Z := ⟨_, rfl⟩
            have wAH : Hid (wrap64 ((p : Int) + (h.size : Int)) = (A : Int)) := ww p h.size A hA (by omega)
            have wZH : Hid (wrap64 ((A : Int) + (h.len : Int)) = (Z : Int)) := ww A h.len Z hZ (by omega)
            rw [hA, hZ] at hN
            have HN : Hid (Inv s (([] : List El) ++ [(p, h, 1)]) (Z :: ([] : List Nat)) (if h.made = true then A else Z)) := hN
            have HLB : Hid (([] : List El).length ≤ 4294967295) := (by unfold Hid; simp)
            have HSB : Hid (([] : List Nat).length ≤ 64) := (by unfold Hid; simp)
            have HP : Hid (p < A ∧ A ≤ s.size ∧ p < Z ∧ Z ≤ s.size) := ⟨by omega, by omega, by omega, by omega⟩
            clear hv hw k1' k2' k3' k6' HGo hN hA hZ hsz hpe hp0
            go_upto_region 21 with (go_at_call 52; refine (hW _).out.mono ?_; rintro r w1 ⟨rfl, hb1⟩; have HMb : Hid (Mem w1 w.heap.size (.slice la 0 lc) dd (.slice ea' 0 ec') ([] : List El) ([] : List Nat)) := HMm.out.below hb1; have HBb : Hid (Below w.heap.size w w1) := HL.out.2.trans (hb1.mono HL.out.2.size); clear hb1)
            obtain ⟨W0, hW0⟩ : ∃ W0, w1.alloc (.cells #[.int .i64 (h.cls : Int), .bool h.made, .int .i64 (h.tag : Int), .int .i64 (h.len : Int), .int .i64 (h.size : Int)] 74) = W0 := ⟨_, rfl⟩
            have hgh : W0.heap[w1.heap.size]? = some (.cells #[.int .i64 (h.cls : Int), .bool h.made, .int .i64 (h.tag : Int), .int .i64 (h.len : Int), .int .i64 (h.size : Int)] 74 (0, 0)) := by rw [← hW0]; exact heap_alloc_new _ _
            have HM0 : Mem W0 w.heap.size (.slice la 0 lc) dd (.slice ea' 0 ec') ([] : List El) ([] : List Nat) := by rw [← hW0]; exact HMb.out.alloc _
            have HB0 : Below w.heap.size w W0 := by rw [← hW0]; exact HBb.out.alloc HBb.out.size _
            obtain ⟨g1, c1, w2, g2, c2, w3, g3, c3, w4, e1, e2, e3, hM4, q1', q2', q3', b4⟩ := HM0.step HB0.size HLB.out HSB.out (p, h, 1) Z w1.heap.size _ hgh
            have HF : Hid (Mem w4 w.heap.size (.slice (some ⟨g1, 0, none⟩) (([] : List El).length + 1) c1) (.slice (some ⟨g2, 0, none⟩) (([] : List El).length + 1) c2) (.slice (some ⟨g3, 0, none⟩) (([] : List Nat).length + 1) c3) (([] : List El) ++ [(p, h, 1)]) (Z :: ([] : List Nat)) ∧ Below w.heap.size w w4) := ⟨hM4, HB0.trans b4⟩
            have x0 := hdcell hgh 0 _ rfl
            have x1 := hdcell hgh 1 _ rfl
            have x2 := hdcell hgh 2 _ rfl
            have x3 := hdcell hgh 3 _ rfl
            have x4 := hdcell hgh 4 _ rfl
            have y4 := hdcell q2' 4 _ rfl
            have y3 := hdcell q2' 3 _ rfl
            have z1 := hdcell q3' 1 _ rfl
            have z3 := hdcell q3' 3 _ rfl
            unfold plV at e1
            dsimp only at e1 e2 e3
            rw [hW0]
            clear hgh HM0 hM4 q1' q2' q3' b4 HMb HBb hW HB0 hW0
            have wA := wAH.out
            have wZ := wZH.out
            clear wAH wZH
            cases hmd : h.made with
            | true =>
              rw [hmd] at x1 z1 e1
              go_wp2_with (first
                | (at_builtin; refine Lib.wpList_append_run _ rfl _ _ _ _ rfl _ _ rfl rfl _ _ e1 ?_; clear e1)
                | (at_builtin; refine Lib.wpList_append_run _ rfl _ _ _ _ rfl _ _ rfl rfl _ _ e2 ?_; clear e2)
                | (at_builtin; refine Lib.wpList_append_run _ rfl _ _ _ _ rfl _ _ rfl rfl _ _ e3 ?_; clear e3))
              go_roundw
              case rel => exact ⟨([] : List El) ++ [(p, h, 1)], Z :: ([] : List Nat), A, _, _, _, _, _, _, _, rfl, rfl, rfl, rfl, by simp, by simp, HF.out.1, HF.out.2, Or.inr (by have := HN.out; rwa [hmd, if_pos rfl] at this)⟩
              case measure => exact meas_p s.size p A HP.out.1 HP.out.2.1
            | false =>
              rw [hmd] at x1 z1 e1
              go_wp2_with (first
                | (at_builtin; refine Lib.wpList_append_run _ rfl _ _ _ _ rfl _ _ rfl rfl _ _ e1 ?_; clear e1)
                | (at_builtin; refine Lib.wpList_append_run _ rfl _ _ _ _ rfl _ _ rfl rfl _ _ e2 ?_; clear e2)
                | (at_builtin; refine Lib.wpList_append_run _ rfl _ _ _ _ rfl _ _ rfl rfl _ _ e3 ?_; clear e3))
              go_roundw
              case rel => exact ⟨([] : List El) ++ [(p, h, 1)], Z :: ([] : List Nat), Z, _, _, _, _, _, _, _, rfl, rfl, rfl, by rw [wZ], by simp, by simp, HF.out.1, HF.out.2, Or.inr (by have := HN.out; rwa [hmd, if_neg (by decide)] at this)⟩
              case measure => rw [wZ]; exact meas_p s.size p Z HP.out.2.2.1 HP.out.2.2.2
          | error o =>
            cases o with
            | some cq =>
              obtain ⟨c, q⟩ := cq
              have hc := BerMath.wAt_er _ _ _ _ _ hw
              have hv : refWV s.data.toList p s.size = .tuple #[.agg #[.int .i64 0, .bool false, .int .i64 0, .int .i64 0, .int .i64 0], .int .i64 (c : Int), .int .i64 (q : Int)] := by unfold refWV; rw [hw]; rfl
              rw [hv] at hW
              have r1 : ((c : Int) == -1) = false := by rw [beq_eq_false_iff_ne]; omega
              have r2 : ((c : Int) != 0) = true := by rw [bne_iff_ne]; omega
              have r3 : ((c : Int) == 0) = false := by rw [beq_eq_false_iff_ne]; omega
              have HT := HGo.out.2.1 c q hw
              have HQ : ∀ W, Hid (Below wr.heap.size wr W → WkQ s w.heap.size (.returned (.tuple #[.slice la 0 lc, dd, .int .i64 (c : Int), .int .i64 (q : Int)])) (W.alloc (.cells #[.int .i64 0, .bool false, .int .i64 0, .int .i64 0, .int .i64 0] 74)) ∧ Below w.heap.size w (W.alloc (.cells #[.int .i64 0, .bool false, .int .i64 0, .int .i64 0, .int .i64 0] 74))) := fun W hb => ⟨wkQ_bad HT ((HMm.out.below hb).alloc _), (HL.out.2.trans (hb.mono HL.out.2.size)).alloc (Nat.le_trans HL.out.2.size hb.size) _⟩
              clear hv hw hc HT HGo HMm HL hm' hpe hp0
              go_wp2_with (go_at_call 52; refine (hW _).out.mono ?_; rintro r w1 ⟨rfl, hb1⟩; have HQ1 := (HQ w1).out hb1; clear hb1)
              refine bodyPost_ret_by (v := .tuple #[.slice la 0 lc, dd, .int .i64 (c : Int), .int .i64 (q : Int)]) (by simp [results, Tryd.results42]) rfl HQ1
            | none =>
              have hv : refWV s.data.toList p s.size = .tuple #[.agg #[.int .i64 0, .bool false, .int .i64 0, .int .i64 0, .int .i64 0], .int .i64 (-1), .int .i64 (s.size : Int)] := by unfold refWV; rw [hw]; rfl
              rw [hv] at hW
              have HT := HGo.out.2.2 hw
              have HQ : ∀ W, Hid (Below wr.heap.size wr W → WkQ s w.heap.size (.returned (.tuple #[.slice la 0 lc, dd, .int .i64 20, .int .i64 (s.size : Int)])) (W.alloc (.cells #[.int .i64 0, .bool false, .int .i64 0, .int .i64 0, .int .i64 0] 74)) ∧ Below w.heap.size w (W.alloc (.cells #[.int .i64 0, .bool false, .int .i64 0, .int .i64 0, .int .i64 0] 74))) := fun W hb => ⟨wkQ_bad (c := 20) HT ((HMm.out.below hb).alloc _), (HL.out.2.trans (hb.mono HL.out.2.size)).alloc (Nat.le_trans HL.out.2.size hb.size) _⟩
              clear hv hw HT HGo HMm HL hm' hpe hp0
              go_wp2_with (go_at_call 52; refine (hW _).out.mono ?_; rintro r w1 ⟨rfl, hb1⟩; have HQ1 := (HQ w1).out hb1; clear hb1)
              refine bodyPost_ret_by (v := .tuple #[.slice la 0 lc, dd, .int .i64 20, .int .i64 (s.size : Int)]) (by simp [results, Tryd.results42]) rfl HQ1
        · have hl0 : (ln : Int) > 0 := by
            have h1 := HL.out.1
            have h2 : 0 < l.length := List.length_pos_iff.2 hInv.1
            omega
          have HQ : Hid (WkQ s w.heap.size (.returned (.tuple #[.slice la ln lc, dd, .int .i64 0, .int .i64 (p : Int)])) wr ∧ Below w.heap.size w wr) := ⟨wkQ_ok hInv.done HM, HL.out.2⟩
          clear hInv HM HL hm'
          go_wp2_with fail
          refine bodyPost_ret_by (v := .tuple #[.slice la ln lc, dd, .int .i64 0, .int .i64 (p : Int)]) (by simp [results, Tryd.results42]) rfl HQ.out
      | cons e st0 =>
        obtain ⟨hm0, HM, hcase⟩ := HI2.out
        clear HI2
        have hInv : Inv s l (e :: st0) p := by
          rcases hcase with ⟨_, h, _⟩ | h
          · cases h
          · exact h
        clear hcase
        obtain ⟨g, cap, hev, hcap, hcell, HMp⟩ := HM.pop
        injection hev with ha hb hc
        subst ha hc
        obtain ⟨k, hk⟩ : ∃ k, k = st0.length := ⟨_, rfl⟩
        rw [← hk] at hcap hcell HMp hb
        have hk64 : k ≤ 63 := by
          have := hInv.2.2.2.2.2.1
          simp at this
          omega
        have m0 : (m' : Int) > 0 := by omega
        have mkH : Hid (wrap64 ((m' : Int) - 1) = (k : Int)) := wm m' k hb (by omega)
        have k0 : (0 : Int) ≤ (k : Int) := Int.natCast_nonneg _
        have k1 : (k : Int) < (m' : Int) := by omega
        by_cases hep : e = p
        · subst hep
          have kc : k ≤ ec' := by omega
          have kc' : (k : Int) ≤ (ec' : Int) := by omega
          have HN : Hid (wr = wr ∧ k = st0.length ∧ Mem wr w.heap.size (.slice la ln lc) dd (.slice (some ⟨g, 0, none⟩) k ec') l st0 ∧ ((l = [] ∧ st0 = [] ∧ e = 0) ∨ Inv s l st0 e)) := ⟨rfl, hk, HMp, Or.inr hInv.pop⟩
          have hmk : Hid (k < m') := by unfold Hid; omega
          have mk := mkH.out
          clear HM hInv HMp hk hm0 hb hk64 hcap HL hm' mkH
          go_wp2_with fail
          go_roundw
          case rel => exact ⟨st0, _, k, ec', rfl, ⟨trivial, HN.out.2⟩⟩
          case measure => exact hmk.out
        · have hpe' : p < e := by have := hInv.2.2.2.1.1; omega
          have q1 : ((e : Int) == (p : Int)) = false := by rw [beq_eq_false_iff_ne]; omega
          have hl0 : (ln : Int) > 0 := by
            have h1 := HL.out.1
            have h2 : 0 < l.length := List.length_pos_iff.2 hInv.1
            omega
          have hl1 : ((ln : Int) == 0) = false := by rw [beq_eq_false_iff_ne]; omega
          have q2 : ((m' : Int) == 0) = false := by rw [beq_eq_false_iff_ne]; omega
          obtain ⟨d, hd⟩ : ∃ d, d = m' + 1 := ⟨_, rfl⟩
          have mdH : Hid (wrap64 ((m' : Int) + 1) = (d : Int)) := w1 m' d hd.symm (by omega)
          have hes := (hInv.2.2.2.2.1 e (List.mem_cons_self ..)).1
          by_cases h64 : 64 < d
          · have d1 : (d : Int) > 64 := by omega
            have HQ : Hid (WkQ s w.heap.size (.returned (.tuple #[.slice la ln lc, dd, .int .i64 25, .int .i64 (p : Int)])) wr ∧ Below w.heap.size w wr) := ⟨wkQ_bad (c := 25) (hInv.fail hpe' (fun K => BerMath.one_deep _ _ _ _ _ _ (by omega))) HM, HL.out.2⟩
            have mk := mkH.out
            have md := mdH.out
            clear hInv HM HMp HL hm' hk hm0 hb hk64 hcap hd hpe' hes mkH mdH
            go_wp2_with fail
            refine bodyPost_ret_by (v := .tuple #[.slice la ln lc, dd, .int .i64 25, .int .i64 (p : Int)]) (by simp [results, Tryd.results42]) rfl HQ.out
          · have d1 : ¬ (d : Int) > 64 := by omega
            have HGo : Hid (Go s l (e :: st0) p e d 26) := by
              have := go_next hInv hpe' (by omega)
              unfold Hid
              rw [show d = st0.length + 2 from by omega]
              exact this
            have hpe : p ≤ e := by omega
            have hll : Hid (2 * l.length ≤ p ∧ p ≤ 4294967301 ∧ k ≤ 62) := ⟨hInv.2.2.2.2.2.2.1, hInv.2.2.2.2.2.2.2.2, by omega⟩
            have HMm : Hid (Mem wr w.heap.size (.slice la ln lc) dd (.slice (some ⟨g, 0, none⟩) m' ec') l (e :: st0)) := HM
            have hmst : Hid (m' = (e :: st0).length) := hm0
            clear HM HMp hk hm0 hb hk64 hcap h64 hInv hep
            have hW : ∀ W, Hid (Calls Tryd.prog 52 #[.string s, .int .i64 (p : Int), .int .i64 (e : Int)] W fun r w' => r = .returned (refWV s.data.toList p e) ∧ Below W.heap.size W w') := fun W => refWhole_any s p e W hes hm'.out hpe
            cases hw : wAt s.data.toList p e with
            | ok h =>
              have hv : refWV s.data.toList p e = .tuple #[.agg #[.int .i64 (h.cls : Int), .bool h.made, .int .i64 (h.tag : Int), .int .i64 (h.len : Int), .int .i64 (h.size : Int)], .int .i64 0, .int .i64 (p : Int)] := by unfold refWV; rw [hw]; rfl
              rw [hv] at hW
              obtain ⟨k1', k2', k3', _, _, k6'⟩ := BerMath.wAt_ok _ _ _ _ hw
              have hN := HGo.out.1 h hw
              have hsz := hm'.out
              obtain ⟨A, hA⟩ : ∃ A, p + h.size = A := ⟨_, rfl⟩
              obtain ⟨Z, hZ⟩ : ∃ Z, A + h.len = Z := ⟨_, rfl⟩
              have wAH : Hid (wrap64 ((p : Int) + (h.size : Int)) = (A : Int)) := ww p h.size A hA (by omega)
              have wZH : Hid (wrap64 ((A : Int) + (h.len : Int)) = (Z : Int)) := ww A h.len Z hZ (by omega)
              rw [hA, hZ] at hN
              have HN : Hid (Inv s (l ++ [(p, h, d)]) (Z :: (e :: st0)) (if h.made = true then A else Z)) := hN
              have HLB : Hid (l.length ≤ 4294967295) := (by have := hll.out; unfold Hid; omega)
              have HSB : Hid ((e :: st0).length ≤ 64) := (by unfold Hid; rw [← hmst.out]; omega)
              have HP : Hid (p < A ∧ A ≤ s.size ∧ p < Z ∧ Z ≤ s.size) := ⟨by omega, by omega, by omega, by omega⟩
              clear hv hw k1' k2' k3' k6' HGo hN hA hZ hsz hpe hpe' hes hd
              have mk := mkH.out
              have md := mdH.out
              go_upto_region 21 with (go_at_call 52; refine (hW _).out.mono ?_; rintro r w1 ⟨rfl, hb1⟩; have HMb : Hid (Mem w1 w.heap.size (.slice la ln lc) dd (.slice (some ⟨g, 0, none⟩) m' ec') l (e :: st0)) := HMm.out.below hb1; have HBb : Hid (Below w.heap.size w w1) := HL.out.2.trans (hb1.mono HL.out.2.size); clear hb1)
              obtain ⟨W0, hW0⟩ : ∃ W0, w1.alloc (.cells #[.int .i64 (h.cls : Int), .bool h.made, .int .i64 (h.tag : Int), .int .i64 (h.len : Int), .int .i64 (h.size : Int)] 74) = W0 := ⟨_, rfl⟩
              have hgh : W0.heap[w1.heap.size]? = some (.cells #[.int .i64 (h.cls : Int), .bool h.made, .int .i64 (h.tag : Int), .int .i64 (h.len : Int), .int .i64 (h.size : Int)] 74 (0, 0)) := by rw [← hW0]; exact heap_alloc_new _ _
              have HM0 : Mem W0 w.heap.size (.slice la ln lc) dd (.slice (some ⟨g, 0, none⟩) m' ec') l (e :: st0) := by rw [← hW0]; exact HMb.out.alloc _
              have HB0 : Below w.heap.size w W0 := by rw [← hW0]; exact HBb.out.alloc HBb.out.size _
              obtain ⟨g1, c1, w2, g2, c2, w3, g3, c3, w4, e1, e2, e3, hM4, q1', q2', q3', b4⟩ := HM0.step HB0.size HLB.out HSB.out (p, h, d) Z w1.heap.size _ hgh
              have HF : Hid (Mem w4 w.heap.size (.slice (some ⟨g1, 0, none⟩) (l.length + 1) c1) (.slice (some ⟨g2, 0, none⟩) (l.length + 1) c2) (.slice (some ⟨g3, 0, none⟩) ((e :: st0).length + 1) c3) (l ++ [(p, h, d)]) (Z :: (e :: st0)) ∧ Below w.heap.size w w4) := ⟨hM4, HB0.trans b4⟩
              have x0 := hdcell hgh 0 _ rfl
              have x1 := hdcell hgh 1 _ rfl
              have x2 := hdcell hgh 2 _ rfl
              have x3 := hdcell hgh 3 _ rfl
              have x4 := hdcell hgh 4 _ rfl
              have y4 := hdcell q2' 4 _ rfl
              have y3 := hdcell q2' 3 _ rfl
              have z1 := hdcell q3' 1 _ rfl
              have z3 := hdcell q3' 3 _ rfl
              unfold plV at e1
              dsimp only at e1 e2 e3
              rw [hW0]
              clear hgh HM0 hM4 q1' q2' q3' b4 HMb HBb hW HB0 hW0
              have wA := wAH.out
              have wZ := wZH.out
              clear wAH wZH
              cases hmd : h.made with
              | true =>
                rw [hmd] at x1 z1 e1
                go_wp2_with (first
                  | (at_builtin; refine Lib.wpList_append_run _ rfl _ _ _ _ rfl _ _ rfl rfl _ _ e1 ?_; clear e1)
                  | (at_builtin; refine Lib.wpList_append_run _ rfl _ _ _ _ rfl _ _ rfl rfl _ _ e2 ?_; clear e2)
                  | (at_builtin; refine Lib.wpList_append_run _ rfl _ _ _ _ rfl _ _ rfl rfl _ _ e3 ?_; clear e3))
                go_roundw
                case rel => exact ⟨l ++ [(p, h, d)], Z :: (e :: st0), A, _, _, _, _, _, _, _, rfl, rfl, rfl, rfl, by simp, by simp, HF.out.1, HF.out.2, Or.inr (by have := HN.out; rwa [hmd, if_pos rfl] at this)⟩
                case measure => exact meas_p s.size p A HP.out.1 HP.out.2.1
              | false =>
                rw [hmd] at x1 z1 e1
                go_wp2_with (first
                  | (at_builtin; refine Lib.wpList_append_run _ rfl _ _ _ _ rfl _ _ rfl rfl _ _ e1 ?_; clear e1)
                  | (at_builtin; refine Lib.wpList_append_run _ rfl _ _ _ _ rfl _ _ rfl rfl _ _ e2 ?_; clear e2)
                  | (at_builtin; refine Lib.wpList_append_run _ rfl _ _ _ _ rfl _ _ rfl rfl _ _ e3 ?_; clear e3))
                go_roundw
                case rel => exact ⟨l ++ [(p, h, d)], Z :: (e :: st0), Z, _, _, _, _, _, _, _, rfl, rfl, rfl, by rw [wZ], by simp, by simp, HF.out.1, HF.out.2, Or.inr (by have := HN.out; rwa [hmd, if_neg (by decide)] at this)⟩
                case measure => rw [wZ]; exact meas_p s.size p Z HP.out.2.2.1 HP.out.2.2.2
            | error o =>
              cases o with
              | some cq =>
                obtain ⟨c, q⟩ := cq
                have hc := BerMath.wAt_er _ _ _ _ _ hw
                have hv : refWV s.data.toList p e = .tuple #[.agg #[.int .i64 0, .bool false, .int .i64 0, .int .i64 0, .int .i64 0], .int .i64 (c : Int), .int .i64 (q : Int)] := by unfold refWV; rw [hw]; rfl
                rw [hv] at hW
                have r1 : ((c : Int) == -1) = false := by rw [beq_eq_false_iff_ne]; omega
                have r2 : ((c : Int) != 0) = true := by rw [bne_iff_ne]; omega
                have r3 : ((c : Int) == 0) = false := by rw [beq_eq_false_iff_ne]; omega
                have HT := HGo.out.2.1 c q hw
                have HQ : ∀ W, Hid (Below wr.heap.size wr W → WkQ s w.heap.size (.returned (.tuple #[.slice la ln lc, dd, .int .i64 (c : Int), .int .i64 (q : Int)])) (W.alloc (.cells #[.int .i64 0, .bool false, .int .i64 0, .int .i64 0, .int .i64 0] 74)) ∧ Below w.heap.size w (W.alloc (.cells #[.int .i64 0, .bool false, .int .i64 0, .int .i64 0, .int .i64 0] 74))) := fun W hb => ⟨wkQ_bad HT ((HMm.out.below hb).alloc _), (HL.out.2.trans (hb.mono HL.out.2.size)).alloc (Nat.le_trans HL.out.2.size hb.size) _⟩
                have mk := mkH.out
                have md := mdH.out
                clear hv hw hc HT HGo HMm HL hm' hpe hpe' hes hd
                go_wp2_with (go_at_call 52; refine (hW _).out.mono ?_; rintro r w1 ⟨rfl, hb1⟩; have HQ1 := (HQ w1).out hb1; clear hb1)
                refine bodyPost_ret_by (v := .tuple #[.slice la ln lc, dd, .int .i64 (c : Int), .int .i64 (q : Int)]) (by simp [results, Tryd.results42]) rfl HQ1
              | none =>
                have hv : refWV s.data.toList p e = .tuple #[.agg #[.int .i64 0, .bool false, .int .i64 0, .int .i64 0, .int .i64 0], .int .i64 (-1), .int .i64 (e : Int)] := by unfold refWV; rw [hw]; rfl
                rw [hv] at hW
                have HT := HGo.out.2.2 hw
                have HQ : ∀ W, Hid (Below wr.heap.size wr W → WkQ s w.heap.size (.returned (.tuple #[.slice la ln lc, dd, .int .i64 26, .int .i64 (e : Int)])) (W.alloc (.cells #[.int .i64 0, .bool false, .int .i64 0, .int .i64 0, .int .i64 0] 74)) ∧ Below w.heap.size w (W.alloc (.cells #[.int .i64 0, .bool false, .int .i64 0, .int .i64 0, .int .i64 0] 74))) := fun W hb => ⟨wkQ_bad (c := 26) HT ((HMm.out.below hb).alloc _), (HL.out.2.trans (hb.mono HL.out.2.size)).alloc (Nat.le_trans HL.out.2.size hb.size) _⟩
                have mk := mkH.out
                have md := mdH.out
                clear hv hw HT HGo HMm HL hm' hpe hpe' hes hd
                go_wp2_with (go_at_call 52; refine (hW _).out.mono ?_; rintro r w1 ⟨rfl, hb1⟩; have HQ1 := (HQ w1).out hb1; clear hb1)
                refine bodyPost_ret_by (v := .tuple #[.slice la ln lc, dd, .int .i64 26, .int .i64 (e : Int)]) (by simp [results, Tryd.results42]) rfl HQ1
end BrM
end Go.Proofs.YtkiidlnimjjnlaaDoor

namespace Go.Proofs.YtkiidlnimjjnlaaDoor
open Go.RowKit BnI
open BerMath (Hd HR num hAt wAt El TR elEnd endE one andThen kids)
set_option linter.unusedVariables false
namespace BrM

theorem pv_at (l : List El) (i : Nat) (hi : i < l.length) (j : Nat) (hj : j < 6) : (pv l)[i * 6 + j]? = (plV l[i])[j]? := by
  induction l generalizing i with
  | nil => simp at hi
  | cons x l ih =>
    cases i with
    | zero =>
      show (plV x ++ pv l)[0 * 6 + j]? = _
      rw [List.getElem?_append_left (by simp [plV]; omega)]
      simp
    | succ i =>
      show (plV x ++ pv l)[(i + 1) * 6 + j]? = _
      have e : (i + 1) * 6 + j = (plV x).length + (i * 6 + j) := by simp [plV]; omega
      rw [e, List.getElem?_append_right (by omega), Nat.add_sub_cancel_left, ih i (by simpa using hi)]
      rfl
theorem w_up1 (i : Nat) (h : i ≤ 281474976710656) : wrap64 ((i : Int) + 1) = (i : Int) + 1 := by unfold wrap64; omega
theorem meas_up (k i : Nat) (h : i < k) : k - (intOf (.int .i64 ((i : Int) + 1))).toNat < k - (intOf (.int .i64 (i : Int))).toNat := by
  simp [intOf]
  omega
def PRow (w : World) (a : Option Addr) (l : List El) : Prop := ∀ i (hi : i < l.length), ∃ b, a = some ⟨b, 0, none⟩ ∧ ∀ j v, (plV l[i])[j]? = some v → w.cell? ⟨b, i * 6 + j, none⟩ = some v
theorem ownP_any {w : World} {B : Nat} {v : Value} {l : List El} (h : OwnP w B v l) : ∃ a c, v = .slice a l.length c ∧ PRow w a l := by
  have h0 := h
  rcases h.2 with ⟨rfl, hn⟩ | ⟨g, cap, cur, rfl, _⟩
  · have hl : l = [] := List.eq_nil_of_length_eq_zero hn
    subst hl
    exact ⟨none, 0, rfl, fun i hi => by simp at hi⟩
  · refine ⟨_, _, rfl, fun i hi => ⟨g, rfl, fun j u hj => ?_⟩⟩
    have hj6 : j < 6 := by
      rcases Nat.lt_or_ge j 6 with q | q
      · exact q
      · rw [List.getElem?_eq_none (by simp [plV]; omega)] at hj; cases hj
    have hc := World.ownsRow.cellAt (show w.ownsRow B 76 6 _ l.length (pv l) from h0) (i * 6 + j) (by omega)
    rw [hc, pv_at l i hi j hj6]
    exact hj
theorem PRow.below {w w' : World} {a : Option Addr} {l : List El} (h : PRow w a l) (hb : Below w.heap.size w w') : PRow w' a l := fun i hi => by
  obtain ⟨b, e, hc⟩ := h i hi
  refine ⟨b, e, fun j v hv => ?_⟩
  have h1 := hc j v hv
  rw [hb.cell (World.block_lt_of_cell? w _ h1)]
  exact h1
set_option maxRecDepth 100000 in
set_option maxHeartbeats 4000000 in
theorem rtree_any (s : ByteArray) (w : World) (hm : s.size ≤ 140737488355328) :
    Calls Tryd.prog 25 #[.string s] w fun r w' => treeQ s w.heap.size r w' ∧ Below w.heap.size w w' := by
  have hW : Hid (Calls Tryd.prog 42 #[.string s] w fun r w' => WkQ s w.heap.size r w' ∧ Below w.heap.size w w') := rwalk_any s w hm
  have hm' : Hid (s.size ≤ 140737488355328) := hm
  clear hm
  go_enter Tryd.func25, Tryd.ntmps25
  go_wp2_with fail
  refine hW.out.mono ?_
  rintro r w1 ⟨⟨lv, dv, c, q, rfl, hP, hI, hres⟩, hb1⟩
  have HB1 : Hid (Below w.heap.size w w1) := hb1
  clear hb1 hW
  rcases hres with ⟨f, hf, rfl, rfl⟩ | ⟨hf, rfl, rfl⟩
  · have hc := tr_code s f hf
    have HQ : Hid (treeQ s w.heap.size (.returned (.tuple #[.slice none 0 0, .int .i64 (f.1 : Int), .int .i64 (f.2 : Int)])) w1 ∧ Below w.heap.size w w1) := ⟨Or.inr ⟨f, by unfold treeR; rw [hf], rfl⟩, HB1.out⟩
    have r1 : ((f.1 : Int) == 0) = false := by rw [beq_eq_false_iff_ne]; omega
    have r2 : ((f.1 : Int) != 0) = true := by rw [bne_iff_ne]; omega
    generalize f.1 = c0 at *
    generalize f.2 = q0 at *
    clear hc hf hP hI HB1 hm'
    go_wp2_with fail
    refine bodyPost_ret_by (v := .tuple #[.slice none 0 0, .int .i64 (c0 : Int), .int .i64 (q0 : Int)]) (by simp [results, Tryd.results25]) rfl HQ.out
  · by_cases hlt : lastE (tr s).1 < s.size
    · have HQ : Hid (treeQ s w.heap.size (.returned (.tuple #[.slice none 0 0, .int .i64 27, .int .i64 (lastE (tr s).1 : Int)])) w1 ∧ Below w.heap.size w w1) := ⟨Or.inr ⟨(27, lastE (tr s).1), by unfold treeR; rw [hf]; dsimp only; rw [if_pos hlt], rfl⟩, HB1.out⟩
      have q1 : (lastE (tr s).1 : Int) < (s.size : Int) := Int.ofNat_lt.2 hlt
      generalize lastE (tr s).1 = q0 at *
      clear hlt hf hP hI HB1 hm'
      go_wp2_with fail
      refine bodyPost_ret_by (v := .tuple #[.slice none 0 0, .int .i64 27, .int .i64 (q0 : Int)]) (by simp [results, Tryd.results25]) rfl HQ.out
    · have HR : Hid (treeR s = .ok (tr s).1) := by unfold Hid treeR; rw [hf]; dsimp only; rw [if_neg hlt]
      have q1 : ¬ lastE (tr s).1 < s.size := hlt
      obtain ⟨hl1, hl2⟩ := tr_len s
      obtain ⟨la, lc, rfl, hrow⟩ := ownP_any hP
      obtain ⟨da, dn, dc, rfl⟩ := ownI_slice hI
      obtain ⟨hdr, hdn⟩ := ownI_row hI
      rw [deps_len] at hdn
      have hdr : NRow w1 da (deps (tr s).1) := hdr
      generalize lastE (tr s).1 = q0 at *
      generalize (tr s).1 = l at *
      obtain ⟨n, hn⟩ : ∃ n, n = l.length := ⟨_, rfl⟩
      rw [← hn] at hl1 hdn ⊢
      have hdn' := hdn.symm
      clear hdn
      subst hdn'
      have HG : Hid (PRow w1 la l ∧ NRow w1 da (deps l) ∧ n = l.length ∧ n ≤ 2147483650 ∧ ∀ x ∈ l, elEnd x ≤ s.size ∧ 2 ≤ x.2.1.size ∧ x.2.1.size ≤ 6 ∧ x.2.1.len < 4294967296 ∧ x.2.1.cls ≤ 3 ∧ x.2.1.tag ≤ 30 ∧ x.2.2 ≤ 64) := ⟨hrow, hdr, hn, hl1, hl2⟩
      clear hrow hdr hl1 hl2 hP hI hf hlt hn
      go_wp2_with fail
      go_loopw [9, 10] (fun ov iv wr => ∃ (i : Nat) (vo : Value), ov = vo ∧ iv = .int .i64 (i : Int) ∧ i ≤ n ∧ Hid (OwnN wr w1.heap.size vo ((l.take i).map (ndOf s)) ∧ Below w1.heap.size w1 wr)) (fun _ iv _ => n - (intOf iv).toNat)
      case atStart => exact ⟨0, _, rfl, rfl, Nat.zero_le _, ownN_nil _ _, Below.refl _ _⟩
      case round =>
        obtain ⟨i, vo, hvo, rfl, hi, HO⟩ := hrel
        have hvo' := hvo.symm
        clear hvo
        subst hvo'
        have i0 : (0 : Int) ≤ (i : Int) := Int.natCast_nonneg _
        by_cases hlt : i < n
        · have i1 : (i : Int) < (n : Int) := Int.ofNat_lt.2 hlt
          have hil : i < l.length := by rw [← HG.out.2.2.1]; exact hlt
          obtain ⟨b, rfl, hc⟩ := (HG.out.1.below HO.out.2) i hil
          obtain ⟨db, dof, rfl, hdc⟩ := (HG.out.2.1.below HO.out.2) i (by rw [deps_len]; exact hil)
          have hx := HG.out.2.2.2.2 l[i] (List.getElem_mem hil)
          have htk : Hid ((l.take (i + 1)).map (ndOf s) = (l.take i).map (ndOf s) ++ [ndOf s l[i]]) := by
            unfold Hid
            rw [List.take_succ_eq_append_getElem hil, List.map_append]
            rfl
          have hdv : (deps l)[i]'(by rw [deps_len]; exact hil) = (l[i].2.2 : Int) := by simp [deps]
          rw [hdv] at hdc
          generalize l[i] = X at *
          obtain ⟨p, h, d⟩ := X
          have c0 := hc 0 _ rfl
          have c1 := hc 1 _ rfl
          have c2 := hc 2 _ rfl
          have c3 := hc 3 _ rfl
          have c4 := hc 4 _ rfl
          have c5 := hc 5 _ rfl
          dsimp only at c0 c1 c2 c3 c4 c5 hdc hx
          rw [Nat.add_zero] at c0
          have hlt' : Hid (i < n) := hlt
          have hx' : Hid (elEnd (p, h, d) ≤ s.size ∧ h.size ≤ 6 ∧ h.len < 4294967296) := ⟨hx.1, hx.2.2.1, hx.2.2.2.1⟩
          clear hx hc hil hdv hlt hi
          go_upto_region 11 with fail
          obtain ⟨gh, hgh0⟩ : ∃ gh, wr.heap.size = gh := ⟨_, rfl⟩
          obtain ⟨W1, hW1⟩ : ∃ W1, wr.alloc (.cells #[.int .i64 (h.cls : Int), .bool h.made, .int .i64 (h.tag : Int), .int .i64 (h.len : Int), .int .i64 (h.size : Int)] 74) = W1 := ⟨_, rfl⟩
          have hgh : W1.heap[gh]? = some (.cells #[.int .i64 (h.cls : Int), .bool h.made, .int .i64 (h.tag : Int), .int .i64 (h.len : Int), .int .i64 (h.size : Int)] 74 (0, 0)) := by rw [← hW1, ← hgh0]; exact heap_alloc_new _ _
          have hd1 : W1.cell? ⟨db, dof + i, none⟩ = some (.int .i64 (d : Int)) := by rw [← hW1, World.cell?_alloc_past _ _ _ (World.block_lt_of_cell? wr _ hdc)]; exact hdc
          have hp1 : W1.cell? ⟨b, i * 6, none⟩ = some (.int .i64 (p : Int)) := by rw [← hW1, World.cell?_alloc_past _ _ _ (World.block_lt_of_cell? wr _ c0)]; exact c0
          have HO1 : Hid (OwnN W1 w1.heap.size vo ((l.take i).map (ndOf s)) ∧ Below w1.heap.size w1 W1) := ⟨by rw [← hW1]; exact World.ownsRow.alloc HO.out.1 _, by rw [← hW1]; exact HO.out.2.alloc HO.out.2.size _⟩
          have b0 := hdcell hgh 0 _ rfl
          have b1 := hdcell hgh 1 _ rfl
          have b2 := hdcell hgh 2 _ rfl
          rw [hW1, hgh0]
          clear hW1 hgh0 c0 c1 c2 c3 c4 c5 hdc HO
          go_region_held3 (fun w' => w'.cell? ⟨gh, 0, none⟩ = some (.int .i64 (h.cls : Int)) ∧ w'.cell? ⟨gh, 1, none⟩ = some (.bool h.made) ∧ w'.cell? ⟨gh, 2, none⟩ = some (.int .i64 (h.tag : Int)) ∧ w'.cell? ⟨db, dof + i, none⟩ = some (.int .i64 (d : Int)))
            (first | exact ⟨b0, b1, b2, hd1⟩ | go_keep)
            (first | (fail))
          obtain ⟨gn, hgn⟩ : ∃ gn, W1.heap.size = gn := ⟨_, rfl⟩
          obtain ⟨W2, hW2⟩ : ∃ W2, (W1.alloc (.cells #[.int .i64 (d : Int), .int .i64 (h.cls : Int), .bool h.made, .int .i64 (h.tag : Int), .string ⟨#[]⟩] 38)).drew = W2 := ⟨_, rfl⟩
          have hn2 : W2.heap[gn]? = some (.cells #[.int .i64 (d : Int), .int .i64 (h.cls : Int), .bool h.made, .int .i64 (h.tag : Int), .string ⟨#[]⟩] 38 (0, 0)) := by rw [← hW2, ← hgn]; exact heap_alloc_new _ _
          have hbel : Below W1.heap.size W1 W2 := by rw [← hW2]; exact ((Below.refl _ _).alloc (Nat.le_refl _) _).drew
          have hs2 : W2.heap.size = gn + 1 := by rw [← hW2, ← hgn]; simp
          have hgl : gh < W1.heap.size := (Array.getElem?_eq_some_iff.1 hgh).1
          have hgh2 : W2.heap[gh]? = some (.cells #[.int .i64 (h.cls : Int), .bool h.made, .int .i64 (h.tag : Int), .int .i64 (h.len : Int), .int .i64 (h.size : Int)] 74 (0, 0)) := by rw [hbel.block gh hgl]; exact hgh
          have hp2 : W2.cell? ⟨b, i * 6, none⟩ = some (.int .i64 (p : Int)) := by rw [hbel.cell (World.block_lt_of_cell? W1 _ hp1)]; exact hp1
          have m1 := hdcell hgh2 1 (.bool h.made) rfl
          have m3 := hdcell hgh2 3 (.int .i64 (h.len : Int)) rfl
          have m4 := hdcell hgh2 4 (.int .i64 (h.size : Int)) rfl
          have n0 := hdcell hn2 0 (.int .i64 (d : Int)) rfl
          have n1 := hdcell hn2 1 (.int .i64 (h.cls : Int)) rfl
          have n2 := hdcell hn2 2 (.bool h.made) rfl
          have n3 := hdcell hn2 3 (.int .i64 (h.tag : Int)) rfl
          have n4 := hdcell hn2 4 (.string ⟨#[]⟩) rfl
          have f4 : W2.frozen? ⟨gn, 4, none⟩ = false := by simp [World.frozen?, hn2]
          have HO2 : Hid (OwnN W2 w1.heap.size vo ((l.take i).map (ndOf s)) ∧ Below w1.heap.size w1 W2) := ⟨ownN_below HO1.out.1 hbel, HO1.out.2.trans (hbel.mono HO1.out.2.size)⟩
          have hln : Hid (((l.take i).map (ndOf s)).length ≤ 4294967296) := by
            unfold Hid
            rw [List.length_map, List.length_take]
            have := HG.out.2.2.1
            have := HG.out.2.2.2.1
            omega
          have hkw : Hid (wrap64 ((i : Int) + 1) = (i : Int) + 1) := by
            have h1 := HG.out.2.2.2.1
            have h2 := hlt'.out
            exact w_up1 i (by omega)
          have hBs : Hid (w1.heap.size ≤ W2.heap.size) := HO2.out.2.size
          have hbn : Hid (w1.heap.size ≤ gn) := by unfold Hid; rw [← hgn]; exact HO1.out.2.size
          have hob : Hid (∀ g, vo.ownBlock = some g → g < gn) := fun g hg => by rw [← hgn]; exact (World.ownsRow.lt HO1.out.1 _ hg).2
          have hgl2 : Hid (gh < gn) := by unfold Hid; rw [← hgn]; exact hgl
          rw [hW2, hgn]
          clear hgh hd1 hp1 b0 b1 b2 HO1 hW2 hgn hbel hgl hgh2
          cases hmd : h.made with
          | true =>
            rw [hmd] at m1 n2
            have hnd : Hid (ndOf s (p, h, d) = ⟨(d : Int), (h.cls : Int), true, (h.tag : Int), ⟨#[]⟩⟩) := by unfold Hid ndOf; simp only [hmd, if_true]
            obtain ⟨g5, c5, w5, e5, o5, gr5⟩ := appendN_one (W2.alloc (.cells #[.int .i64 (d : Int), .int .i64 (h.cls : Int), .bool true, .int .i64 (h.tag : Int), .string ⟨#[]⟩] 38)) w1.heap.size vo ((l.take i).map (ndOf s)) ⟨(d : Int), (h.cls : Int), true, (h.tag : Int), ⟨#[]⟩⟩ W2.heap.size (World.ownsRow.alloc HO2.out.1 _) (heap_alloc_new _ _) (by have := hBs.out; simp; omega) hln.out
            have hfin : Hid (OwnN w5 w1.heap.size (.slice (some ⟨g5, 0, none⟩) (((l.take i).map (ndOf s)).length + 1) c5) ((l.take (i + 1)).map (ndOf s)) ∧ Below w1.heap.size w1 w5) := ⟨by rw [htk.out, hnd.out]; exact o5, HO2.out.2.trans (((Below.refl _ _).alloc hBs.out _).grown gr5 (by have := hBs.out; simp; omega) (fun j hj => (World.ownsRow.lt HO2.out.1 _ hj).1))⟩
            obtain ⟨on, hon⟩ : ∃ on, ((l.take i).map (ndOf s)).length + 1 = on := ⟨_, rfl⟩
            rw [hon] at e5 hfin
            clear o5 gr5 htk hnd HO2 hx' hln hn2 hon hs2 hmd m3 m4 hp2 f4 hgl2 hBs hob hbn
            go_wp2_with (at_builtin; refine Lib.wpList_append_run _ rfl _ _ _ _ rfl _ _ rfl rfl _ _ e5 ?_; clear e5)
            go_roundw
            case rel => exact ⟨i + 1, _, rfl, congrArg (Value.int .i64) (by rw [hkw.out]; omega), hlt'.out, hfin⟩
            case measure => rw [hkw.out]; exact meas_up n i hlt'.out
          | false =>
            rw [hmd] at m1 n2 hn2
            obtain ⟨A, hA⟩ : ∃ A, p + h.size = A := ⟨_, rfl⟩
            obtain ⟨Z, hZ⟩ : ∃ Z, A + h.len = Z := ⟨_, rfl⟩
            have hsz := hm'.out
            obtain ⟨y1, y2, y3⟩ := hx'.out
            have y1' : p + h.size + h.len ≤ s.size := y1
            have wAH : Hid (wrap64 ((p : Int) + (h.size : Int)) = (A : Int)) := ww p h.size A hA (by omega)
            have wZH : Hid (wrap64 ((A : Int) + (h.len : Int)) = (Z : Int)) := ww A h.len Z hZ (by omega)
            obtain ⟨X, hX⟩ : ∃ X, s.extract A Z = X := ⟨_, rfl⟩
            have hnd : Hid (ndOf s (p, h, d) = ⟨(d : Int), (h.cls : Int), false, (h.tag : Int), X⟩) := by
              unfold Hid ndOf
              simp only [hmd]
              rw [hA, hZ, hX]
              rfl
            have a0 : (0 : Int) ≤ (A : Int) := Int.natCast_nonneg _
            have a1 : (A : Int) ≤ (Z : Int) := by omega
            have a2 : (Z : Int) ≤ (s.size : Int) := by omega
            have wA := wAH.out
            have wZ := wZH.out
            clear hA hZ hsz y1 y2 y3 y1' wAH wZH hx'
            go_upto_region 13 with fail
            go_quiet (fail)
            go_upto_region 15 with fail
            obtain ⟨W3, hW3⟩ : ∃ W3, (W2.drewN nq).setCell ⟨gn, 4, none⟩ (.string X) = W3 := ⟨_, rfl⟩
            have hb3 : Below gn W2 W3 := by rw [← hW3]; exact (show Below gn W2 (W2.drewN nq) from ⟨rfl, rfl, rfl, Nat.le_refl _, fun _ _ => rfl⟩).setCell (Nat.le_refl _) _
            have hs3 : W3.heap.size = W2.heap.size := by rw [← hW3, World.size_setCell]; rfl
            have x0 : W3.cell? ⟨gn, 0, none⟩ = some (.int .i64 (d : Int)) := by rw [← hW3]; simp [go_sem, n0]
            have x1 : W3.cell? ⟨gn, 1, none⟩ = some (.int .i64 (h.cls : Int)) := by rw [← hW3]; simp [go_sem, n1]
            have x2 : W3.cell? ⟨gn, 2, none⟩ = some (.bool false) := by rw [← hW3]; simp [go_sem, n2]
            have x3 : W3.cell? ⟨gn, 3, none⟩ = some (.int .i64 (h.tag : Int)) := by rw [← hW3]; simp [go_sem, n3]
            have x4 : W3.cell? ⟨gn, 4, none⟩ = some (.string X) := by rw [← hW3]; simp [go_sem, n4]
            have hO3 : OwnN W3 w1.heap.size vo ((l.take i).map (ndOf s)) := ownN_block HO2.out.1 (fun g hg hgl hv => hb3.block g (hob.out g hv))
            have hB3 : Below w1.heap.size w1 W3 := HO2.out.2.trans (hb3.mono (by have := hBs.out; have := hbn.out; omega))
            obtain ⟨g5, c5, w5, e5, o5, gr5⟩ := appendN_one (W3.alloc (.cells #[.int .i64 (d : Int), .int .i64 (h.cls : Int), .bool false, .int .i64 (h.tag : Int), .string X] 38)) w1.heap.size vo ((l.take i).map (ndOf s)) ⟨(d : Int), (h.cls : Int), false, (h.tag : Int), X⟩ W3.heap.size (World.ownsRow.alloc hO3 _) (heap_alloc_new _ _) (by have := hB3.size; simp; omega) hln.out
            have hfin : Hid (OwnN w5 w1.heap.size (.slice (some ⟨g5, 0, none⟩) (((l.take i).map (ndOf s)).length + 1) c5) ((l.take (i + 1)).map (ndOf s)) ∧ Below w1.heap.size w1 w5) := ⟨by rw [htk.out, hnd.out]; exact o5, hB3.trans (((Below.refl _ _).alloc hB3.size _).grown gr5 (by have := hB3.size; simp; omega) (fun j hj => (World.ownsRow.lt hO3 _ hj).1))⟩
            obtain ⟨on, hon⟩ : ∃ on, ((l.take i).map (ndOf s)).length + 1 = on := ⟨_, rfl⟩
            rw [hon] at e5 hfin
            rw [hW3]
            clear o5 gr5 htk hnd HO2 hln hn2 hon hs2 hmd m1 m3 m4 hp2 f4 hgl2 hBs hob hbn hb3 hs3 hO3 hB3 hW3 n0 n1 n2 n3 n4 wA wZ a0 a1 a2 hX
            go_wp2_with (at_builtin; refine Lib.wpList_append_run _ rfl _ _ _ _ rfl _ _ rfl rfl _ _ e5 ?_; clear e5)
            go_roundw
            case rel => exact ⟨i + 1, _, rfl, congrArg (Value.int .i64) (by rw [hkw.out]; omega), hlt'.out, hfin⟩
            case measure => rw [hkw.out]; exact meas_up n i hlt'.out
        · obtain rfl : i = n := by omega
          have i1 : ¬ (i : Int) < (i : Int) := by omega
          have hfin : Hid (treeQ s w.heap.size (.returned (.tuple #[vo, .int .i64 0, .int .i64 0])) wr ∧ Below w.heap.size w wr) := by
            refine ⟨Or.inl ⟨l, vo, HR.out, rfl, ?_⟩, HB1.out.trans (HO.out.2.mono HB1.out.size)⟩
            have h1 := HO.out.1
            rw [HG.out.2.2.1, List.take_length] at h1
            exact ownN_base h1 HB1.out.size
          clear HO HG HR hlt hi
          go_wp2_with fail
          refine bodyPost_ret_by (v := .tuple #[vo, .int .i64 0, .int .i64 0]) (by simp [results, Tryd.results25]) rfl hfin.out
end BrM
end Go.Proofs.YtkiidlnimjjnlaaDoor
