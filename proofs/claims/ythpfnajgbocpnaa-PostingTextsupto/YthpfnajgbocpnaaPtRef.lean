import Derived.Test.YthpfnajgbocpnaaPtOf
import Derived.Test.YthpfnajgbocpnaaPtSrM
import Derived.Test.YthpfnajgbocpnaaPtSrM
import Derived.Lib.AppendZeros
namespace Go.Proofs.Ythpfnajgbocpnaa
namespace Pt
open Go.RowKit Go.Sort Go.Lib
open PtMath (Inc setOf cnt MInv)
set_option linter.unusedVariables false
set_option maxRecDepth 100000
open PtT (Rk TB en)
variable {Tk : PtT.Rk}

/-- One number more, of a row of one. -/
theorem push_int (w : World) {ops : Array Oper} {rest : List Oper} {o : Oper} {a : Act} {Q : Exit → Act → World → Prop} (hgd : o.guard = none) (s x : Operand)
    (ho : o.op = .call { callee := .builtin .append, args := #[s, x], argTypes := #[23, 23] }) (B : Nat) (v : Value) (l : List Nat) (m : Nat) (g : Nat)
    (hs : a.eval s = v) (hx : a.eval x = .slice (some ⟨g, 0, none⟩) 1 1) (hown : OwnI Tk w B v l) (hg : w.heap[g]? = some (.cells #[.string (TB Tk m)] 9 (0, 0))) (hB : B ≤ w.heap.size) (hl : (l.length + 1) * 16 ≤ 140737488355328)
    (h : ∀ g' cap w', OwnI Tk w' B (.slice (some ⟨g', 0, none⟩) (l.length + 1) cap) (l ++ [m]) → w.grownBy w' v.ownBlock → (v.ownBlock = some g' ∨ g' = w.heap.size) → Below B w w' → wpList Try.prog ops Q rest (a.put o.dst (.slice (some ⟨g', 0, none⟩) (l.length + 1) cap)) w') :
    wpList Try.prog ops Q (o :: rest) a w := by
  obtain ⟨i0, hi, hz0, hz1, hz2⟩ := info_parts info_i64
  refine wpList_append_lies w hgd s x 23 ho B 9 i0 _ 1 16 Try.underlying23 hi hz0 hz1 hz2 rfl (by decide) v l.length (iv Tk l) hs hown ⟨g, 0, none⟩ 1 1 [.string (TB Tk m)] hx rfl (World.news_of_block hg) (by intro u hu; simp at hu; subst hu; rfl) (by decide) (by unfold maxLen; omega) (by omega) hB w.heap.size rfl ?_
  intro g' cap w' h1 h2 h3 _
  refine h g' cap w' ?_ h2 h3 ?_
  · unfold OwnI
    rw [iv_app, List.length_append]
    exact h1
  · refine (Below.refl _ _).grown h2 hB ?_
    intro k hk
    exact (World.ownsRow.lt (show w.ownsRow B 9 1 v l.length (iv Tk l) from hown) _ hk).1

set_option maxRecDepth 100000 in
set_option maxHeartbeats 400000 in
theorem place_any (a : Option Addr) (l : List Nat) (c : Nat) (x : Nat) (w : World) (hr : NRow Tk w a l) (hi : Inc l) (hl : l.length ≤ 140737488355328) :
    Calls Try.prog 26 #[.slice a l.length c, .string (TB Tk x)] w fun e w' => e = .returned (.int .i64 (cnt l x : Int)) ∧ w' = w := by
  have hI : Hid (Inc l ∧ l.length ≤ 140737488355328) := ⟨hi, hl⟩
  clear hi hl
  go_enter Try.func26, Try.ntmps26
  go_wp2_with fail
  go_loopw [5, 6] (fun lv hv wr => ∃ lo hi : Nat, lo ≤ hi ∧ hi ≤ l.length ∧ lv = .int .i64 (lo : Int) ∧ hv = .int .i64 (hi : Int) ∧ Hid ((∀ j (h : j < l.length), j < lo → l[j] < x) ∧ (∀ j (h : j < l.length), hi ≤ j → x ≤ l[j])) ∧ wr = w) (fun lv hv _ => (intOf hv).toNat - (intOf lv).toNat)
  case atStart => exact ⟨0, l.length, Nat.zero_le _, Nat.le_refl _, rfl, rfl, ⟨fun j h hj => by omega, fun j h hj => by omega⟩, rfl⟩
  case round =>
    obtain ⟨lo, hi, h1, h2, rfl, rfl, hM, rfl⟩ := hrel
    have hlb := hI.out.2
    have b1 : (lo : Int) ≤ (hi : Int) := Int.ofNat_le.2 h1
    have b2 : (hi : Int) ≤ 140737488355328 := by omega
    by_cases hlt : lo < hi
    · have i1 : (lo : Int) < (hi : Int) := Int.ofNat_lt.2 hlt
      have hm : (lo + hi) / 2 < l.length := by omega
      obtain ⟨b, off, rfl, c1⟩ := hr ((lo + hi) / 2) hm
      have e1 : (((lo : Int) + (hi : Int)) / 2).toNat = (lo + hi) / 2 := by omega
      have i2 : (0 : Int) ≤ ((lo : Int) + (hi : Int)) / 2 := by omega
      have i3 : ((lo : Int) + (hi : Int)) / 2 < (l.length : Int) := by omega
      have hb' : Hid (lo < hi ∧ hi ≤ l.length) := ⟨hlt, h2⟩
      have hp := List.pairwise_iff_getElem.1 hI.out.1
      by_cases hx : l[(lo + hi) / 2] < x
      · have hN : Hid ((∀ j (h : j < l.length), j < (lo + hi) / 2 + 1 → l[j] < x) ∧ (∀ j (h : j < l.length), hi ≤ j → x ≤ l[j])) := ⟨fun j h hj => by
          by_cases e : j = (lo + hi) / 2
          · subst e; exact hx
          · exact Nat.lt_trans (hp j _ h hm (by omega)) hx, hM.out.2⟩
        have hxb : Op.bytesLess (TB Tk l[(lo + hi) / 2]).toList (TB Tk x).toList = true := by rw [PtT.less]; exact decide_eq_true hx
        generalize TB Tk l[(lo + hi) / 2] = X at *
        clear hx
        clear hM hlb hp h1 h2 hlt hm
        go_wp2_with fail
        go_roundw
        case rel => exact ⟨(lo + hi) / 2 + 1, hi, by have := hb'.out; omega, by have := hb'.out; omega, by simp, by simp, hN, by trivial⟩
        case measure => have := hb'.out; simp [intOf]; omega
      · have hN : Hid ((∀ j (h : j < l.length), j < lo → l[j] < x) ∧ (∀ j (h : j < l.length), (lo + hi) / 2 ≤ j → x ≤ l[j])) := ⟨hM.out.1, fun j h hj => by
          by_cases e : j = (lo + hi) / 2
          · subst e; omega
          · have := hp ((lo + hi) / 2) j hm h (by omega)
            omega⟩
        have hxb : Op.bytesLess (TB Tk l[(lo + hi) / 2]).toList (TB Tk x).toList = false := by rw [PtT.less]; exact decide_eq_false hx
        generalize TB Tk l[(lo + hi) / 2] = X at *
        clear hx
        clear hM hlb hp h1 h2 hlt hm
        go_wp2_with fail
        go_roundw
        case rel => exact ⟨lo, (lo + hi) / 2, by have := hb'.out; omega, by have := hb'.out; omega, by simp, by simp, hN, by trivial⟩
        case measure => have := hb'.out; simp [intOf]; omega
    · have e : lo = hi := by omega
      subst e
      have hE : Hid (cnt l x = lo) := PtMath.cnt_at l x lo h2 hM.out.1 hI.out.1 (fun h => hM.out.2 lo h (Nat.le_refl _))
      have i1 : ¬ (lo : Int) < (lo : Int) := by omega
      clear hM hlb hr
      go_wp2_with fail
      go_ret
      exact ⟨by rw [hE.out]; rfl, rfl⟩

theorem half_l (a : Option Addr) (n c k : Nat) (z : Int) (hz : z = (k : Int)) (hk : k ≤ c) (W : World) :
    (Instr.sliceAt 23 (.slice a n c) none (some (.int .i64 z)) none).run Try.prog W = .ok (.slice a k c) W := by
  subst hz
  rw [run_sliceAt_slice _ _ _ _ _ _ el64, run_slice_h _ _ _ _ _ el64 _ _ (Int.natCast_nonneg _) (Int.ofNat_le.2 hk), run_sz64]
  simp [Result.andThen, sliced]
  intro h
  cases a with
  | none => rfl
  | some x => simp [Addr.add]
theorem own_empty (W : World) : OwnI Tk (W.alloc (.cells #[] 9)) W.heap.size (.slice (some ⟨W.heap.size, 0, none⟩) 0 0) [] := by
  refine ⟨rfl, Or.inr ⟨W.heap.size, 0, #[], rfl, Nat.le_refl _, heap_alloc_new _ _, Nat.le_refl _, Nat.zero_le _, rfl, rfl⟩⟩
set_option maxRecDepth 100000 in
set_option maxHeartbeats 400000 in
theorem sorted_few (a : Option Addr) (l : List Nat) (c : Nat) (w : World) (hr : NRow Tk w a l) (h2 : l.length < 2) :
    Calls Try.prog 6 #[.slice a l.length c] w fun e w' => ∃ v, e = .returned v ∧ OwnI Tk w' w.heap.size v (setOf l) ∧ Below w.heap.size w w' := by
  have hI : Hid (setOf l = l) := PtMath.setOf_self (by
    match l, h2 with
    | [], _ => exact List.Pairwise.nil
    | [x], _ => exact List.pairwise_singleton _ _)
  have hB0 : Below w.heap.size w (w.alloc (.cells #[] 9)) := (Below.refl _ _).alloc (Nat.le_refl _) _
  obtain ⟨v1, w1, hr1, ho1, hb1⟩ := appendI_row _ w.heap.size _ [] l a l.length c (own_empty w) (hr.below hB0) rfl hB0.size (by simp; omega)
  have h2' : (l.length : Int) < 2 := by omega
  have hF : Hid (OwnI Tk w1 w.heap.size v1 (setOf l) ∧ Below w.heap.size w w1) := ⟨by rw [hI.out]; exact ho1, hB0.trans hb1⟩
  generalize l.length = n at *
  clear ho1 hb1 hr h2 hB0
  go_enter Try.func6, Try.ntmps6
  go_wp2_with (at_builtin; refine Lib.wpList_append_run _ rfl _ _ _ _ rfl _ _ rfl rfl _ _ hr1 ?_)
  go_ret
  exact ⟨_, rfl, hF.out⟩
set_option maxRecDepth 100000 in
set_option maxHeartbeats 1000000 in
theorem sorted_any : ∀ (n : Nat) (a : Option Addr) (l : List Nat) (c : Nat) (w : World), l.length ≤ n → NRow Tk w a l → l.length ≤ c → l.length ≤ 4194304 →
    Calls Try.prog 6 #[.slice a l.length c] w fun e w' => ∃ v, e = .returned v ∧ OwnI Tk w' w.heap.size v (setOf l) ∧ Below w.heap.size w w' := by
  intro n
  induction n with
  | zero => intro a l c w hn hr hc hl; exact sorted_few a l c w hr (by omega)
  | succ n ih =>
    intro a l c w hn hr hc hl
    by_cases h2 : l.length < 2
    · exact sorted_few a l c w hr h2
    obtain ⟨k, hk⟩ : ∃ k, l.length / 2 = k := ⟨_, rfl⟩
    have hS1 : Hid (Calls Try.prog 6 #[.slice a k c] w fun e w' => ∃ v, e = .returned v ∧ OwnI Tk w' w.heap.size v (setOf (l.take k)) ∧ Below w.heap.size w w') := by
      have := ih a (l.take k) c w (by rw [List.length_take]; omega) (hr.take k) (by rw [List.length_take]; omega) (by rw [List.length_take]; omega)
      rw [List.length_take, show min k l.length = k by omega] at this
      exact this
    have hS2 : ∀ w1, Hid (Below w.heap.size w w1 → Calls Try.prog 6 #[.slice (cutA a k c) (l.length - k) (c - k)] w1 fun e w' => ∃ v, e = .returned v ∧ OwnI Tk w' w1.heap.size v (setOf (l.drop k)) ∧ Below w1.heap.size w1 w') := fun w1 hb => by
      have := ih (cutA a k c) (l.drop k) (c - k) w1 (by rw [List.length_drop]; omega) ((hr.below hb).cut hc) (by rw [List.length_drop]; omega) (by rw [List.length_drop]; omega)
      rw [List.length_drop] at this
      exact this
    have hs1 : ∀ W, (Instr.sliceAt 23 (.slice a l.length c) none (some (.int .i64 ((l.length : Int) / 2))) none).run Try.prog W = .ok (.slice a k c) W := fun W => half_l a l.length c k _ (by omega) (by omega) W
    have hs2 : ∀ W, (Instr.sliceAt 23 (.slice a l.length c) (some (.int .i64 ((l.length : Int) / 2))) none none).run Try.prog W = .ok (.slice (cutA a k c) (l.length - k) (c - k)) W := fun W => slice_from a l.length c k _ (by omega) (by omega) W
    have h2' : ¬ (l.length : Int) < 2 := by omega
    have l0 : (0 : Int) ≤ (l.length : Int) := Int.natCast_nonneg _
    have hlb : (l.length : Int) ≤ 4194304 := by omega
    have hL : Hid (l.length ≤ 4194304 ∧ (setOf (l.take k)).length + (setOf (l.drop k)).length ≤ l.length) := ⟨hl, by
      have h3 := PtMath.setOf_len (l.take k)
      have h4 := PtMath.setOf_len (l.drop k)
      rw [List.length_take] at h3
      rw [List.length_drop] at h4
      omega⟩
    have hfinal : ∀ O, Hid (MInv (setOf (l.take k)) (setOf (l.drop k)) O (setOf (l.take k)).length (setOf (l.drop k)).length → O = setOf l) := fun O h => PtMath.MInv.done h
    have hincA := PtMath.setOf_inc (l.take k)
    have hincB := PtMath.setOf_inc (l.drop k)
    have hI : Hid (Inc (setOf (l.take k)) ∧ Inc (setOf (l.drop k))) := ⟨hincA, hincB⟩
    generalize setOf (l.take k) = A at *
    generalize setOf (l.drop k) = B at *
    generalize l.length - k = n2 at *
    generalize cutA a k c = a2 at *
    clear ih hincA hincB hn hr hc hl h2 hk
    generalize l.length = len at *
    go_enter Try.func6, Try.ntmps6
    go_wp2_with (first
      | (go_at_call 6; refine ((hS2 w1).out hb1).mono ?_; rintro e w2 ⟨v2, rfl, hO2, hb2⟩; obtain ⟨a4, n4, c4, rfl⟩ := ownI_slice hO2; obtain ⟨hr4, rfl⟩ := ownI_row hO2; clear hr4)
      | (go_at_call 6; refine hS1.out.mono ?_; rintro e w1 ⟨v1, rfl, hO1, hb1⟩; obtain ⟨a3, n3, c3, rfl⟩ := ownI_slice hO1; obtain ⟨hr3, rfl⟩ := ownI_row hO1; clear hr3))
    have hR2 : Hid (NRow Tk w2 a3 A ∧ NRow Tk w2 a4 B ∧ Below w.heap.size w w2) := ⟨(ownI_row hO1).1.below hb2, (ownI_row hO2).1, hb1.trans (hb2.mono hb1.size)⟩
    have hw2 : Hid (w.heap.size ≤ w2.heap.size) := Nat.le_trans hb1.size hb2.size
    clear hO1 hO2 hb1 hb2 hS1 hS2 hs1 hs2
    generalize hnA : A.length = nA at *
    generalize hnB : B.length = nB at *
    have hN : Hid (A.length = nA ∧ B.length = nB) := ⟨hnA, hnB⟩
    clear hnA hnB
    go_loopw [5, 6, 7] (fun ov iv jv wr => ∃ (i j : Nat) (O : List Nat), iv = .int .i64 (i : Int) ∧ jv = .int .i64 (j : Int) ∧ Hid (OwnI Tk wr w2.heap.size ov O ∧ MInv A B O i j ∧ Below w2.heap.size w2 wr)) (fun _ iv jv _ => nA + nB - ((intOf iv).toNat + (intOf jv).toNat))
    case atStart => exact ⟨0, 0, [], rfl, rfl, ownI_nil _ _, PtMath.MInv.start A B, Below.refl _ _⟩
    case round =>
      obtain ⟨i, j, O, rfl, rfl, hQ⟩ := hrel
      have hiA : i ≤ nA := by have := hQ.out.2.1.1; rw [hN.out.1] at this; exact this
      have hjB : j ≤ nB := by have := hQ.out.2.1.2.1; rw [hN.out.2] at this; exact this
      have hOl : Hid (O.length ≤ i + j ∧ i ≤ nA ∧ j ≤ nB) := ⟨hQ.out.2.1.2.2.2.1, hiA, hjB⟩
      have i0 : (0 : Int) ≤ (i : Int) := Int.natCast_nonneg _
      have j0 : (0 : Int) ≤ (j : Int) := Int.natCast_nonneg _
      have ib : (i : Int) ≤ 4194304 := by have := hL.out; omega
      have jb : (j : Int) ≤ 4194304 := by have := hL.out; omega
      by_cases hi : i < nA
      · have i1 : (i : Int) < (nA : Int) := Int.ofNat_lt.2 hi
        have i2 : ((i : Int) == (nA : Int)) = false := by simp; omega
        have i3 : decide ((i : Int) < (nA : Int)) = true := decide_eq_true i1
        have hiA' : i < A.length := by rw [hN.out.1]; exact hi
        obtain ⟨b1, o1, rfl, c1⟩ := (hR2.out.1.below hQ.out.2.2) i hiA'
        by_cases hj : j < nB
        · have j1 : (j : Int) < (nB : Int) := Int.ofNat_lt.2 hj
          have j2 : ((j : Int) == (nB : Int)) = false := by simp; omega
          have hjB' : j < B.length := by rw [hN.out.2]; exact hj
          obtain ⟨b2, o2, rfl, c2⟩ := (hR2.out.2.1.below hQ.out.2.2) j hjB'
          have hij : Hid (i < nA ∧ j < nB) := ⟨hi, hj⟩
          have hOw : Hid (OwnI Tk wr w2.heap.size _ O ∧ Below w2.heap.size w2 wr) := ⟨hQ.out.1, hQ.out.2.2⟩
          by_cases hlt : A[i] < B[j]
          · have hM : Hid (MInv A B (O ++ [A[i]]) (i + 1) j) := hQ.out.2.1.takeA hI.out.1 hI.out.2 hiA' (PtMath.less_drop hI.out.2 hjB' hlt)
            have d1 : Op.bytesLess (TB Tk A[i]).toList (TB Tk B[j]).toList = true := by rw [PtT.less]; exact decide_eq_true hlt
            generalize A[i] = X at *
            generalize B[j] = Y at *
            clear hQ hi hj hiA hjB hiA' hjB'
            go_wp2_with fail
            go_quiet (fail)
            go_wp2_with (at_builtin; refine push_int (Tk := Tk) _ rfl _ _ rfl w2.heap.size _ O X _ rfl rfl ?_ ?_ ?_ ?_ ?_; (exact World.ownsRow.alloc (ownI_drewN hOw.out.1 _) _); (exact heap_alloc_new _ _); (have := hOw.out.2.size; simp; omega); (have := hOl.out; have := hL.out; have := hij.out; omega); intro g' cap' w3 hO3 hg3 hl3 hb3)
            have hfin : Hid (OwnI Tk w3 w2.heap.size (.slice (some ⟨g', 0, none⟩) (O.length + 1) cap') (O ++ [X]) ∧ MInv A B (O ++ [X]) (i + 1) (j) ∧ Below w2.heap.size w2 w3) := ⟨hO3, hM.out, Below.trans (Below.alloc (Below.trans hOw.out.2 (below_drewN _ _ _)) hOw.out.2.size _) hb3⟩
            clear hO3 hg3 hl3 hb3
            go_roundw
            case rel => exact ⟨i + 1, j, O ++ [X], by simp, by simp, hfin⟩
            case measure => have := hij.out; simp [intOf]; omega
          · have d1 : Op.bytesLess (TB Tk A[i]).toList (TB Tk B[j]).toList = false := by rw [PtT.less]; exact decide_eq_false hlt
            by_cases hgt : B[j] < A[i]
            · have hM : Hid (MInv A B (O ++ [B[j]]) i (j + 1)) := hQ.out.2.1.takeB hI.out.1 hI.out.2 hjB' (PtMath.less_drop hI.out.1 hiA' hgt)
              have d2 : Op.bytesLess (TB Tk B[j]).toList (TB Tk A[i]).toList = true := by rw [PtT.less]; exact decide_eq_true hgt
              generalize A[i] = X at *
              generalize B[j] = Y at *
              clear hQ hi hj hiA hjB hiA' hjB'
              go_wp2_with fail
              go_quiet (fail)
              go_wp2_with fail
              go_quiet (fail)
              go_wp2_with (at_builtin; refine push_int (Tk := Tk) _ rfl _ _ rfl w2.heap.size _ O Y _ rfl rfl ?_ ?_ ?_ ?_ ?_; (exact World.ownsRow.alloc (ownI_drewN hOw.out.1 _) _); (exact heap_alloc_new _ _); (have := hOw.out.2.size; simp; omega); (have := hOl.out; have := hL.out; have := hij.out; omega); intro g' cap' w3 hO3 hg3 hl3 hb3)
              have hfin : Hid (OwnI Tk w3 w2.heap.size (.slice (some ⟨g', 0, none⟩) (O.length + 1) cap') (O ++ [Y]) ∧ MInv A B (O ++ [Y]) (i) (j + 1) ∧ Below w2.heap.size w2 w3) := ⟨hO3, hM.out, Below.trans (Below.alloc (Below.trans hOw.out.2 (below_drewN _ _ _)) hOw.out.2.size _) hb3⟩
              clear hO3 hg3 hl3 hb3
              go_roundw
              case rel => exact ⟨i, j + 1, O ++ [Y], by simp, by simp, hfin⟩
              case measure => have := hij.out; simp [intOf]; omega
            · have hM : Hid (MInv A B O (i + 1) j) := hQ.out.2.1.skipA hiA' hjB' (by omega)
              have d2 : Op.bytesLess (TB Tk B[j]).toList (TB Tk A[i]).toList = false := by rw [PtT.less]; exact decide_eq_false hgt
              generalize A[i] = X at *
              generalize B[j] = Y at *
              clear hQ hi hj hiA hjB hiA' hjB'
              go_wp2_with fail
              go_quiet (fail)
              go_wp2_with fail
              go_quiet (fail)
              go_wp2_with fail
              go_roundw
              case rel => exact ⟨i + 1, j, O, by simp, by simp, ownI_drewN hOw.out.1 _, hM.out, hOw.out.2.trans (below_drewN _ _ _)⟩
              case measure => have := hij.out; simp [intOf]; omega
        · have e : j = nB := by omega
          subst e
          have j1 : ¬ (j : Int) < (j : Int) := by omega
          have j2 : ((j : Int) == (j : Int)) = true := by simp
          have hij : Hid (i < nA) := hi
          have hOw : Hid (OwnI Tk wr w2.heap.size _ O ∧ Below w2.heap.size w2 wr) := ⟨hQ.out.1, hQ.out.2.2⟩
          have hM : Hid (MInv A B (O ++ [A[i]]) (i + 1) j) := hQ.out.2.1.takeA hI.out.1 hI.out.2 hiA' (by rw [← hN.out.2]; exact PtMath.less_none)
          generalize A[i] = X at *
          clear hQ hi hj hiA hjB hiA'
          go_wp2_with fail
          go_quiet (fail)
          go_wp2_with (at_builtin; refine push_int (Tk := Tk) _ rfl _ _ rfl w2.heap.size _ O X _ rfl rfl ?_ ?_ ?_ ?_ ?_; (exact World.ownsRow.alloc (ownI_drewN hOw.out.1 _) _); (exact heap_alloc_new _ _); (have := hOw.out.2.size; simp; omega); (have := hOl.out; have := hL.out; have := hij.out; omega); intro g' cap' w3 hO3 hg3 hl3 hb3)
          have hfin : Hid (OwnI Tk w3 w2.heap.size (.slice (some ⟨g', 0, none⟩) (O.length + 1) cap') (O ++ [X]) ∧ MInv A B (O ++ [X]) (i + 1) (j) ∧ Below w2.heap.size w2 w3) := ⟨hO3, hM.out, Below.trans (Below.alloc (Below.trans hOw.out.2 (below_drewN _ _ _)) hOw.out.2.size _) hb3⟩
          clear hO3 hg3 hl3 hb3
          go_roundw
          case rel => exact ⟨i + 1, j, O ++ [X], by simp, by simp, hfin⟩
          case measure => have := hij.out; simp [intOf]; omega
      · have e : i = nA := by omega
        subst e
        have i1 : ¬ (i : Int) < (i : Int) := by omega
        have i2 : ((i : Int) == (i : Int)) = true := by simp
        have i3 : decide ((i : Int) < (i : Int)) = false := decide_eq_false i1
        by_cases hj : j < nB
        · have j1 : (j : Int) < (nB : Int) := Int.ofNat_lt.2 hj
          have j2 : ((j : Int) == (nB : Int)) = false := by simp; omega
          have hjB' : j < B.length := by rw [hN.out.2]; exact hj
          obtain ⟨b2, o2, rfl, c2⟩ := (hR2.out.2.1.below hQ.out.2.2) j hjB'
          have hij : Hid (j < nB) := hj
          have hOw : Hid (OwnI Tk wr w2.heap.size _ O ∧ Below w2.heap.size w2 wr) := ⟨hQ.out.1, hQ.out.2.2⟩
          have hM : Hid (MInv A B (O ++ [B[j]]) i (j + 1)) := hQ.out.2.1.takeB hI.out.1 hI.out.2 hjB' (by rw [← hN.out.1]; exact PtMath.less_none)
          generalize B[j] = Y at *
          clear hQ hi hj hiA hjB hjB'
          go_wp2_with fail
          go_quiet (fail)
          go_wp2_with fail
          go_quiet (fail)
          go_wp2_with (at_builtin; refine push_int (Tk := Tk) _ rfl _ _ rfl w2.heap.size _ O Y _ rfl rfl ?_ ?_ ?_ ?_ ?_; (exact World.ownsRow.alloc (ownI_drewN hOw.out.1 _) _); (exact heap_alloc_new _ _); (have := hOw.out.2.size; simp; omega); (have := hOl.out; have := hL.out; have := hij.out; omega); intro g' cap' w3 hO3 hg3 hl3 hb3)
          have hfin : Hid (OwnI Tk w3 w2.heap.size (.slice (some ⟨g', 0, none⟩) (O.length + 1) cap') (O ++ [Y]) ∧ MInv A B (O ++ [Y]) (i) (j + 1) ∧ Below w2.heap.size w2 w3) := ⟨hO3, hM.out, Below.trans (Below.alloc (Below.trans hOw.out.2 (below_drewN _ _ _)) hOw.out.2.size _) hb3⟩
          clear hO3 hg3 hl3 hb3
          go_roundw
          case rel => exact ⟨i, j + 1, O ++ [Y], by simp, by simp, hfin⟩
          case measure => have := hij.out; simp [intOf]; omega
        · have e : j = nB := by omega
          subst e
          have j1 : ¬ (j : Int) < (j : Int) := by omega
          have hE : Hid (OwnI Tk wr w.heap.size u5 (setOf l) ∧ Below w.heap.size w wr) := by
            have hO := (hfinal O).out (by have := hQ.out.2.1; exact this)
            refine ⟨?_, hR2.out.2.2.trans (hQ.out.2.2.mono hw2.out)⟩
            rw [← hO]
            exact ownI_base hQ.out.1 hw2.out
          clear hQ hi hj hiA hjB
          go_wp2_with fail
          go_ret
          exact ⟨_, rfl, hE.out⟩
end Pt
end Go.Proofs.Ythpfnajgbocpnaa
