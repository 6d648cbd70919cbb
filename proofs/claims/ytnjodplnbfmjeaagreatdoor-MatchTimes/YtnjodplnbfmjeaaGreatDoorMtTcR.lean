import Derived.Test.YtnjodplnbfmjeaaGreatDoorMtTcO
import Derived.Test.YtnjodplnbfmjeaaGreatDoorMtRuC
import Derived.Test.YtnjodplnbfmjeaaGreatDoorMtTmM
namespace Go.Proofs.YtnjodplnbfmjeaaGreatDoor
open Go.RowKit
set_option linter.unusedVariables false
set_option linter.unusedSimpArgs false
namespace Tc
open Mt

abbrev tmFn : FuncId := 272
set_option maxRecDepth 100000 in
set_option maxHeartbeats 1000000 in
theorem eq_any (v nv a na : ByteArray) (bv ba : Bool) (w : World) (hv : NormB tmX tmFn v nv bv w) (ha : NormB tmX tmFn a na ba w) :
    Calls Tryz.prog 6 #[.int .i64 12, .string v, .string a] w fun e w' => e = .returned (tvE ba (bv && (nv.toList == na.toList))) ∧ Below w.heap.size w w' := by
  have hS' : ∀ W : World, Hid (Calls Tryz.prog 15 #[.int .i64 12] W fun e w' => e = .returned tmV ∧ w' = W) := Mt.synTm
  have hQ : Hid (Calls Tryz.prog 14 #[tmV, .string a] w fun e w' => (∃ c, e = .returned (.tuple #[c, .bool ba]) ∧ EqClsG w' c tmV na) ∧ Below w.heap.size w w') := equalityW_any 78 tmX tmFn Mt.tmAt Mt.tmWalked a na ba w (ha w (Below.refl _ _))
  have hV : ∀ (c : Value) (W : World), Below w.heap.size w W → EqClsG W c tmV na → Hid (Calls Tryz.prog 16 #[c, .bool ba, .string v] W fun e w' => e = .returned (tvE ba (bv && (nv.toList == na.toList))) ∧ Below W.heap.size W w') := fun c W hb hc => verdictE_any 78 tmX tmFn Mt.tmAt Mt.tmWalked c ba v nv na bv W (hv W hb) hc
  generalize tvE ba (bv && (nv.toList == na.toList)) = res at *
  clear hv ha
  go_enter Tryz.func6, Tryz.ntmps6
  go_wp2_with fail
  refine (hS' w).out.mono ?_
  rintro e w0 ⟨rfl, hww⟩
  obtain rfl := hww.symm
  clear hS' hww
  go_wp2_with fail
  refine hQ.out.mono ?_
  rintro e W1 ⟨⟨c, rfl, hc⟩, hb1⟩
  have o1 : Hid (Below w.heap.size w W1) := hb1
  have hV1 := (hV c W1 hb1 hc).out
  clear hQ hV hc hb1
  go_wp2_with fail
  refine hV1.mono ?_
  rintro e W2 ⟨rfl, hb2⟩
  have o2 : Hid (Below w.heap.size w W2) := o1.out.trans (hb2.mono o1.out.size)
  clear hV1 hb2
  go_wp2_with fail
  go_ret
  exact ⟨rfl, o2.out⟩
theorem aheadAsks : Asks 34 (fun o => decide (o < 0)) := fun o W => by
  go_enter Tryz.func34, Tryz.ntmps34
  go_wp2_with fail
  go_ret
  exact ⟨rfl, rfl⟩
set_option maxRecDepth 100000 in
theorem aheadWalked1 : WalkedAt 34 := fun args W => by kernel_rfl
set_option maxRecDepth 100000 in
theorem aheadWalked : WalkedAt 28 := fun args W => by kernel_rfl
set_option maxRecDepth 100000 in
set_option maxHeartbeats 1000000 in
theorem ahead_any (a na : ByteArray) (b : Bool) (w : World) (hN : NormB tmX tmFn a na b w) : Calls Tryz.prog 28 #[tmV, .string a] w fun e w' => (∃ c, e = .returned (.tuple #[c, .bool b]) ∧ CmpCls w' c 34 na) ∧ Below w.heap.size w w' := by
  have hC : Hid (Calls Tryz.prog 17 #[tmV, .string a, .func (.func 34) #[] #[]] w fun e w' => (∃ c, e = .returned (.tuple #[c, .bool b]) ∧ CmpCls w' c 34 na) ∧ Below w.heap.size w w') := compared_any _ a na b w hN
  clear hN
  go_enter Tryz.func28, Tryz.ntmps28
  go_wp2_with fail
  refine hC.out.mono ?_
  rintro e W1 ⟨⟨c, rfl, hc⟩, hb1⟩
  have o1 : Hid (CmpCls W1 c 34 na ∧ Below w.heap.size w W1) := ⟨hc, hb1⟩
  clear hC hc hb1
  go_wp2_with fail
  go_ret2
  exact ⟨⟨_, rfl, o1.out.1⟩, o1.out.2⟩
theorem byTime_any (v nv a na : ByteArray) (bv ba : Bool) (w : World) (hv : NormB tmX tmFn v nv bv w) (ha : NormB tmX tmFn a na ba w) :
    Calls Tryz.prog 11 #[.int .i64 18, .int .i64 12, .string v, .string a] w fun e w' => e = .returned (tvE ba (bv && decide (Lib.compareBytes nv.data.toList na.data.toList < 0))) ∧ Below w.heap.size w w' :=
  Ru.byRule_gen 18 12 12 78 tmX 28 (by decide) (by decide) (fun cs h => h.2 (18, 12, 28) (by simp [Ru.rulT])) aheadWalked rfl Mt.synTm v a ba _ (fun W c => CmpCls W c 34 na) w
    (fun W hb => ahead_any a na ba W (ha.below hb)) (fun c W hb hc => verdictC_any c ba _ (fun o => decide (o < 0)) aheadAsks aheadWalked1 v nv na bv W (hv.below hb) hc)
/-- A text that is a time, of this normal form. -/
def Is (l n : List UInt8) : Prop := l.length ≤ 4194304 ∧ timB (rdT l) = true ∧ timO (rdT l) = S n
theorem Is.norm {l n : List UInt8} (h : Is l n) {w : World} (ht : TbW w) : NormB tmX tmFn (S l) (S n) true w := fun W hb => by
  have := tmN_any l W (ht.below hb) h.1
  rwa [h.2.1, h.2.2] at this
theorem Is.eq {l n k p : List UInt8} (h : Is l n) (g : Is k p) {t : Int} (ht : t = if n = p then 2 else 0) (w : World) (hT : TbW w) : Calls Tryz.prog 6 #[.int .i64 12, .string (S l), .string (S k)] w fun e w' => e = .returned (.int .i64 t) ∧ Below w.heap.size w w' := by
  have := eq_any (S l) (S n) (S k) (S p) true true w (h.norm hT) (g.norm hT)
  have e : tvE true (true && ((S n).toList == (S p).toList)) = .int .i64 t := by
    rw [Lib.toList_data, Lib.toList_data, S_l, S_l, ht]
    by_cases q : n = p
    · subst q; simp [tvE]
    · have q' : (n == p) = false := beq_eq_false_iff_ne.2 q
      rw [if_neg q, q']; rfl
  rwa [e] at this
theorem tvE_dec (p : Prop) (i : Decidable p) : tvE true (true && decide p) = .int .i64 (if p then 2 else 0) := by
  by_cases q : p
  · rw [decide_eq_true q, if_pos q]; rfl
  · rw [decide_eq_false q, if_neg q]; rfl
theorem Is.least {l n k p : List UInt8} (h : Is l n) (g : Is k p) {t : Int} (ht : t = if (0 : Int) ≤ Lib.compareBytes n p then 2 else 0) (w : World) (hT : TbW w) : Calls Tryz.prog 9 #[.int .i64 12, .string (S l), .string (S k)] w fun e w' => e = .returned (.int .i64 t) ∧ Below w.heap.size w w' := by
  have := least_any (S l) (S n) (S k) (S p) true true w (h.norm hT) (g.norm hT)
  rwa [S_l, S_l, tvE_dec, ← ht] at this
theorem Is.most {l n k p : List UInt8} (h : Is l n) (g : Is k p) {t : Int} (ht : t = if (0 : Int) ≥ Lib.compareBytes n p then 2 else 0) (w : World) (hT : TbW w) : Calls Tryz.prog 10 #[.int .i64 12, .string (S l), .string (S k)] w fun e w' => e = .returned (.int .i64 t) ∧ Below w.heap.size w w' := by
  have := most_any (S l) (S n) (S k) (S p) true true w (h.norm hT) (g.norm hT)
  rwa [S_l, S_l, tvE_dec, ← ht] at this
theorem Is.rule {l n k p : List UInt8} (h : Is l n) (g : Is k p) {t : Int} (ht : t = if Lib.compareBytes n p < 0 then 2 else 0) (w : World) (hT : TbW w) : Calls Tryz.prog 11 #[.int .i64 18, .int .i64 12, .string (S l), .string (S k)] w fun e w' => e = .returned (.int .i64 t) ∧ Below w.heap.size w w' := by
  have := byTime_any (S l) (S n) (S k) (S p) true true w (h.norm hT) (g.norm hT)
  rwa [S_l, S_l, tvE_dec, ← ht] at this
theorem no_eq {l k p : List UInt8} (hl : l.length ≤ 4194304) (h : timB (rdT l) = false) (g : Is k p) (w : World) (hT : TbW w) : Calls Tryz.prog 6 #[.int .i64 12, .string (S l), .string (S k)] w fun e w' => e = .returned (.int .i64 0) ∧ Below w.heap.size w w' := by
  have hn : NormB tmX tmFn (S l) (timO (rdT l)) false w := fun W hb => by
    have := tmN_any l W (hT.below hb) hl
    rwa [h] at this
  exact eq_any (S l) _ (S k) (S p) false true w hn (g.norm hT)
end Tc
end Go.Proofs.YtnjodplnbfmjeaaGreatDoor
