import Derived.Test.YtnjodplnbfmjeaaGreatDoorMtTmI
namespace Go.Proofs.YtnjodplnbfmjeaaGreatDoor
open Go.RowKit
set_option linter.unusedVariables false
set_option linter.unusedSimpArgs false
namespace Mt

/-- A guarded operation that is not wanted is taken first: it yields nothing. -/
theorem n_skip {P : Program} {ops : Array Oper} {Q : Exit → Act → World → Prop} {md : Region.Mode} {S : World → Prop} {N : Nat → Bool} (i : Nat) {oi : Oper} {fuel : Nat} {listed : Array Bool} {a : Act} {w : World} (hi : ops[i]? = some oi)
    (hs : Region.noSelect ops = true) (hf : Region.free md ops listed i = true) (hr : (Region.ready md ops listed).contains i = true) (hsf : RgN.safe md ops N i fuel listed = true)
    (hw : Region.wanted oi (yielded ops a.tmps) = false) (hS : S w)
    (h : RgN.wpAnyN P md ops (RgN.Only Q) N S fuel (listed.setIfInBounds i true) (a.put oi.dst undef) w) : RgN.wpAnyN P md ops (RgN.Only Q) N S (fuel + 1) listed a w :=
  RgN.n_first hi (Region.noSelect_spec hs) (fun _ _ _ h => by cases h.1) fuel listed a w (Region.free_spec hi hf) hsf (by simpa using hr) (Or.inr ⟨hw, rfl⟩) hS h
/-- How things stand while a time is read: the reader, the moment, the answer. -/
def RtS (w W : World) (l : List UInt8) (br : Bool) (y mo d h mi s : Int) (f : ByteArray) : Prop :=
  Tr W (w.heap.size + 2) l br ∧ MoV W (w.heap.size + 1) y mo d h mi s f ∧ MoV W w.heap.size 0 0 0 0 0 0 ⟨#[]⟩ ∧ Below w.heap.size w W
variable {w W W' : World} {l l' : List UInt8} {br br' : Bool} {y mo d h mi s : Int} {f : ByteArray}
theorem RtS.tb (q : RtS w W l br y mo d h mi s f) (hT : Tr W' (w.heap.size + 2) l' br') (ht : Tb (w.heap.size + 2) W W') : RtS w W' l' br' y mo d h mi s f :=
  ⟨hT, q.2.1.of_block (ht.2 _ q.2.1.lt (Nat.ne_of_lt (Nat.lt_succ_self _))), q.2.2.1.of_block (ht.2 _ q.2.2.1.lt (by omega)), q.2.2.2.trans (ht.1.mono (by omega))⟩
theorem RtS.low (q : RtS w W l br y mo d h mi s f) (hb : Below W.heap.size W W') : RtS w W' l br y mo d h mi s f := q.tb (q.1.below hb) (Tb.of_below hb (Nat.le_of_lt q.1.lt))
theorem tr_other {p : Nat} (hm : Tr W p l br) (k j : Nat) (x : Value) (hk : k ≠ p) : Tr (W.setCell ⟨k, j, none⟩ x) p l br := by
  unfold Tr at *
  rw [Go.heap_setCell_other _ _ _ _ (show p ≠ k from Ne.symm hk)]
  exact hm
theorem RtS.s0 (q : RtS w W l br y mo d h mi s f) (x : Int) : RtS w (W.setCell ⟨w.heap.size + 1, 0, none⟩ (.int .i64 x)) l br x mo d h mi s f :=
  ⟨tr_other q.1 _ _ _ (by omega), q.2.1.s0 x, q.2.2.1.other _ _ (by omega), q.2.2.2.setCell (Nat.le_succ _) _⟩
theorem RtS.s1 (q : RtS w W l br y mo d h mi s f) (x : Int) : RtS w (W.setCell ⟨w.heap.size + 1, 1, none⟩ (.int .i64 x)) l br y x d h mi s f :=
  ⟨tr_other q.1 _ _ _ (by omega), q.2.1.s1 x, q.2.2.1.other _ _ (by omega), q.2.2.2.setCell (Nat.le_succ _) _⟩
theorem RtS.s2 (q : RtS w W l br y mo d h mi s f) (x : Int) : RtS w (W.setCell ⟨w.heap.size + 1, 2, none⟩ (.int .i64 x)) l br y mo x h mi s f :=
  ⟨tr_other q.1 _ _ _ (by omega), q.2.1.s2 x, q.2.2.1.other _ _ (by omega), q.2.2.2.setCell (Nat.le_succ _) _⟩
theorem RtS.s3 (q : RtS w W l br y mo d h mi s f) (x : Int) : RtS w (W.setCell ⟨w.heap.size + 1, 3, none⟩ (.int .i64 x)) l br y mo d x mi s f :=
  ⟨tr_other q.1 _ _ _ (by omega), q.2.1.s3 x, q.2.2.1.other _ _ (by omega), q.2.2.2.setCell (Nat.le_succ _) _⟩
theorem RtS.s4 (q : RtS w W l br y mo d h mi s f) (x : Int) : RtS w (W.setCell ⟨w.heap.size + 1, 4, none⟩ (.int .i64 x)) l br y mo d h x s f :=
  ⟨tr_other q.1 _ _ _ (by omega), q.2.1.s4 x, q.2.2.1.other _ _ (by omega), q.2.2.2.setCell (Nat.le_succ _) _⟩
theorem RtS.s5 (q : RtS w W l br y mo d h mi s f) (x : Int) : RtS w (W.setCell ⟨w.heap.size + 1, 5, none⟩ (.int .i64 x)) l br y mo d h mi x f :=
  ⟨tr_other q.1 _ _ _ (by omega), q.2.1.s5 x, q.2.2.1.other _ _ (by omega), q.2.2.2.setCell (Nat.le_succ _) _⟩
theorem RtS.s6 (q : RtS w W l br y mo d h mi s f) (x : ByteArray) : RtS w (W.setCell ⟨w.heap.size + 1, 6, none⟩ (.string x)) l br y mo d h mi s x :=
  ⟨tr_other q.1 _ _ _ (by omega), q.2.1.s6 x, q.2.2.1.other _ _ (by omega), q.2.2.2.setCell (Nat.le_succ _) _⟩
theorem RtS.cells (q : RtS w W l br y mo d h mi s f) : (W.cell? ⟨w.heap.size + 1, 0, none⟩ = some (.int .i64 y) ∧ W.cell? ⟨w.heap.size + 1, 1, none⟩ = some (.int .i64 mo) ∧ W.cell? ⟨w.heap.size + 1, 2, none⟩ = some (.int .i64 d) ∧ W.cell? ⟨w.heap.size + 1, 3, none⟩ = some (.int .i64 h) ∧ W.cell? ⟨w.heap.size + 1, 4, none⟩ = some (.int .i64 mi) ∧ W.cell? ⟨w.heap.size + 1, 5, none⟩ = some (.int .i64 s) ∧ W.cell? ⟨w.heap.size + 1, 6, none⟩ = some (.string f)) ∧ ∀ j, W.frozen? ⟨w.heap.size + 1, j, none⟩ = false := q.2.1.cells
/- The seven cells of a moment are written. -/
theorem below_drew {B : Nat} (hb : Below B w W) : Below B w W.drew := hb.trans ⟨rfl, rfl, rfl, Nat.le_refl _, fun _ _ => rfl⟩
theorem MoV.drew {g : Nat} (hm : MoV W g y mo d h mi s f) : MoV W.drew g y mo d h mi s f := hm
theorem Tr.drew {g : Nat} (hm : Tr W g l br) : Tr W.drew g l br := hm
def st7 (V : World) (k : Nat) (y mo d h mi s : Int) (f : ByteArray) : World :=
  ((((((V.setCell ⟨k, 0, none⟩ (.int .i64 y)).setCell ⟨k, 1, none⟩ (.int .i64 mo)).setCell ⟨k, 2, none⟩ (.int .i64 d)).setCell ⟨k, 3, none⟩ (.int .i64 h)).setCell ⟨k, 4, none⟩ (.int .i64 mi)).setCell ⟨k, 5, none⟩ (.int .i64 s)).setCell ⟨k, 6, none⟩ (.string f)
theorem st7_mo {g : Nat} {a0 a1 a2 a3 a4 a5 : Int} {a6 : ByteArray} (hm : MoV W g a0 a1 a2 a3 a4 a5 a6) : MoV (st7 W g y mo d h mi s f) g y mo d h mi s f := hm.set _ _ _ _ _ _ _
theorem st7_off {g k : Nat} {a0 a1 a2 a3 a4 a5 : Int} {a6 : ByteArray} (hm : MoV W g a0 a1 a2 a3 a4 a5 a6) (hk : k ≠ g) : MoV (st7 W k y mo d h mi s f) g a0 a1 a2 a3 a4 a5 a6 :=
  ((((((hm.other 0 _ hk).other 1 _ hk).other 2 _ hk).other 3 _ hk).other 4 _ hk).other 5 _ hk).other 6 _ hk
theorem st7_tr {g k : Nat} (hm : Tr W g l br) (hk : k ≠ g) : Tr (st7 W k y mo d h mi s f) g l br :=
  tr_other (tr_other (tr_other (tr_other (tr_other (tr_other (tr_other hm k 0 _ hk) k 1 _ hk) k 2 _ hk) k 3 _ hk) k 4 _ hk) k 5 _ hk) k 6 _ hk
theorem st7_below {B k : Nat} (hb : Below B w W) (hk : B ≤ k) : Below B w (st7 W k y mo d h mi s f) :=
  ((((((hb.setCell hk _).setCell hk _).setCell hk _).setCell hk _).setCell hk _).setCell hk _).setCell hk _
/-- What a time says: the moment, its zone, whether it is one. -/
def rdEnd (y mo d h mi s : Int) (f l : List UInt8) (br : Bool) : (Int × Int × Int × Int × Int × Int × List UInt8) × Int × Bool :=
  ((y, mo, d, h, mi, s, f), (zoR l br).1, !(zoR l br).2.2 && (zoR l br).2.1.isEmpty)
def rdSec (y mo d h mi : Int) (l : List UInt8) (br : Bool) : (Int × Int × Int × Int × Int × Int × List UInt8) × Int × Bool :=
  if atD l = true then rdEnd y mo d h mi (numR 2 0 59 l br).1 (fracR (numR 2 0 59 l br).2.1 (numR 2 0 59 l br).2.2).1 (fracR (numR 2 0 59 l br).2.1 (numR 2 0 59 l br).2.2).2.1 (fracR (numR 2 0 59 l br).2.1 (numR 2 0 59 l br).2.2).2.2
  else rdEnd y mo d h mi 0 [] l br
def rdMin (y mo d h : Int) (l : List UInt8) (br : Bool) : (Int × Int × Int × Int × Int × Int × List UInt8) × Int × Bool :=
  if atD l = true then rdSec y mo d h (numR 2 0 59 l br).1 (numR 2 0 59 l br).2.1 (numR 2 0 59 l br).2.2
  else rdEnd y mo d h 0 0 [] l br
def rdHr (y mo d : Int) (a : Int × List UInt8 × Bool) : (Int × Int × Int × Int × Int × Int × List UInt8) × Int × Bool := rdMin y mo d a.1 a.2.1 a.2.2
def rdDay (y mo : Int) (a : Int × List UInt8 × Bool) : (Int × Int × Int × Int × Int × Int × List UInt8) × Int × Bool := rdHr y mo a.1 (numR 2 0 23 a.2.1 a.2.2)
def rdMo (y : Int) (a : Int × List UInt8 × Bool) : (Int × Int × Int × Int × Int × Int × List UInt8) × Int × Bool := rdDay y a.1 (numR 2 1 (lastD y a.1) a.2.1 a.2.2)
def rdY (a : Int × List UInt8 × Bool) : (Int × Int × Int × Int × Int × Int × List UInt8) × Int × Bool := rdMo a.1 (numR 2 1 12 a.2.1 a.2.2)
def rdT (l : List UInt8) : (Int × Int × Int × Int × Int × Int × List UInt8) × Int × Bool := rdY (numR 4 0 9999 l false)
def rdV (x : (Int × Int × Int × Int × Int × Int × List UInt8) × Int × Bool) : Value :=
  .tuple #[.agg #[.int .i64 x.1.1, .int .i64 x.1.2.1, .int .i64 x.1.2.2.1, .int .i64 x.1.2.2.2.1, .int .i64 x.1.2.2.2.2.1, .int .i64 x.1.2.2.2.2.2.1, .string (S x.1.2.2.2.2.2.2)], .int .i64 x.2.1, .bool x.2.2]
theorem fracR_len (l : List UInt8) (br : Bool) : (fracR l br).1.length ≤ l.length ∧ (fracR l br).2.1.length ≤ l.length := by
  cases l with
  | nil => exact ⟨Nat.le_refl _, Nat.le_refl _⟩
  | cons c m =>
    by_cases q : isPt c = true
    · rw [show fracR (c :: m) br = _ from if_pos q]
      have := trimS_le m dgs
      simp
      omega
    · rw [show fracR (c :: m) br = _ from if_neg q]
      simp
theorem res3 (fn : Func) (t t2 t3 : Tmp) (ty : TypeId) (h : fn.results = #[.cell t ty, .tmp t2, .tmp t3]) (tmps : Array Value) (P : Program) (w : World) (p : Addr) (x : Value) (hp : tmps.getD t undef = .pointer (some p)) (hl : (loadVar ty p).run P w = .ok x w) :
    (results fn tmps).run P w = .ok (.tuple #[x, tmps.getD t2 undef, tmps.getD t3 undef]) w := by
  have hp' : tmps[t]?.getD undef = .pointer (some p) := by rw [← hp]; simp
  simp [results, h, hp', asAddr, hl]

set_option maxRecDepth 100000 in
set_option maxHeartbeats 8000000 in
theorem readTime_any (l : List UInt8) (w : World) (hl : l.length ≤ 4194304) :
    Calls Tryz.prog 273 #[.string (S l)] w fun e w' => e = .returned (rdV (rdT l)) ∧ Below w.heap.size w w' := by
  obtain ⟨Wa, hWa⟩ : ∃ W, w.alloc (.cells #[.int .i64 0, .int .i64 0, .int .i64 0, .int .i64 0, .int .i64 0, .int .i64 0, .string ⟨#[]⟩] 312) = W := ⟨_, rfl⟩
  obtain ⟨Wb, hWb⟩ : ∃ W, Wa.alloc (.cells #[.int .i64 0, .int .i64 0, .int .i64 0, .int .i64 0, .int .i64 0, .int .i64 0, .string ⟨#[]⟩] 312) = W := ⟨_, rfl⟩
  have na : Wa.heap.size = w.heap.size + 1 := by rw [← hWa]; simp
  have nb : Wb.heap.size = w.heap.size + 2 := by rw [← hWb]; simp [na]
  have pa : MoV Wa w.heap.size 0 0 0 0 0 0 ⟨#[]⟩ := by rw [← hWa]; exact heap_alloc_last w _
  have pb : MoV Wb w.heap.size 0 0 0 0 0 0 ⟨#[]⟩ := by rw [← hWb]; exact pa.of_block (Below.heap_alloc _ _ _ pa.lt)
  have pb2 : MoV Wb (w.heap.size + 1) 0 0 0 0 0 0 ⟨#[]⟩ := by rw [← hWb, ← na]; exact heap_alloc_last Wa _
  have hS0 : ∀ Wc, Wb.alloc (.cells #[.string (S l), .bool false] 317) = Wc → Hid (RtS w Wc l false 0 0 0 0 0 0 ⟨#[]⟩) := by
    intro Wc hWc
    rw [← hWc]
    refine ⟨?_, pb2.of_block (Below.heap_alloc _ _ _ pb2.lt), pb.of_block (Below.heap_alloc _ _ _ pb.lt), ?_⟩
    · rw [← nb]; exact heap_alloc_last Wb _
    · rw [← hWb, ← hWa]
      exact (((Below.refl _ _).alloc (Nat.le_refl _) _).alloc (by simp) _).alloc (by simp; omega) _
  obtain ⟨out, hout'⟩ : ∃ out, rdT l = out := ⟨_, rfl⟩
  rw [hout']
  have hout : Hid (rdT l = out) := hout'
  have hN : ∀ (W : World) (m : List UInt8) (bb : Bool) (n : Nat) (lo hi : Int), Tr W (w.heap.size + 2) m bb → 1 ≤ n → n ≤ 18 → m.length ≤ 4194304 → Hid (Calls Tryz.prog 276 #[.pointer (some ⟨w.heap.size + 2, 0, none⟩), .int .i64 (n : Int), .int .i64 lo, .int .i64 hi] W fun e w' => e = .returned (.int .i64 (numR n lo hi m bb).1) ∧ Tr w' (w.heap.size + 2) (numR n lo hi m bb).2.1 (numR n lo hi m bb).2.2 ∧ Tb (w.heap.size + 2) W w') := fun W m bb n lo hi h1 h2 h3 h4 => number_any _ m bb n lo hi W h1 h2 h3 h4
  have hL : ∀ (a b : Int) (W : World), Hid (Calls Tryz.prog 277 #[.int .i64 a, .int .i64 b] W fun e w' => e = .returned (.int .i64 (lastD a b)) ∧ w' = W) := fun a b W => lastDay_any a b W
  have hAt : ∀ (W : World) (m : List UInt8) (bb : Bool), Tr W (w.heap.size + 2) m bb → Hid (Calls Tryz.prog 278 #[.pointer (some ⟨w.heap.size + 2, 0, none⟩)] W fun e w' => e = .returned (.bool (atD m)) ∧ Below W.heap.size W w') := fun W m bb h => atDigit_any _ m bb W h
  have hFr : ∀ (W : World) (m : List UInt8) (bb : Bool), Tr W (w.heap.size + 2) m bb → m.length ≤ 4194304 → Hid (Calls Tryz.prog 279 #[.pointer (some ⟨w.heap.size + 2, 0, none⟩)] W fun e w' => e = .returned (.string (S (fracR m bb).1)) ∧ Tr w' (w.heap.size + 2) (fracR m bb).2.1 (fracR m bb).2.2 ∧ Tb (w.heap.size + 2) W w') := fun W m bb h1 h2 => fraction_any _ m bb W h1 h2
  have hZo : ∀ (W : World) (m : List UInt8) (bb : Bool), Tr W (w.heap.size + 2) m bb → m.length ≤ 4194304 → Hid (Calls Tryz.prog 280 #[.pointer (some ⟨w.heap.size + 2, 0, none⟩)] W fun e w' => e = .returned (.int .i64 (zoR m bb).1) ∧ Tr w' (w.heap.size + 2) (zoR m bb).2.1 (zoR m bb).2.2 ∧ Tb (w.heap.size + 2) W w') := fun W m bb h1 h2 => zone_any _ m bb W h1 h2
  have hll : Hid (l.length ≤ 4194304) := hl
  clear hout' pa pb pb2 hl
  go_enter Tryz.func273, Tryz.ntmps273
  go_upto_region 3 with fail
  obtain ⟨Wc, hWc⟩ : ∃ X, Wb.alloc (.cells #[.string (S l), .bool false] 317) = X := ⟨_, rfl⟩
  rw [hWc]
  have hS0 := hS0 Wc hWc
  have hN1 := hN Wc l false 4 0 9999 hS0.out.1 (by decide) (by decide) hll.out
  clear hWa hWb hWc
  go_wp2_with fail
  refine hN1.out.mono ?_
  rintro e w1 ⟨rfl, hT, ht⟩
  have hb1 : Hid (w.heap.size = w.heap.size) := rfl
  have hS1a : RtS w w1 (numR 4 0 9999 l false).2.1 (numR 4 0 9999 l false).2.2 0 0 0 0 0 0 ⟨#[]⟩ := hS0.out.tb hT ht
  have hle1 := numR_len 4 0 9999 l false
  clear hT ht hN1
  obtain ⟨⟨y, l1, b1⟩, hx⟩ : ∃ x, numR 4 0 9999 l false = x := ⟨_, rfl⟩
  have hx1 : Hid (numR 4 0 9999 l false = (y, l1, b1)) := hx
  rw [hx] at hS1a hle1 ⊢
  clear hx
  have hle1 : Hid (l1.length ≤ l.length) := hle1
  have hS1b : Hid (RtS w w1 l1 b1 0 0 0 0 0 0 ⟨#[]⟩) := hS1a
  clear hS1a
  obtain ⟨⟨c0, c1, c2, c3, c4, c5, c6⟩, cf⟩ := hS1b.out.cells
  have hS1 : Hid (RtS w (w1.setCell ⟨w.heap.size + 1, 0, none⟩ (.int .i64 y)) l1 b1 y 0 0 0 0 0 ⟨#[]⟩) := hS1b.out.s0 y
  go_upto_region 4 with fail
  obtain ⟨V1, hV⟩ : ∃ X, w1.setCell ⟨w.heap.size + 1, 0, none⟩ (.int .i64 y) = X := ⟨_, rfl⟩
  rw [hV] at hS1 ⊢
  clear hV c0 c1 c2 c3 c4 c5 c6 cf
  have hl1 : l1.length ≤ 4194304 := Nat.le_trans hle1.out hll.out
  have hN2 := hN V1 l1 b1 2 1 12 hS1.out.1 (by decide) (by decide) hl1
  go_wp2_with fail
  refine hN2.out.mono ?_
  rintro e w2 ⟨rfl, hT, ht⟩
  have hb2 : Hid (w.heap.size = w.heap.size) := rfl
  have hS2a : RtS w w2 (numR 2 1 12 l1 b1).2.1 (numR 2 1 12 l1 b1).2.2 y 0 0 0 0 0 ⟨#[]⟩ := hS1.out.tb hT ht
  have hle2 := numR_len 2 1 12 l1 b1
  clear hT ht hN2
  obtain ⟨⟨mo, l2, b2⟩, hx⟩ : ∃ x, numR 2 1 12 l1 b1 = x := ⟨_, rfl⟩
  have hx2 : Hid (numR 2 1 12 l1 b1 = (mo, l2, b2)) := hx
  rw [hx] at hS2a hle2 ⊢
  clear hx
  have hle2 : Hid (l2.length ≤ l1.length) := hle2
  have hS2b : Hid (RtS w w2 l2 b2 y 0 0 0 0 0 ⟨#[]⟩) := hS2a
  clear hS2a
  obtain ⟨⟨c0, c1, c2, c3, c4, c5, c6⟩, cf⟩ := hS2b.out.cells
  have hS2 : Hid (RtS w (w2.setCell ⟨w.heap.size + 1, 1, none⟩ (.int .i64 mo)) l2 b2 y mo 0 0 0 0 ⟨#[]⟩) := hS2b.out.s1 mo
  go_upto_region 5 with fail
  obtain ⟨V2, hV⟩ : ∃ X, w2.setCell ⟨w.heap.size + 1, 1, none⟩ (.int .i64 mo) = X := ⟨_, rfl⟩
  rw [hV] at hS2 ⊢
  clear hV c0 c1 c2 c3 c4 c5 c6 cf
  have hl2 : l2.length ≤ 4194304 := Nat.le_trans hle2.out hl1
  have hL2 := hL y mo V2
  have hN3 := hN V2 l2 b2 2 1 (lastD y mo) hS2.out.1 (by decide) (by decide) hl2
  obtain ⟨⟨c0, c1, c2, c3, c4, c5, c6⟩, cf⟩ := hS2.out.cells
  go_wp2_with fail
  refine hL2.out.mono ?_
  rintro e wz ⟨rfl, hww⟩
  obtain rfl := hww.symm
  clear hww hL2 hL
  go_wp2_with fail
  clear c0 c1 c2 c3 c4 c5 c6 cf
  refine hN3.out.mono ?_
  rintro e w3 ⟨rfl, hT, ht⟩
  have hb3 : Hid (w.heap.size = w.heap.size) := rfl
  have hS3a : RtS w w3 (numR 2 1 (lastD y mo) l2 b2).2.1 (numR 2 1 (lastD y mo) l2 b2).2.2 y mo 0 0 0 0 ⟨#[]⟩ := hS2.out.tb hT ht
  have hle3 := numR_len 2 1 (lastD y mo) l2 b2
  clear hT ht hN3
  obtain ⟨⟨d, l3, b3⟩, hx⟩ : ∃ x, numR 2 1 (lastD y mo) l2 b2 = x := ⟨_, rfl⟩
  have hx3 : Hid (numR 2 1 (lastD y mo) l2 b2 = (d, l3, b3)) := hx
  rw [hx] at hS3a hle3 ⊢
  clear hx
  have hle3 : Hid (l3.length ≤ l2.length) := hle3
  have hS3b : Hid (RtS w w3 l3 b3 y mo 0 0 0 0 ⟨#[]⟩) := hS3a
  clear hS3a
  obtain ⟨⟨c0, c1, c2, c3, c4, c5, c6⟩, cf⟩ := hS3b.out.cells
  have hS3 : Hid (RtS w (w3.setCell ⟨w.heap.size + 1, 2, none⟩ (.int .i64 d)) l3 b3 y mo d 0 0 0 ⟨#[]⟩) := hS3b.out.s2 d
  go_upto_region 6 with fail
  obtain ⟨V3, hV⟩ : ∃ X, w3.setCell ⟨w.heap.size + 1, 2, none⟩ (.int .i64 d) = X := ⟨_, rfl⟩
  rw [hV] at hS3 ⊢
  clear hV c0 c1 c2 c3 c4 c5 c6 cf
  have hl3 : l3.length ≤ 4194304 := Nat.le_trans hle3.out hl2
  have hN4 := hN V3 l3 b3 2 0 23 hS3.out.1 (by decide) (by decide) hl3
  go_wp2_with fail
  refine hN4.out.mono ?_
  rintro e w4 ⟨rfl, hT, ht⟩
  have hb4 : Hid (w.heap.size = w.heap.size) := rfl
  have hS4a : RtS w w4 (numR 2 0 23 l3 b3).2.1 (numR 2 0 23 l3 b3).2.2 y mo d 0 0 0 ⟨#[]⟩ := hS3.out.tb hT ht
  have hle4 := numR_len 2 0 23 l3 b3
  clear hT ht hN4
  obtain ⟨⟨h, l4, b4⟩, hx⟩ : ∃ x, numR 2 0 23 l3 b3 = x := ⟨_, rfl⟩
  have hx4 : Hid (numR 2 0 23 l3 b3 = (h, l4, b4)) := hx
  rw [hx] at hS4a hle4 ⊢
  clear hx
  have hle4 : Hid (l4.length ≤ l3.length) := hle4
  have hS4b : Hid (RtS w w4 l4 b4 y mo d 0 0 0 ⟨#[]⟩) := hS4a
  clear hS4a
  obtain ⟨⟨c0, c1, c2, c3, c4, c5, c6⟩, cf⟩ := hS4b.out.cells
  have hS4 : Hid (RtS w (w4.setCell ⟨w.heap.size + 1, 3, none⟩ (.int .i64 h)) l4 b4 y mo d h 0 0 ⟨#[]⟩) := hS4b.out.s3 h
  go_upto_region 7 with fail
  obtain ⟨V4, hV⟩ : ∃ X, w4.setCell ⟨w.heap.size + 1, 3, none⟩ (.int .i64 h) = X := ⟨_, rfl⟩
  rw [hV] at hS4 ⊢
  clear hV c0 c1 c2 c3 c4 c5 c6 cf
  have hl4 : l4.length ≤ 4194304 := Nat.le_trans hle4.out hl3
  have hA4 := hAt V4 l4 b4 hS4.out.1
  have hout4 : Hid (rdMin y mo d h l4 b4 = out) := by
    unfold Hid
    rw [← hout.out]
    unfold rdT
    rw [hx1.out]
    show _ = rdMo y (numR 2 1 12 l1 b1)
    rw [hx2.out]
    show _ = rdDay y mo (numR 2 1 (lastD y mo) l2 b2)
    rw [hx3.out]
    show _ = rdHr y mo d (numR 2 0 23 l3 b3)
    rw [hx4.out]
    rfl
  clear hx1 hx2 hx3 hx4 hout hle1 hle2 hle3 hle4 hS0 hS1 hS1b hS2 hS2b hS3 hS3b hS4b hl1 hl2 hl3 hb1 hb2 hb3 hb4 hll
  cases had4 : atD l4 with
  | false =>
    have hout5 : Hid (rdEnd y mo d h 0 0 [] l4 b4 = out) := by unfold Hid; rw [← hout4.out, rdMin, if_neg (by rw [had4]; simp)]
    rw [had4] at hA4
    go_wp2_with fail
    refine hA4.out.mono ?_
    rintro e w5 ⟨rfl, hb⟩
    have hS5 := hS4.out.low hb
    have hS5 : Hid (RtS w w5 l4 b4 y mo d h 0 0 ⟨#[]⟩) := hS5
    clear hb hA4 had4 hS4 hout4
    have hZ := hZo w5 l4 b4 hS5.out.1 hl4
    clear hZo hN hAt hFr
    go_wp2_with fail
    refine hZ.out.mono ?_
    rintro e wy ⟨rfl, hT, ht⟩
    have hSa : RtS w wy (zoR l4 b4).2.1 (zoR l4 b4).2.2 y mo d h 0 0 ⟨#[]⟩ := hS5.out.tb hT ht
    have hzl : Hid (rdEnd y mo d h 0 0 [] l4 b4 = out) := hout5
    unfold rdEnd at hzl
    clear hT ht hZ
    obtain ⟨⟨z, lz, bz⟩, hx⟩ : ∃ x, zoR l4 b4 = x := ⟨_, rfl⟩
    rw [hx] at hSa hzl ⊢
    have hSy : Hid (RtS w wy lz bz y mo d h 0 0 ⟨#[]⟩) := hSa
    have hzl : Hid (out = ((y, mo, d, h, 0, 0, []), z, !bz && lz.isEmpty)) := hzl.out.symm
    clear hx hSa
    obtain ⟨⟨c0, c1, c2, c3, c4, c5, c6⟩, cf⟩ := hSy.out.cells
    obtain ⟨r0, r1, _, _⟩ := hSy.out.1.cells
    obtain ⟨⟨e0, e1, e2, e3, e4, e5, e6⟩, ef⟩ := hSy.out.2.2.1.cells
    go_upto_region 13 with fail
    have hV : Hid (MoV wy w.heap.size 0 0 0 0 0 0 ⟨#[]⟩ ∧ Below w.heap.size w wy) := ⟨hSy.out.2.2.1, hSy.out.2.2.2⟩
    obtain ⟨WX, hWX⟩ : ∃ X, (((((((wy.setCell ⟨w.heap.size, 0, none⟩ (.int .i64 y)).setCell ⟨w.heap.size, 1, none⟩ (.int .i64 mo)).setCell ⟨w.heap.size, 2, none⟩ (.int .i64 d)).setCell ⟨w.heap.size, 3, none⟩ (.int .i64 h)).setCell ⟨w.heap.size, 4, none⟩ (.int .i64 0)).setCell ⟨w.heap.size, 5, none⟩ (.int .i64 0)).setCell ⟨w.heap.size, 6, none⟩ (.string ⟨#[]⟩)).drew = X := ⟨_, rfl⟩
    have hfin : Hid ((MoV WX w.heap.size y mo d h 0 0 ⟨#[]⟩ ∧ Below w.heap.size w WX) ∧ (WX).cell? ⟨w.heap.size + 1, 0, none⟩ = some (.int .i64 y) ∧ (WX).cell? ⟨w.heap.size + 1, 1, none⟩ = some (.int .i64 mo) ∧ (WX).cell? ⟨w.heap.size + 1, 2, none⟩ = some (.int .i64 d) ∧ (WX).cell? ⟨w.heap.size + 1, 3, none⟩ = some (.int .i64 h) ∧ (WX).cell? ⟨w.heap.size + 1, 4, none⟩ = some (.int .i64 0) ∧ (WX).cell? ⟨w.heap.size + 1, 5, none⟩ = some (.int .i64 0) ∧ (WX).cell? ⟨w.heap.size + 1, 6, none⟩ = some (.string ⟨#[]⟩) ∧ (WX).cell? ⟨w.heap.size + 2, 0, none⟩ = some (.string (S lz)) ∧ (WX).cell? ⟨w.heap.size + 2, 1, none⟩ = some (.bool bz)) := by
      have e : (st7 wy w.heap.size y mo d h 0 0 ⟨#[]⟩).drew = WX := hWX
      have t0 : MoV WX w.heap.size y mo d h 0 0 ⟨#[]⟩ := by rw [← e]; exact (st7_mo hSy.out.2.2.1).drew
      have t1 : Tr WX (w.heap.size + 2) lz bz := by rw [← e]; exact (st7_tr hSy.out.1 (by omega)).drew
      have t2 : MoV WX (w.heap.size + 1) y mo d h 0 0 ⟨#[]⟩ := by rw [← e]; exact (st7_off hSy.out.2.1 (by omega)).drew
      have t3 : Below w.heap.size w WX := by rw [← e]; exact below_drew (st7_below hSy.out.2.2.2 (Nat.le_refl _))
      exact ⟨⟨t0, t3⟩, t2.cells.1.1, t2.cells.1.2.1, t2.cells.1.2.2.1, t2.cells.1.2.2.2.1, t2.cells.1.2.2.2.2.1, t2.cells.1.2.2.2.2.2.1, t2.cells.1.2.2.2.2.2.2, t1.cells.1, t1.cells.2.1⟩
    have hSs : Hid ((WX).cell? ⟨w.heap.size + 1, 0, none⟩ = some (.int .i64 y) ∧ (WX).cell? ⟨w.heap.size + 1, 1, none⟩ = some (.int .i64 mo) ∧ (WX).cell? ⟨w.heap.size + 1, 2, none⟩ = some (.int .i64 d) ∧ (WX).cell? ⟨w.heap.size + 1, 3, none⟩ = some (.int .i64 h) ∧ (WX).cell? ⟨w.heap.size + 1, 4, none⟩ = some (.int .i64 0) ∧ (WX).cell? ⟨w.heap.size + 1, 5, none⟩ = some (.int .i64 0) ∧ (WX).cell? ⟨w.heap.size + 1, 6, none⟩ = some (.string ⟨#[]⟩) ∧ (WX).cell? ⟨w.heap.size + 2, 0, none⟩ = some (.string (S lz)) ∧ (WX).cell? ⟨w.heap.size + 2, 1, none⟩ = some (.bool bz)) := hfin.out.2
    have hfin2 : Hid (MoV WX w.heap.size y mo d h 0 0 ⟨#[]⟩ ∧ Below w.heap.size w WX) := hfin.out.1
    clear hfin
    clear hSy
    have hS0 : (wy.drew).cell? ⟨w.heap.size + 1, 0, none⟩ = some (.int .i64 y) ∧ (wy.drew).cell? ⟨w.heap.size + 1, 1, none⟩ = some (.int .i64 mo) ∧ (wy.drew).cell? ⟨w.heap.size + 1, 2, none⟩ = some (.int .i64 d) ∧ (wy.drew).cell? ⟨w.heap.size + 1, 3, none⟩ = some (.int .i64 h) ∧ (wy.drew).cell? ⟨w.heap.size + 1, 4, none⟩ = some (.int .i64 0) ∧ (wy.drew).cell? ⟨w.heap.size + 1, 5, none⟩ = some (.int .i64 0) ∧ (wy.drew).cell? ⟨w.heap.size + 1, 6, none⟩ = some (.string ⟨#[]⟩) ∧ (wy.drew).cell? ⟨w.heap.size + 2, 0, none⟩ = some (.string (S lz)) ∧ (wy.drew).cell? ⟨w.heap.size + 2, 1, none⟩ = some (.bool bz) := ⟨c0, c1, c2, c3, c4, c5, c6, r0, r1⟩
    cases bz with
    | true =>
      have ho : Hid (out = ((y, mo, d, h, 0, 0, []), z, false)) := by unfold Hid; rw [hzl.out]; rfl
      refine Du.regionP (fun _ => true) (fun w' => w'.cell? ⟨w.heap.size + 1, 0, none⟩ = some (.int .i64 y) ∧ w'.cell? ⟨w.heap.size + 1, 1, none⟩ = some (.int .i64 mo) ∧ w'.cell? ⟨w.heap.size + 1, 2, none⟩ = some (.int .i64 d) ∧ w'.cell? ⟨w.heap.size + 1, 3, none⟩ = some (.int .i64 h) ∧ w'.cell? ⟨w.heap.size + 1, 4, none⟩ = some (.int .i64 0) ∧ w'.cell? ⟨w.heap.size + 1, 5, none⟩ = some (.int .i64 0) ∧ w'.cell? ⟨w.heap.size + 1, 6, none⟩ = some (.string ⟨#[]⟩) ∧ w'.cell? ⟨w.heap.size + 2, 0, none⟩ = some (.string ((S lz))) ∧ w'.cell? ⟨w.heap.size + 2, 1, none⟩ = some (.bool true)) (by kernel_rfl) ?_
      refine RgN.n_take 0 ?vaC01 (by simp only [List.getElem?_toArray, List.getElem?_cons_zero, List.getElem?_cons_succ]; exact rfl) (by kernel_rfl) (by kernel_rfl) (by kernel_rfl) (RgN.safe_all _ _ _) (by rfl) hS0 ?yaC01 ?raC01
      case yaC01 =>
        intro w' hS
        obtain ⟨h0, h1, h2, h3, h4, h5, h6, h7, h8⟩ := hS
        go_simp
        try with_reducible rfl
      case raC01 =>
      simp only [Act.put, List.setIfInBounds_toArray, List.set_cons_zero, List.set_cons_succ]
      refine RgN.n_take 2 ?vaC02 (by simp only [List.getElem?_toArray, List.getElem?_cons_zero, List.getElem?_cons_succ]; exact rfl) (by kernel_rfl) (by kernel_rfl) (by kernel_rfl) (RgN.safe_all _ _ _) (by rfl) hS0 ?yaC02 ?raC02
      case yaC02 =>
        intro w' hS
        obtain ⟨h0, h1, h2, h3, h4, h5, h6, h7, h8⟩ := hS
        go_simp
        try with_reducible rfl
      case raC02 =>
      simp only [Act.put, List.setIfInBounds_toArray, List.set_cons_zero, List.set_cons_succ]
      refine RgN.n_take 3 ?vaC03 (by simp only [List.getElem?_toArray, List.getElem?_cons_zero, List.getElem?_cons_succ]; exact rfl) (by kernel_rfl) (by kernel_rfl) (by kernel_rfl) (RgN.safe_all _ _ _) (by rfl) hS0 ?yaC03 ?raC03
      case yaC03 =>
        intro w' hS
        obtain ⟨h0, h1, h2, h3, h4, h5, h6, h7, h8⟩ := hS
        go_simp
        try with_reducible rfl
      case raC03 =>
      simp only [Act.put, List.setIfInBounds_toArray, List.set_cons_zero, List.set_cons_succ]
      refine RgN.n_take 4 ?vaC04 (by simp only [List.getElem?_toArray, List.getElem?_cons_zero, List.getElem?_cons_succ]; exact rfl) (by kernel_rfl) (by kernel_rfl) (by kernel_rfl) (RgN.safe_all _ _ _) (by rfl) hS0 ?yaC04 ?raC04
      case yaC04 =>
        intro w' hS
        obtain ⟨h0, h1, h2, h3, h4, h5, h6, h7, h8⟩ := hS
        go_simp
        try with_reducible rfl
      case raC04 =>
      simp only [Act.put, List.setIfInBounds_toArray, List.set_cons_zero, List.set_cons_succ]
      refine RgN.n_take 5 ?vaC05 (by simp only [List.getElem?_toArray, List.getElem?_cons_zero, List.getElem?_cons_succ]; exact rfl) (by kernel_rfl) (by kernel_rfl) (by kernel_rfl) (RgN.safe_all _ _ _) (by rfl) hS0 ?yaC05 ?raC05
      case yaC05 =>
        intro w' hS
        obtain ⟨h0, h1, h2, h3, h4, h5, h6, h7, h8⟩ := hS
        go_simp
        try with_reducible rfl
      case raC05 =>
      simp only [Act.put, List.setIfInBounds_toArray, List.set_cons_zero, List.set_cons_succ]
      refine RgN.n_take 1 ?vaC06 (by simp only [List.getElem?_toArray, List.getElem?_cons_zero, List.getElem?_cons_succ]; exact rfl) (by kernel_rfl) (by kernel_rfl) (by kernel_rfl) (RgN.safe_all _ _ _) (by rfl) hS0 ?yaC06 ?raC06
      case yaC06 =>
        intro w' hS
        obtain ⟨h0, h1, h2, h3, h4, h5, h6, h7, h8⟩ := hS
        go_simp
        try with_reducible rfl
      case raC06 =>
      simp only [Act.put, List.setIfInBounds_toArray, List.set_cons_zero, List.set_cons_succ]
      refine Mt.n_skip 6 (by simp only [List.getElem?_toArray, List.getElem?_cons_zero, List.getElem?_cons_succ]; exact rfl) (by kernel_rfl) (by kernel_rfl) (by kernel_rfl) (RgN.safe_all _ _ _) (by rfl) hS0 ?raC07
      case raC07 =>
      simp only [Act.put, List.setIfInBounds_toArray, List.set_cons_zero, List.set_cons_succ]
      refine Mt.n_skip 7 (by simp only [List.getElem?_toArray, List.getElem?_cons_zero, List.getElem?_cons_succ]; exact rfl) (by kernel_rfl) (by kernel_rfl) (by kernel_rfl) (RgN.safe_all _ _ _) (by rfl) hS0 ?raC08
      case raC08 =>
      simp only [Act.put, List.setIfInBounds_toArray, List.set_cons_zero, List.set_cons_succ]
      refine Mt.n_skip 8 (by simp only [List.getElem?_toArray, List.getElem?_cons_zero, List.getElem?_cons_succ]; exact rfl) (by kernel_rfl) (by kernel_rfl) (by kernel_rfl) (RgN.safe_all _ _ _) (by rfl) hS0 ?raC09
      case raC09 =>
      simp only [Act.put, List.setIfInBounds_toArray, List.set_cons_zero, List.set_cons_succ]
      refine RgN.n_take 9 ?vaC010 (by simp only [List.getElem?_toArray, List.getElem?_cons_zero, List.getElem?_cons_succ]; exact rfl) (by kernel_rfl) (by kernel_rfl) (by kernel_rfl) (RgN.safe_all _ _ _) (by rfl) hS0 ?yaC010 ?raC010
      case yaC010 =>
        intro w' hS
        obtain ⟨h0, h1, h2, h3, h4, h5, h6, h7, h8⟩ := hS
        go_simp
        try with_reducible rfl
      case raC010 =>
      simp only [Act.put, List.setIfInBounds_toArray, List.set_cons_zero, List.set_cons_succ]
      refine RgN.n_one 10 (by kernel_rfl) (by simp only [List.getElem?_toArray, List.getElem?_cons_zero, List.getElem?_cons_succ]; exact rfl) (fun K hK => ?_)
      go_simp
      try rw [hWX]
      clear hWX
      refine hK.out _ _ (fun _ => hSs.out) ?_
      clear hK K
      try simp only [Act.put, List.setIfInBounds_toArray, List.set_cons_zero, List.set_cons_succ]
      refine RgN.n_one 11 (by kernel_rfl) (by simp only [List.getElem?_toArray, List.getElem?_cons_zero, List.getElem?_cons_succ]; exact rfl) (fun K hK => ?_)
      go_simp
      refine hK.out _ _ (fun _ => hSs.out) ?_
      clear hK K
      try simp only [Act.put, List.setIfInBounds_toArray, List.set_cons_zero, List.set_cons_succ]
      refine RgN.n_one 12 (by kernel_rfl) (by simp only [List.getElem?_toArray, List.getElem?_cons_zero, List.getElem?_cons_succ]; exact rfl) (fun K hK => ?_)
      go_simp
      refine hK.out _ _ (fun _ => hSs.out) ?_
      clear hK K
      try simp only [Act.put, List.setIfInBounds_toArray, List.set_cons_zero, List.set_cons_succ]
      refine RgN.n_done (by kernel_rfl) ?_ _
      go_wp2_with fail
      refine bodyPost_ret (res3 _ _ _ _ _ rfl _ _ _ _ _ rfl (ld_mo hfin2.out.1)) rfl ⟨?_, hfin2.out.2⟩
      rw [ho.out]
      rfl
    | false =>
      cases lz with
      | nil =>
        rw [show S ([] : List UInt8) = (⟨#[]⟩ : ByteArray) from rfl] at r0 hS0 hSs
        have ho : Hid (out = ((y, mo, d, h, 0, 0, []), z, true)) := by unfold Hid; rw [hzl.out]; rfl
        refine Du.regionP (fun _ => true) (fun w' => w'.cell? ⟨w.heap.size + 1, 0, none⟩ = some (.int .i64 y) ∧ w'.cell? ⟨w.heap.size + 1, 1, none⟩ = some (.int .i64 mo) ∧ w'.cell? ⟨w.heap.size + 1, 2, none⟩ = some (.int .i64 d) ∧ w'.cell? ⟨w.heap.size + 1, 3, none⟩ = some (.int .i64 h) ∧ w'.cell? ⟨w.heap.size + 1, 4, none⟩ = some (.int .i64 0) ∧ w'.cell? ⟨w.heap.size + 1, 5, none⟩ = some (.int .i64 0) ∧ w'.cell? ⟨w.heap.size + 1, 6, none⟩ = some (.string ⟨#[]⟩) ∧ w'.cell? ⟨w.heap.size + 2, 0, none⟩ = some (.string (⟨#[]⟩)) ∧ w'.cell? ⟨w.heap.size + 2, 1, none⟩ = some (.bool false)) (by kernel_rfl) ?_
        refine RgN.n_take 0 ?vaC11 (by simp only [List.getElem?_toArray, List.getElem?_cons_zero, List.getElem?_cons_succ]; exact rfl) (by kernel_rfl) (by kernel_rfl) (by kernel_rfl) (RgN.safe_all _ _ _) (by rfl) hS0 ?yaC11 ?raC11
        case yaC11 =>
          intro w' hS
          obtain ⟨h0, h1, h2, h3, h4, h5, h6, h7, h8⟩ := hS
          go_simp
          try with_reducible rfl
        case raC11 =>
        simp only [Act.put, List.setIfInBounds_toArray, List.set_cons_zero, List.set_cons_succ]
        refine RgN.n_take 2 ?vaC12 (by simp only [List.getElem?_toArray, List.getElem?_cons_zero, List.getElem?_cons_succ]; exact rfl) (by kernel_rfl) (by kernel_rfl) (by kernel_rfl) (RgN.safe_all _ _ _) (by rfl) hS0 ?yaC12 ?raC12
        case yaC12 =>
          intro w' hS
          obtain ⟨h0, h1, h2, h3, h4, h5, h6, h7, h8⟩ := hS
          go_simp
          try with_reducible rfl
        case raC12 =>
        simp only [Act.put, List.setIfInBounds_toArray, List.set_cons_zero, List.set_cons_succ]
        refine RgN.n_take 3 ?vaC13 (by simp only [List.getElem?_toArray, List.getElem?_cons_zero, List.getElem?_cons_succ]; exact rfl) (by kernel_rfl) (by kernel_rfl) (by kernel_rfl) (RgN.safe_all _ _ _) (by rfl) hS0 ?yaC13 ?raC13
        case yaC13 =>
          intro w' hS
          obtain ⟨h0, h1, h2, h3, h4, h5, h6, h7, h8⟩ := hS
          go_simp
          try with_reducible rfl
        case raC13 =>
        simp only [Act.put, List.setIfInBounds_toArray, List.set_cons_zero, List.set_cons_succ]
        refine RgN.n_take 4 ?vaC14 (by simp only [List.getElem?_toArray, List.getElem?_cons_zero, List.getElem?_cons_succ]; exact rfl) (by kernel_rfl) (by kernel_rfl) (by kernel_rfl) (RgN.safe_all _ _ _) (by rfl) hS0 ?yaC14 ?raC14
        case yaC14 =>
          intro w' hS
          obtain ⟨h0, h1, h2, h3, h4, h5, h6, h7, h8⟩ := hS
          go_simp
          try with_reducible rfl
        case raC14 =>
        simp only [Act.put, List.setIfInBounds_toArray, List.set_cons_zero, List.set_cons_succ]
        refine RgN.n_take 5 ?vaC15 (by simp only [List.getElem?_toArray, List.getElem?_cons_zero, List.getElem?_cons_succ]; exact rfl) (by kernel_rfl) (by kernel_rfl) (by kernel_rfl) (RgN.safe_all _ _ _) (by rfl) hS0 ?yaC15 ?raC15
        case yaC15 =>
          intro w' hS
          obtain ⟨h0, h1, h2, h3, h4, h5, h6, h7, h8⟩ := hS
          go_simp
          try with_reducible rfl
        case raC15 =>
        simp only [Act.put, List.setIfInBounds_toArray, List.set_cons_zero, List.set_cons_succ]
        refine RgN.n_take 1 ?vaC16 (by simp only [List.getElem?_toArray, List.getElem?_cons_zero, List.getElem?_cons_succ]; exact rfl) (by kernel_rfl) (by kernel_rfl) (by kernel_rfl) (RgN.safe_all _ _ _) (by rfl) hS0 ?yaC16 ?raC16
        case yaC16 =>
          intro w' hS
          obtain ⟨h0, h1, h2, h3, h4, h5, h6, h7, h8⟩ := hS
          go_simp
          try with_reducible rfl
        case raC16 =>
        simp only [Act.put, List.setIfInBounds_toArray, List.set_cons_zero, List.set_cons_succ]
        refine RgN.n_take 6 ?vaC17 (by simp only [List.getElem?_toArray, List.getElem?_cons_zero, List.getElem?_cons_succ]; exact rfl) (by kernel_rfl) (by kernel_rfl) (by kernel_rfl) (RgN.safe_all _ _ _) (by rfl) hS0 ?yaC17 ?raC17
        case yaC17 =>
          intro w' hS
          obtain ⟨h0, h1, h2, h3, h4, h5, h6, h7, h8⟩ := hS
          go_simp
          try with_reducible rfl
        case raC17 =>
        simp only [Act.put, List.setIfInBounds_toArray, List.set_cons_zero, List.set_cons_succ]
        refine RgN.n_take 7 ?vaC18 (by simp only [List.getElem?_toArray, List.getElem?_cons_zero, List.getElem?_cons_succ]; exact rfl) (by kernel_rfl) (by kernel_rfl) (by kernel_rfl) (RgN.safe_all _ _ _) (by rfl) hS0 ?yaC18 ?raC18
        case yaC18 =>
          intro w' hS
          obtain ⟨h0, h1, h2, h3, h4, h5, h6, h7, h8⟩ := hS
          go_simp
          try with_reducible rfl
        case raC18 =>
        simp only [Act.put, List.setIfInBounds_toArray, List.set_cons_zero, List.set_cons_succ]
        refine RgN.n_take 8 ?vaC19 (by simp only [List.getElem?_toArray, List.getElem?_cons_zero, List.getElem?_cons_succ]; exact rfl) (by kernel_rfl) (by kernel_rfl) (by kernel_rfl) (RgN.safe_all _ _ _) (by rfl) hS0 ?yaC19 ?raC19
        case yaC19 =>
          intro w' hS
          obtain ⟨h0, h1, h2, h3, h4, h5, h6, h7, h8⟩ := hS
          go_simp
          try with_reducible rfl
        case raC19 =>
        simp only [Act.put, List.setIfInBounds_toArray, List.set_cons_zero, List.set_cons_succ]
        refine RgN.n_take 9 ?vaC110 (by simp only [List.getElem?_toArray, List.getElem?_cons_zero, List.getElem?_cons_succ]; exact rfl) (by kernel_rfl) (by kernel_rfl) (by kernel_rfl) (RgN.safe_all _ _ _) (by rfl) hS0 ?yaC110 ?raC110
        case yaC110 =>
          intro w' hS
          obtain ⟨h0, h1, h2, h3, h4, h5, h6, h7, h8⟩ := hS
          go_simp
          try with_reducible rfl
        case raC110 =>
        simp only [Act.put, List.setIfInBounds_toArray, List.set_cons_zero, List.set_cons_succ]
        refine RgN.n_one 10 (by kernel_rfl) (by simp only [List.getElem?_toArray, List.getElem?_cons_zero, List.getElem?_cons_succ]; exact rfl) (fun K hK => ?_)
        go_simp
        try rw [hWX]
        clear hWX
        refine hK.out _ _ (fun _ => hSs.out) ?_
        clear hK K
        try simp only [Act.put, List.setIfInBounds_toArray, List.set_cons_zero, List.set_cons_succ]
        refine RgN.n_one 11 (by kernel_rfl) (by simp only [List.getElem?_toArray, List.getElem?_cons_zero, List.getElem?_cons_succ]; exact rfl) (fun K hK => ?_)
        go_simp
        refine hK.out _ _ (fun _ => hSs.out) ?_
        clear hK K
        try simp only [Act.put, List.setIfInBounds_toArray, List.set_cons_zero, List.set_cons_succ]
        refine RgN.n_one 12 (by kernel_rfl) (by simp only [List.getElem?_toArray, List.getElem?_cons_zero, List.getElem?_cons_succ]; exact rfl) (fun K hK => ?_)
        go_simp
        refine hK.out _ _ (fun _ => hSs.out) ?_
        clear hK K
        try simp only [Act.put, List.setIfInBounds_toArray, List.set_cons_zero, List.set_cons_succ]
        refine RgN.n_done (by kernel_rfl) ?_ _
        go_wp2_with fail
        refine bodyPost_ret (res3 _ _ _ _ _ rfl _ _ _ _ _ rfl (ld_mo hfin2.out.1)) rfl ⟨?_, hfin2.out.2⟩
        rw [ho.out]
        rfl
      | cons zc zt =>
        have hne : (S (zc :: zt)).toList.isEmpty = false := by rw [Lib.toList_data, S_l]; rfl
        have ho : Hid (out = ((y, mo, d, h, 0, 0, []), z, false)) := by unfold Hid; rw [hzl.out]; rfl
        obtain ⟨LZ, hLZ⟩ : ∃ LZ, S (zc :: zt) = LZ := ⟨_, rfl⟩
        rw [hLZ] at r0 hS0 hSs hne
        clear hLZ
        refine Du.regionP (fun _ => true) (fun w' => w'.cell? ⟨w.heap.size + 1, 0, none⟩ = some (.int .i64 y) ∧ w'.cell? ⟨w.heap.size + 1, 1, none⟩ = some (.int .i64 mo) ∧ w'.cell? ⟨w.heap.size + 1, 2, none⟩ = some (.int .i64 d) ∧ w'.cell? ⟨w.heap.size + 1, 3, none⟩ = some (.int .i64 h) ∧ w'.cell? ⟨w.heap.size + 1, 4, none⟩ = some (.int .i64 0) ∧ w'.cell? ⟨w.heap.size + 1, 5, none⟩ = some (.int .i64 0) ∧ w'.cell? ⟨w.heap.size + 1, 6, none⟩ = some (.string ⟨#[]⟩) ∧ w'.cell? ⟨w.heap.size + 2, 0, none⟩ = some (.string (LZ)) ∧ w'.cell? ⟨w.heap.size + 2, 1, none⟩ = some (.bool false)) (by kernel_rfl) ?_
        refine RgN.n_take 0 ?vaC21 (by simp only [List.getElem?_toArray, List.getElem?_cons_zero, List.getElem?_cons_succ]; exact rfl) (by kernel_rfl) (by kernel_rfl) (by kernel_rfl) (RgN.safe_all _ _ _) (by rfl) hS0 ?yaC21 ?raC21
        case yaC21 =>
          intro w' hS
          obtain ⟨h0, h1, h2, h3, h4, h5, h6, h7, h8⟩ := hS
          go_simp
          try with_reducible rfl
        case raC21 =>
        simp only [Act.put, List.setIfInBounds_toArray, List.set_cons_zero, List.set_cons_succ]
        refine RgN.n_take 2 ?vaC22 (by simp only [List.getElem?_toArray, List.getElem?_cons_zero, List.getElem?_cons_succ]; exact rfl) (by kernel_rfl) (by kernel_rfl) (by kernel_rfl) (RgN.safe_all _ _ _) (by rfl) hS0 ?yaC22 ?raC22
        case yaC22 =>
          intro w' hS
          obtain ⟨h0, h1, h2, h3, h4, h5, h6, h7, h8⟩ := hS
          go_simp
          try with_reducible rfl
        case raC22 =>
        simp only [Act.put, List.setIfInBounds_toArray, List.set_cons_zero, List.set_cons_succ]
        refine RgN.n_take 3 ?vaC23 (by simp only [List.getElem?_toArray, List.getElem?_cons_zero, List.getElem?_cons_succ]; exact rfl) (by kernel_rfl) (by kernel_rfl) (by kernel_rfl) (RgN.safe_all _ _ _) (by rfl) hS0 ?yaC23 ?raC23
        case yaC23 =>
          intro w' hS
          obtain ⟨h0, h1, h2, h3, h4, h5, h6, h7, h8⟩ := hS
          go_simp
          try with_reducible rfl
        case raC23 =>
        simp only [Act.put, List.setIfInBounds_toArray, List.set_cons_zero, List.set_cons_succ]
        refine RgN.n_take 4 ?vaC24 (by simp only [List.getElem?_toArray, List.getElem?_cons_zero, List.getElem?_cons_succ]; exact rfl) (by kernel_rfl) (by kernel_rfl) (by kernel_rfl) (RgN.safe_all _ _ _) (by rfl) hS0 ?yaC24 ?raC24
        case yaC24 =>
          intro w' hS
          obtain ⟨h0, h1, h2, h3, h4, h5, h6, h7, h8⟩ := hS
          go_simp
          try with_reducible rfl
        case raC24 =>
        simp only [Act.put, List.setIfInBounds_toArray, List.set_cons_zero, List.set_cons_succ]
        refine RgN.n_take 5 ?vaC25 (by simp only [List.getElem?_toArray, List.getElem?_cons_zero, List.getElem?_cons_succ]; exact rfl) (by kernel_rfl) (by kernel_rfl) (by kernel_rfl) (RgN.safe_all _ _ _) (by rfl) hS0 ?yaC25 ?raC25
        case yaC25 =>
          intro w' hS
          obtain ⟨h0, h1, h2, h3, h4, h5, h6, h7, h8⟩ := hS
          go_simp
          try with_reducible rfl
        case raC25 =>
        simp only [Act.put, List.setIfInBounds_toArray, List.set_cons_zero, List.set_cons_succ]
        refine RgN.n_take 1 ?vaC26 (by simp only [List.getElem?_toArray, List.getElem?_cons_zero, List.getElem?_cons_succ]; exact rfl) (by kernel_rfl) (by kernel_rfl) (by kernel_rfl) (RgN.safe_all _ _ _) (by rfl) hS0 ?yaC26 ?raC26
        case yaC26 =>
          intro w' hS
          obtain ⟨h0, h1, h2, h3, h4, h5, h6, h7, h8⟩ := hS
          go_simp
          try with_reducible rfl
        case raC26 =>
        simp only [Act.put, List.setIfInBounds_toArray, List.set_cons_zero, List.set_cons_succ]
        refine RgN.n_take 6 ?vaC27 (by simp only [List.getElem?_toArray, List.getElem?_cons_zero, List.getElem?_cons_succ]; exact rfl) (by kernel_rfl) (by kernel_rfl) (by kernel_rfl) (RgN.safe_all _ _ _) (by rfl) hS0 ?yaC27 ?raC27
        case yaC27 =>
          intro w' hS
          obtain ⟨h0, h1, h2, h3, h4, h5, h6, h7, h8⟩ := hS
          go_simp
          try with_reducible rfl
        case raC27 =>
        simp only [Act.put, List.setIfInBounds_toArray, List.set_cons_zero, List.set_cons_succ]
        refine RgN.n_take 7 ?vaC28 (by simp only [List.getElem?_toArray, List.getElem?_cons_zero, List.getElem?_cons_succ]; exact rfl) (by kernel_rfl) (by kernel_rfl) (by kernel_rfl) (RgN.safe_all _ _ _) (by rfl) hS0 ?yaC28 ?raC28
        case yaC28 =>
          intro w' hS
          obtain ⟨h0, h1, h2, h3, h4, h5, h6, h7, h8⟩ := hS
          go_simp
          try with_reducible rfl
        case raC28 =>
        simp only [Act.put, List.setIfInBounds_toArray, List.set_cons_zero, List.set_cons_succ]
        refine RgN.n_take 8 ?vaC29 (by simp only [List.getElem?_toArray, List.getElem?_cons_zero, List.getElem?_cons_succ]; exact rfl) (by kernel_rfl) (by kernel_rfl) (by kernel_rfl) (RgN.safe_all _ _ _) (by rfl) hS0 ?yaC29 ?raC29
        case yaC29 =>
          intro w' hS
          obtain ⟨h0, h1, h2, h3, h4, h5, h6, h7, h8⟩ := hS
          go_simp
          try with_reducible rfl
        case raC29 =>
        simp only [Act.put, List.setIfInBounds_toArray, List.set_cons_zero, List.set_cons_succ]
        refine RgN.n_take 9 ?vaC210 (by simp only [List.getElem?_toArray, List.getElem?_cons_zero, List.getElem?_cons_succ]; exact rfl) (by kernel_rfl) (by kernel_rfl) (by kernel_rfl) (RgN.safe_all _ _ _) (by rfl) hS0 ?yaC210 ?raC210
        case yaC210 =>
          intro w' hS
          obtain ⟨h0, h1, h2, h3, h4, h5, h6, h7, h8⟩ := hS
          go_simp
          try with_reducible rfl
        case raC210 =>
        simp only [Act.put, List.setIfInBounds_toArray, List.set_cons_zero, List.set_cons_succ]
        refine RgN.n_one 10 (by kernel_rfl) (by simp only [List.getElem?_toArray, List.getElem?_cons_zero, List.getElem?_cons_succ]; exact rfl) (fun K hK => ?_)
        go_simp
        try rw [hWX]
        clear hWX
        refine hK.out _ _ (fun _ => hSs.out) ?_
        clear hK K
        try simp only [Act.put, List.setIfInBounds_toArray, List.set_cons_zero, List.set_cons_succ]
        refine RgN.n_one 11 (by kernel_rfl) (by simp only [List.getElem?_toArray, List.getElem?_cons_zero, List.getElem?_cons_succ]; exact rfl) (fun K hK => ?_)
        go_simp
        refine hK.out _ _ (fun _ => hSs.out) ?_
        clear hK K
        try simp only [Act.put, List.setIfInBounds_toArray, List.set_cons_zero, List.set_cons_succ]
        refine RgN.n_one 12 (by kernel_rfl) (by simp only [List.getElem?_toArray, List.getElem?_cons_zero, List.getElem?_cons_succ]; exact rfl) (fun K hK => ?_)
        go_simp
        refine hK.out _ _ (fun _ => hSs.out) ?_
        clear hK K
        try simp only [Act.put, List.setIfInBounds_toArray, List.set_cons_zero, List.set_cons_succ]
        refine RgN.n_done (by kernel_rfl) ?_ _
        go_wp2_with fail
        refine bodyPost_ret (res3 _ _ _ _ _ rfl _ _ _ _ _ rfl (ld_mo hfin2.out.1)) rfl ⟨?_, hfin2.out.2⟩
        rw [ho.out]
        rfl
  | true =>
    rw [had4] at hA4
    go_wp2_with fail
    refine hA4.out.mono ?_
    rintro e w5 ⟨rfl, hb⟩
    have hS5 := hS4.out.low hb
    have hS5 : Hid (RtS w w5 l4 b4 y mo d h 0 0 ⟨#[]⟩) := hS5
    have hout5 : Hid (rdSec y mo d h (numR 2 0 59 l4 b4).1 (numR 2 0 59 l4 b4).2.1 (numR 2 0 59 l4 b4).2.2 = out) := by unfold Hid; rw [← hout4.out, rdMin, if_pos had4]
    clear hb hA4 had4 hS4 hout4
    have hN6 := hN w5 l4 b4 2 0 59 hS5.out.1 (by decide) (by decide) hl4
    go_wp2_with fail
    refine hN6.out.mono ?_
    rintro e w6 ⟨rfl, hT, ht⟩
    have hb6 : Hid (w.heap.size = w.heap.size) := rfl
    have hS6a : RtS w w6 (numR 2 0 59 l4 b4).2.1 (numR 2 0 59 l4 b4).2.2 y mo d h 0 0 ⟨#[]⟩ := hS5.out.tb hT ht
    have hle6 := numR_len 2 0 59 l4 b4
    clear hT ht hN6
    obtain ⟨⟨mi, l6, b6⟩, hx⟩ : ∃ x, numR 2 0 59 l4 b4 = x := ⟨_, rfl⟩
    have hx6 : Hid (numR 2 0 59 l4 b4 = (mi, l6, b6)) := hx
    rw [hx] at hS6a hle6 ⊢
    clear hx
    have hle6 : Hid (l6.length ≤ l4.length) := hle6
    have hS6b : Hid (RtS w w6 l6 b6 y mo d h 0 0 ⟨#[]⟩) := hS6a
    clear hS6a
    obtain ⟨⟨c0, c1, c2, c3, c4, c5, c6⟩, cf⟩ := hS6b.out.cells
    have hS6 : Hid (RtS w (w6.setCell ⟨w.heap.size + 1, 4, none⟩ (.int .i64 mi)) l6 b6 y mo d h mi 0 ⟨#[]⟩) := hS6b.out.s4 mi
    go_upto_region 9 with fail
    obtain ⟨V6, hV⟩ : ∃ X, w6.setCell ⟨w.heap.size + 1, 4, none⟩ (.int .i64 mi) = X := ⟨_, rfl⟩
    rw [hV] at hS6 ⊢
    clear hV c0 c1 c2 c3 c4 c5 c6 cf
    have hl6 : l6.length ≤ 4194304 := Nat.le_trans hle6.out hl4
    rw [hx6.out] at hout5
    have hout5 : Hid (rdSec y mo d h mi l6 b6 = out) := hout5
    have hA6 := hAt V6 l6 b6 hS6.out.1
    clear hx6 hle6 hS5 hS6b hl4
    cases had6 : atD l6 with
    | false =>
      have hout7 : Hid (rdEnd y mo d h mi 0 [] l6 b6 = out) := by unfold Hid; rw [← hout5.out, rdSec, if_neg (by rw [had6]; simp)]
      rw [had6] at hA6
      go_wp2_with fail
      refine hA6.out.mono ?_
      rintro e w7 ⟨rfl, hb⟩
      have hS7 := hS6.out.low hb
      have hS7 : Hid (RtS w w7 l6 b6 y mo d h mi 0 ⟨#[]⟩) := hS7
      clear hb hA6 had6 hS6 hout5
      have hZ := hZo w7 l6 b6 hS7.out.1 hl6
      clear hZo hN hAt hFr
      go_wp2_with fail
      refine hZ.out.mono ?_
      rintro e wy ⟨rfl, hT, ht⟩
      have hSa : RtS w wy (zoR l6 b6).2.1 (zoR l6 b6).2.2 y mo d h mi 0 ⟨#[]⟩ := hS7.out.tb hT ht
      have hzl : Hid (rdEnd y mo d h mi 0 [] l6 b6 = out) := hout7
      unfold rdEnd at hzl
      clear hT ht hZ
      obtain ⟨⟨z, lz, bz⟩, hx⟩ : ∃ x, zoR l6 b6 = x := ⟨_, rfl⟩
      rw [hx] at hSa hzl ⊢
      have hSy : Hid (RtS w wy lz bz y mo d h mi 0 ⟨#[]⟩) := hSa
      have hzl : Hid (out = ((y, mo, d, h, mi, 0, []), z, !bz && lz.isEmpty)) := hzl.out.symm
      clear hx hSa
      obtain ⟨⟨c0, c1, c2, c3, c4, c5, c6⟩, cf⟩ := hSy.out.cells
      obtain ⟨r0, r1, _, _⟩ := hSy.out.1.cells
      obtain ⟨⟨e0, e1, e2, e3, e4, e5, e6⟩, ef⟩ := hSy.out.2.2.1.cells
      go_upto_region 13 with fail
      have hV : Hid (MoV wy w.heap.size 0 0 0 0 0 0 ⟨#[]⟩ ∧ Below w.heap.size w wy) := ⟨hSy.out.2.2.1, hSy.out.2.2.2⟩
      obtain ⟨WX, hWX⟩ : ∃ X, (((((((wy.setCell ⟨w.heap.size, 0, none⟩ (.int .i64 y)).setCell ⟨w.heap.size, 1, none⟩ (.int .i64 mo)).setCell ⟨w.heap.size, 2, none⟩ (.int .i64 d)).setCell ⟨w.heap.size, 3, none⟩ (.int .i64 h)).setCell ⟨w.heap.size, 4, none⟩ (.int .i64 mi)).setCell ⟨w.heap.size, 5, none⟩ (.int .i64 0)).setCell ⟨w.heap.size, 6, none⟩ (.string ⟨#[]⟩)).drew = X := ⟨_, rfl⟩
      have hfin : Hid ((MoV WX w.heap.size y mo d h mi 0 ⟨#[]⟩ ∧ Below w.heap.size w WX) ∧ (WX).cell? ⟨w.heap.size + 1, 0, none⟩ = some (.int .i64 y) ∧ (WX).cell? ⟨w.heap.size + 1, 1, none⟩ = some (.int .i64 mo) ∧ (WX).cell? ⟨w.heap.size + 1, 2, none⟩ = some (.int .i64 d) ∧ (WX).cell? ⟨w.heap.size + 1, 3, none⟩ = some (.int .i64 h) ∧ (WX).cell? ⟨w.heap.size + 1, 4, none⟩ = some (.int .i64 mi) ∧ (WX).cell? ⟨w.heap.size + 1, 5, none⟩ = some (.int .i64 0) ∧ (WX).cell? ⟨w.heap.size + 1, 6, none⟩ = some (.string ⟨#[]⟩) ∧ (WX).cell? ⟨w.heap.size + 2, 0, none⟩ = some (.string (S lz)) ∧ (WX).cell? ⟨w.heap.size + 2, 1, none⟩ = some (.bool bz)) := by
        have e : (st7 wy w.heap.size y mo d h mi 0 ⟨#[]⟩).drew = WX := hWX
        have t0 : MoV WX w.heap.size y mo d h mi 0 ⟨#[]⟩ := by rw [← e]; exact (st7_mo hSy.out.2.2.1).drew
        have t1 : Tr WX (w.heap.size + 2) lz bz := by rw [← e]; exact (st7_tr hSy.out.1 (by omega)).drew
        have t2 : MoV WX (w.heap.size + 1) y mo d h mi 0 ⟨#[]⟩ := by rw [← e]; exact (st7_off hSy.out.2.1 (by omega)).drew
        have t3 : Below w.heap.size w WX := by rw [← e]; exact below_drew (st7_below hSy.out.2.2.2 (Nat.le_refl _))
        exact ⟨⟨t0, t3⟩, t2.cells.1.1, t2.cells.1.2.1, t2.cells.1.2.2.1, t2.cells.1.2.2.2.1, t2.cells.1.2.2.2.2.1, t2.cells.1.2.2.2.2.2.1, t2.cells.1.2.2.2.2.2.2, t1.cells.1, t1.cells.2.1⟩
      have hSs : Hid ((WX).cell? ⟨w.heap.size + 1, 0, none⟩ = some (.int .i64 y) ∧ (WX).cell? ⟨w.heap.size + 1, 1, none⟩ = some (.int .i64 mo) ∧ (WX).cell? ⟨w.heap.size + 1, 2, none⟩ = some (.int .i64 d) ∧ (WX).cell? ⟨w.heap.size + 1, 3, none⟩ = some (.int .i64 h) ∧ (WX).cell? ⟨w.heap.size + 1, 4, none⟩ = some (.int .i64 mi) ∧ (WX).cell? ⟨w.heap.size + 1, 5, none⟩ = some (.int .i64 0) ∧ (WX).cell? ⟨w.heap.size + 1, 6, none⟩ = some (.string ⟨#[]⟩) ∧ (WX).cell? ⟨w.heap.size + 2, 0, none⟩ = some (.string (S lz)) ∧ (WX).cell? ⟨w.heap.size + 2, 1, none⟩ = some (.bool bz)) := hfin.out.2
      have hfin2 : Hid (MoV WX w.heap.size y mo d h mi 0 ⟨#[]⟩ ∧ Below w.heap.size w WX) := hfin.out.1
      clear hfin
      clear hSy
      have hS0 : (wy.drew).cell? ⟨w.heap.size + 1, 0, none⟩ = some (.int .i64 y) ∧ (wy.drew).cell? ⟨w.heap.size + 1, 1, none⟩ = some (.int .i64 mo) ∧ (wy.drew).cell? ⟨w.heap.size + 1, 2, none⟩ = some (.int .i64 d) ∧ (wy.drew).cell? ⟨w.heap.size + 1, 3, none⟩ = some (.int .i64 h) ∧ (wy.drew).cell? ⟨w.heap.size + 1, 4, none⟩ = some (.int .i64 mi) ∧ (wy.drew).cell? ⟨w.heap.size + 1, 5, none⟩ = some (.int .i64 0) ∧ (wy.drew).cell? ⟨w.heap.size + 1, 6, none⟩ = some (.string ⟨#[]⟩) ∧ (wy.drew).cell? ⟨w.heap.size + 2, 0, none⟩ = some (.string (S lz)) ∧ (wy.drew).cell? ⟨w.heap.size + 2, 1, none⟩ = some (.bool bz) := ⟨c0, c1, c2, c3, c4, c5, c6, r0, r1⟩
      cases bz with
      | true =>
        have ho : Hid (out = ((y, mo, d, h, mi, 0, []), z, false)) := by unfold Hid; rw [hzl.out]; rfl
        refine Du.regionP (fun _ => true) (fun w' => w'.cell? ⟨w.heap.size + 1, 0, none⟩ = some (.int .i64 y) ∧ w'.cell? ⟨w.heap.size + 1, 1, none⟩ = some (.int .i64 mo) ∧ w'.cell? ⟨w.heap.size + 1, 2, none⟩ = some (.int .i64 d) ∧ w'.cell? ⟨w.heap.size + 1, 3, none⟩ = some (.int .i64 h) ∧ w'.cell? ⟨w.heap.size + 1, 4, none⟩ = some (.int .i64 mi) ∧ w'.cell? ⟨w.heap.size + 1, 5, none⟩ = some (.int .i64 0) ∧ w'.cell? ⟨w.heap.size + 1, 6, none⟩ = some (.string ⟨#[]⟩) ∧ w'.cell? ⟨w.heap.size + 2, 0, none⟩ = some (.string ((S lz))) ∧ w'.cell? ⟨w.heap.size + 2, 1, none⟩ = some (.bool true)) (by kernel_rfl) ?_
        refine RgN.n_take 0 ?vaC31 (by simp only [List.getElem?_toArray, List.getElem?_cons_zero, List.getElem?_cons_succ]; exact rfl) (by kernel_rfl) (by kernel_rfl) (by kernel_rfl) (RgN.safe_all _ _ _) (by rfl) hS0 ?yaC31 ?raC31
        case yaC31 =>
          intro w' hS
          obtain ⟨h0, h1, h2, h3, h4, h5, h6, h7, h8⟩ := hS
          go_simp
          try with_reducible rfl
        case raC31 =>
        simp only [Act.put, List.setIfInBounds_toArray, List.set_cons_zero, List.set_cons_succ]
        refine RgN.n_take 2 ?vaC32 (by simp only [List.getElem?_toArray, List.getElem?_cons_zero, List.getElem?_cons_succ]; exact rfl) (by kernel_rfl) (by kernel_rfl) (by kernel_rfl) (RgN.safe_all _ _ _) (by rfl) hS0 ?yaC32 ?raC32
        case yaC32 =>
          intro w' hS
          obtain ⟨h0, h1, h2, h3, h4, h5, h6, h7, h8⟩ := hS
          go_simp
          try with_reducible rfl
        case raC32 =>
        simp only [Act.put, List.setIfInBounds_toArray, List.set_cons_zero, List.set_cons_succ]
        refine RgN.n_take 3 ?vaC33 (by simp only [List.getElem?_toArray, List.getElem?_cons_zero, List.getElem?_cons_succ]; exact rfl) (by kernel_rfl) (by kernel_rfl) (by kernel_rfl) (RgN.safe_all _ _ _) (by rfl) hS0 ?yaC33 ?raC33
        case yaC33 =>
          intro w' hS
          obtain ⟨h0, h1, h2, h3, h4, h5, h6, h7, h8⟩ := hS
          go_simp
          try with_reducible rfl
        case raC33 =>
        simp only [Act.put, List.setIfInBounds_toArray, List.set_cons_zero, List.set_cons_succ]
        refine RgN.n_take 4 ?vaC34 (by simp only [List.getElem?_toArray, List.getElem?_cons_zero, List.getElem?_cons_succ]; exact rfl) (by kernel_rfl) (by kernel_rfl) (by kernel_rfl) (RgN.safe_all _ _ _) (by rfl) hS0 ?yaC34 ?raC34
        case yaC34 =>
          intro w' hS
          obtain ⟨h0, h1, h2, h3, h4, h5, h6, h7, h8⟩ := hS
          go_simp
          try with_reducible rfl
        case raC34 =>
        simp only [Act.put, List.setIfInBounds_toArray, List.set_cons_zero, List.set_cons_succ]
        refine RgN.n_take 5 ?vaC35 (by simp only [List.getElem?_toArray, List.getElem?_cons_zero, List.getElem?_cons_succ]; exact rfl) (by kernel_rfl) (by kernel_rfl) (by kernel_rfl) (RgN.safe_all _ _ _) (by rfl) hS0 ?yaC35 ?raC35
        case yaC35 =>
          intro w' hS
          obtain ⟨h0, h1, h2, h3, h4, h5, h6, h7, h8⟩ := hS
          go_simp
          try with_reducible rfl
        case raC35 =>
        simp only [Act.put, List.setIfInBounds_toArray, List.set_cons_zero, List.set_cons_succ]
        refine RgN.n_take 1 ?vaC36 (by simp only [List.getElem?_toArray, List.getElem?_cons_zero, List.getElem?_cons_succ]; exact rfl) (by kernel_rfl) (by kernel_rfl) (by kernel_rfl) (RgN.safe_all _ _ _) (by rfl) hS0 ?yaC36 ?raC36
        case yaC36 =>
          intro w' hS
          obtain ⟨h0, h1, h2, h3, h4, h5, h6, h7, h8⟩ := hS
          go_simp
          try with_reducible rfl
        case raC36 =>
        simp only [Act.put, List.setIfInBounds_toArray, List.set_cons_zero, List.set_cons_succ]
        refine Mt.n_skip 6 (by simp only [List.getElem?_toArray, List.getElem?_cons_zero, List.getElem?_cons_succ]; exact rfl) (by kernel_rfl) (by kernel_rfl) (by kernel_rfl) (RgN.safe_all _ _ _) (by rfl) hS0 ?raC37
        case raC37 =>
        simp only [Act.put, List.setIfInBounds_toArray, List.set_cons_zero, List.set_cons_succ]
        refine Mt.n_skip 7 (by simp only [List.getElem?_toArray, List.getElem?_cons_zero, List.getElem?_cons_succ]; exact rfl) (by kernel_rfl) (by kernel_rfl) (by kernel_rfl) (RgN.safe_all _ _ _) (by rfl) hS0 ?raC38
        case raC38 =>
        simp only [Act.put, List.setIfInBounds_toArray, List.set_cons_zero, List.set_cons_succ]
        refine Mt.n_skip 8 (by simp only [List.getElem?_toArray, List.getElem?_cons_zero, List.getElem?_cons_succ]; exact rfl) (by kernel_rfl) (by kernel_rfl) (by kernel_rfl) (RgN.safe_all _ _ _) (by rfl) hS0 ?raC39
        case raC39 =>
        simp only [Act.put, List.setIfInBounds_toArray, List.set_cons_zero, List.set_cons_succ]
        refine RgN.n_take 9 ?vaC310 (by simp only [List.getElem?_toArray, List.getElem?_cons_zero, List.getElem?_cons_succ]; exact rfl) (by kernel_rfl) (by kernel_rfl) (by kernel_rfl) (RgN.safe_all _ _ _) (by rfl) hS0 ?yaC310 ?raC310
        case yaC310 =>
          intro w' hS
          obtain ⟨h0, h1, h2, h3, h4, h5, h6, h7, h8⟩ := hS
          go_simp
          try with_reducible rfl
        case raC310 =>
        simp only [Act.put, List.setIfInBounds_toArray, List.set_cons_zero, List.set_cons_succ]
        refine RgN.n_one 10 (by kernel_rfl) (by simp only [List.getElem?_toArray, List.getElem?_cons_zero, List.getElem?_cons_succ]; exact rfl) (fun K hK => ?_)
        go_simp
        try rw [hWX]
        clear hWX
        refine hK.out _ _ (fun _ => hSs.out) ?_
        clear hK K
        try simp only [Act.put, List.setIfInBounds_toArray, List.set_cons_zero, List.set_cons_succ]
        refine RgN.n_one 11 (by kernel_rfl) (by simp only [List.getElem?_toArray, List.getElem?_cons_zero, List.getElem?_cons_succ]; exact rfl) (fun K hK => ?_)
        go_simp
        refine hK.out _ _ (fun _ => hSs.out) ?_
        clear hK K
        try simp only [Act.put, List.setIfInBounds_toArray, List.set_cons_zero, List.set_cons_succ]
        refine RgN.n_one 12 (by kernel_rfl) (by simp only [List.getElem?_toArray, List.getElem?_cons_zero, List.getElem?_cons_succ]; exact rfl) (fun K hK => ?_)
        go_simp
        refine hK.out _ _ (fun _ => hSs.out) ?_
        clear hK K
        try simp only [Act.put, List.setIfInBounds_toArray, List.set_cons_zero, List.set_cons_succ]
        refine RgN.n_done (by kernel_rfl) ?_ _
        go_wp2_with fail
        refine bodyPost_ret (res3 _ _ _ _ _ rfl _ _ _ _ _ rfl (ld_mo hfin2.out.1)) rfl ⟨?_, hfin2.out.2⟩
        rw [ho.out]
        rfl
      | false =>
        cases lz with
        | nil =>
          rw [show S ([] : List UInt8) = (⟨#[]⟩ : ByteArray) from rfl] at r0 hS0 hSs
          have ho : Hid (out = ((y, mo, d, h, mi, 0, []), z, true)) := by unfold Hid; rw [hzl.out]; rfl
          refine Du.regionP (fun _ => true) (fun w' => w'.cell? ⟨w.heap.size + 1, 0, none⟩ = some (.int .i64 y) ∧ w'.cell? ⟨w.heap.size + 1, 1, none⟩ = some (.int .i64 mo) ∧ w'.cell? ⟨w.heap.size + 1, 2, none⟩ = some (.int .i64 d) ∧ w'.cell? ⟨w.heap.size + 1, 3, none⟩ = some (.int .i64 h) ∧ w'.cell? ⟨w.heap.size + 1, 4, none⟩ = some (.int .i64 mi) ∧ w'.cell? ⟨w.heap.size + 1, 5, none⟩ = some (.int .i64 0) ∧ w'.cell? ⟨w.heap.size + 1, 6, none⟩ = some (.string ⟨#[]⟩) ∧ w'.cell? ⟨w.heap.size + 2, 0, none⟩ = some (.string (⟨#[]⟩)) ∧ w'.cell? ⟨w.heap.size + 2, 1, none⟩ = some (.bool false)) (by kernel_rfl) ?_
          refine RgN.n_take 0 ?vaC41 (by simp only [List.getElem?_toArray, List.getElem?_cons_zero, List.getElem?_cons_succ]; exact rfl) (by kernel_rfl) (by kernel_rfl) (by kernel_rfl) (RgN.safe_all _ _ _) (by rfl) hS0 ?yaC41 ?raC41
          case yaC41 =>
            intro w' hS
            obtain ⟨h0, h1, h2, h3, h4, h5, h6, h7, h8⟩ := hS
            go_simp
            try with_reducible rfl
          case raC41 =>
          simp only [Act.put, List.setIfInBounds_toArray, List.set_cons_zero, List.set_cons_succ]
          refine RgN.n_take 2 ?vaC42 (by simp only [List.getElem?_toArray, List.getElem?_cons_zero, List.getElem?_cons_succ]; exact rfl) (by kernel_rfl) (by kernel_rfl) (by kernel_rfl) (RgN.safe_all _ _ _) (by rfl) hS0 ?yaC42 ?raC42
          case yaC42 =>
            intro w' hS
            obtain ⟨h0, h1, h2, h3, h4, h5, h6, h7, h8⟩ := hS
            go_simp
            try with_reducible rfl
          case raC42 =>
          simp only [Act.put, List.setIfInBounds_toArray, List.set_cons_zero, List.set_cons_succ]
          refine RgN.n_take 3 ?vaC43 (by simp only [List.getElem?_toArray, List.getElem?_cons_zero, List.getElem?_cons_succ]; exact rfl) (by kernel_rfl) (by kernel_rfl) (by kernel_rfl) (RgN.safe_all _ _ _) (by rfl) hS0 ?yaC43 ?raC43
          case yaC43 =>
            intro w' hS
            obtain ⟨h0, h1, h2, h3, h4, h5, h6, h7, h8⟩ := hS
            go_simp
            try with_reducible rfl
          case raC43 =>
          simp only [Act.put, List.setIfInBounds_toArray, List.set_cons_zero, List.set_cons_succ]
          refine RgN.n_take 4 ?vaC44 (by simp only [List.getElem?_toArray, List.getElem?_cons_zero, List.getElem?_cons_succ]; exact rfl) (by kernel_rfl) (by kernel_rfl) (by kernel_rfl) (RgN.safe_all _ _ _) (by rfl) hS0 ?yaC44 ?raC44
          case yaC44 =>
            intro w' hS
            obtain ⟨h0, h1, h2, h3, h4, h5, h6, h7, h8⟩ := hS
            go_simp
            try with_reducible rfl
          case raC44 =>
          simp only [Act.put, List.setIfInBounds_toArray, List.set_cons_zero, List.set_cons_succ]
          refine RgN.n_take 5 ?vaC45 (by simp only [List.getElem?_toArray, List.getElem?_cons_zero, List.getElem?_cons_succ]; exact rfl) (by kernel_rfl) (by kernel_rfl) (by kernel_rfl) (RgN.safe_all _ _ _) (by rfl) hS0 ?yaC45 ?raC45
          case yaC45 =>
            intro w' hS
            obtain ⟨h0, h1, h2, h3, h4, h5, h6, h7, h8⟩ := hS
            go_simp
            try with_reducible rfl
          case raC45 =>
          simp only [Act.put, List.setIfInBounds_toArray, List.set_cons_zero, List.set_cons_succ]
          refine RgN.n_take 1 ?vaC46 (by simp only [List.getElem?_toArray, List.getElem?_cons_zero, List.getElem?_cons_succ]; exact rfl) (by kernel_rfl) (by kernel_rfl) (by kernel_rfl) (RgN.safe_all _ _ _) (by rfl) hS0 ?yaC46 ?raC46
          case yaC46 =>
            intro w' hS
            obtain ⟨h0, h1, h2, h3, h4, h5, h6, h7, h8⟩ := hS
            go_simp
            try with_reducible rfl
          case raC46 =>
          simp only [Act.put, List.setIfInBounds_toArray, List.set_cons_zero, List.set_cons_succ]
          refine RgN.n_take 6 ?vaC47 (by simp only [List.getElem?_toArray, List.getElem?_cons_zero, List.getElem?_cons_succ]; exact rfl) (by kernel_rfl) (by kernel_rfl) (by kernel_rfl) (RgN.safe_all _ _ _) (by rfl) hS0 ?yaC47 ?raC47
          case yaC47 =>
            intro w' hS
            obtain ⟨h0, h1, h2, h3, h4, h5, h6, h7, h8⟩ := hS
            go_simp
            try with_reducible rfl
          case raC47 =>
          simp only [Act.put, List.setIfInBounds_toArray, List.set_cons_zero, List.set_cons_succ]
          refine RgN.n_take 7 ?vaC48 (by simp only [List.getElem?_toArray, List.getElem?_cons_zero, List.getElem?_cons_succ]; exact rfl) (by kernel_rfl) (by kernel_rfl) (by kernel_rfl) (RgN.safe_all _ _ _) (by rfl) hS0 ?yaC48 ?raC48
          case yaC48 =>
            intro w' hS
            obtain ⟨h0, h1, h2, h3, h4, h5, h6, h7, h8⟩ := hS
            go_simp
            try with_reducible rfl
          case raC48 =>
          simp only [Act.put, List.setIfInBounds_toArray, List.set_cons_zero, List.set_cons_succ]
          refine RgN.n_take 8 ?vaC49 (by simp only [List.getElem?_toArray, List.getElem?_cons_zero, List.getElem?_cons_succ]; exact rfl) (by kernel_rfl) (by kernel_rfl) (by kernel_rfl) (RgN.safe_all _ _ _) (by rfl) hS0 ?yaC49 ?raC49
          case yaC49 =>
            intro w' hS
            obtain ⟨h0, h1, h2, h3, h4, h5, h6, h7, h8⟩ := hS
            go_simp
            try with_reducible rfl
          case raC49 =>
          simp only [Act.put, List.setIfInBounds_toArray, List.set_cons_zero, List.set_cons_succ]
          refine RgN.n_take 9 ?vaC410 (by simp only [List.getElem?_toArray, List.getElem?_cons_zero, List.getElem?_cons_succ]; exact rfl) (by kernel_rfl) (by kernel_rfl) (by kernel_rfl) (RgN.safe_all _ _ _) (by rfl) hS0 ?yaC410 ?raC410
          case yaC410 =>
            intro w' hS
            obtain ⟨h0, h1, h2, h3, h4, h5, h6, h7, h8⟩ := hS
            go_simp
            try with_reducible rfl
          case raC410 =>
          simp only [Act.put, List.setIfInBounds_toArray, List.set_cons_zero, List.set_cons_succ]
          refine RgN.n_one 10 (by kernel_rfl) (by simp only [List.getElem?_toArray, List.getElem?_cons_zero, List.getElem?_cons_succ]; exact rfl) (fun K hK => ?_)
          go_simp
          try rw [hWX]
          clear hWX
          refine hK.out _ _ (fun _ => hSs.out) ?_
          clear hK K
          try simp only [Act.put, List.setIfInBounds_toArray, List.set_cons_zero, List.set_cons_succ]
          refine RgN.n_one 11 (by kernel_rfl) (by simp only [List.getElem?_toArray, List.getElem?_cons_zero, List.getElem?_cons_succ]; exact rfl) (fun K hK => ?_)
          go_simp
          refine hK.out _ _ (fun _ => hSs.out) ?_
          clear hK K
          try simp only [Act.put, List.setIfInBounds_toArray, List.set_cons_zero, List.set_cons_succ]
          refine RgN.n_one 12 (by kernel_rfl) (by simp only [List.getElem?_toArray, List.getElem?_cons_zero, List.getElem?_cons_succ]; exact rfl) (fun K hK => ?_)
          go_simp
          refine hK.out _ _ (fun _ => hSs.out) ?_
          clear hK K
          try simp only [Act.put, List.setIfInBounds_toArray, List.set_cons_zero, List.set_cons_succ]
          refine RgN.n_done (by kernel_rfl) ?_ _
          go_wp2_with fail
          refine bodyPost_ret (res3 _ _ _ _ _ rfl _ _ _ _ _ rfl (ld_mo hfin2.out.1)) rfl ⟨?_, hfin2.out.2⟩
          rw [ho.out]
          rfl
        | cons zc zt =>
          have hne : (S (zc :: zt)).toList.isEmpty = false := by rw [Lib.toList_data, S_l]; rfl
          have ho : Hid (out = ((y, mo, d, h, mi, 0, []), z, false)) := by unfold Hid; rw [hzl.out]; rfl
          obtain ⟨LZ, hLZ⟩ : ∃ LZ, S (zc :: zt) = LZ := ⟨_, rfl⟩
          rw [hLZ] at r0 hS0 hSs hne
          clear hLZ
          refine Du.regionP (fun _ => true) (fun w' => w'.cell? ⟨w.heap.size + 1, 0, none⟩ = some (.int .i64 y) ∧ w'.cell? ⟨w.heap.size + 1, 1, none⟩ = some (.int .i64 mo) ∧ w'.cell? ⟨w.heap.size + 1, 2, none⟩ = some (.int .i64 d) ∧ w'.cell? ⟨w.heap.size + 1, 3, none⟩ = some (.int .i64 h) ∧ w'.cell? ⟨w.heap.size + 1, 4, none⟩ = some (.int .i64 mi) ∧ w'.cell? ⟨w.heap.size + 1, 5, none⟩ = some (.int .i64 0) ∧ w'.cell? ⟨w.heap.size + 1, 6, none⟩ = some (.string ⟨#[]⟩) ∧ w'.cell? ⟨w.heap.size + 2, 0, none⟩ = some (.string (LZ)) ∧ w'.cell? ⟨w.heap.size + 2, 1, none⟩ = some (.bool false)) (by kernel_rfl) ?_
          refine RgN.n_take 0 ?vaC51 (by simp only [List.getElem?_toArray, List.getElem?_cons_zero, List.getElem?_cons_succ]; exact rfl) (by kernel_rfl) (by kernel_rfl) (by kernel_rfl) (RgN.safe_all _ _ _) (by rfl) hS0 ?yaC51 ?raC51
          case yaC51 =>
            intro w' hS
            obtain ⟨h0, h1, h2, h3, h4, h5, h6, h7, h8⟩ := hS
            go_simp
            try with_reducible rfl
          case raC51 =>
          simp only [Act.put, List.setIfInBounds_toArray, List.set_cons_zero, List.set_cons_succ]
          refine RgN.n_take 2 ?vaC52 (by simp only [List.getElem?_toArray, List.getElem?_cons_zero, List.getElem?_cons_succ]; exact rfl) (by kernel_rfl) (by kernel_rfl) (by kernel_rfl) (RgN.safe_all _ _ _) (by rfl) hS0 ?yaC52 ?raC52
          case yaC52 =>
            intro w' hS
            obtain ⟨h0, h1, h2, h3, h4, h5, h6, h7, h8⟩ := hS
            go_simp
            try with_reducible rfl
          case raC52 =>
          simp only [Act.put, List.setIfInBounds_toArray, List.set_cons_zero, List.set_cons_succ]
          refine RgN.n_take 3 ?vaC53 (by simp only [List.getElem?_toArray, List.getElem?_cons_zero, List.getElem?_cons_succ]; exact rfl) (by kernel_rfl) (by kernel_rfl) (by kernel_rfl) (RgN.safe_all _ _ _) (by rfl) hS0 ?yaC53 ?raC53
          case yaC53 =>
            intro w' hS
            obtain ⟨h0, h1, h2, h3, h4, h5, h6, h7, h8⟩ := hS
            go_simp
            try with_reducible rfl
          case raC53 =>
          simp only [Act.put, List.setIfInBounds_toArray, List.set_cons_zero, List.set_cons_succ]
          refine RgN.n_take 4 ?vaC54 (by simp only [List.getElem?_toArray, List.getElem?_cons_zero, List.getElem?_cons_succ]; exact rfl) (by kernel_rfl) (by kernel_rfl) (by kernel_rfl) (RgN.safe_all _ _ _) (by rfl) hS0 ?yaC54 ?raC54
          case yaC54 =>
            intro w' hS
            obtain ⟨h0, h1, h2, h3, h4, h5, h6, h7, h8⟩ := hS
            go_simp
            try with_reducible rfl
          case raC54 =>
          simp only [Act.put, List.setIfInBounds_toArray, List.set_cons_zero, List.set_cons_succ]
          refine RgN.n_take 5 ?vaC55 (by simp only [List.getElem?_toArray, List.getElem?_cons_zero, List.getElem?_cons_succ]; exact rfl) (by kernel_rfl) (by kernel_rfl) (by kernel_rfl) (RgN.safe_all _ _ _) (by rfl) hS0 ?yaC55 ?raC55
          case yaC55 =>
            intro w' hS
            obtain ⟨h0, h1, h2, h3, h4, h5, h6, h7, h8⟩ := hS
            go_simp
            try with_reducible rfl
          case raC55 =>
          simp only [Act.put, List.setIfInBounds_toArray, List.set_cons_zero, List.set_cons_succ]
          refine RgN.n_take 1 ?vaC56 (by simp only [List.getElem?_toArray, List.getElem?_cons_zero, List.getElem?_cons_succ]; exact rfl) (by kernel_rfl) (by kernel_rfl) (by kernel_rfl) (RgN.safe_all _ _ _) (by rfl) hS0 ?yaC56 ?raC56
          case yaC56 =>
            intro w' hS
            obtain ⟨h0, h1, h2, h3, h4, h5, h6, h7, h8⟩ := hS
            go_simp
            try with_reducible rfl
          case raC56 =>
          simp only [Act.put, List.setIfInBounds_toArray, List.set_cons_zero, List.set_cons_succ]
          refine RgN.n_take 6 ?vaC57 (by simp only [List.getElem?_toArray, List.getElem?_cons_zero, List.getElem?_cons_succ]; exact rfl) (by kernel_rfl) (by kernel_rfl) (by kernel_rfl) (RgN.safe_all _ _ _) (by rfl) hS0 ?yaC57 ?raC57
          case yaC57 =>
            intro w' hS
            obtain ⟨h0, h1, h2, h3, h4, h5, h6, h7, h8⟩ := hS
            go_simp
            try with_reducible rfl
          case raC57 =>
          simp only [Act.put, List.setIfInBounds_toArray, List.set_cons_zero, List.set_cons_succ]
          refine RgN.n_take 7 ?vaC58 (by simp only [List.getElem?_toArray, List.getElem?_cons_zero, List.getElem?_cons_succ]; exact rfl) (by kernel_rfl) (by kernel_rfl) (by kernel_rfl) (RgN.safe_all _ _ _) (by rfl) hS0 ?yaC58 ?raC58
          case yaC58 =>
            intro w' hS
            obtain ⟨h0, h1, h2, h3, h4, h5, h6, h7, h8⟩ := hS
            go_simp
            try with_reducible rfl
          case raC58 =>
          simp only [Act.put, List.setIfInBounds_toArray, List.set_cons_zero, List.set_cons_succ]
          refine RgN.n_take 8 ?vaC59 (by simp only [List.getElem?_toArray, List.getElem?_cons_zero, List.getElem?_cons_succ]; exact rfl) (by kernel_rfl) (by kernel_rfl) (by kernel_rfl) (RgN.safe_all _ _ _) (by rfl) hS0 ?yaC59 ?raC59
          case yaC59 =>
            intro w' hS
            obtain ⟨h0, h1, h2, h3, h4, h5, h6, h7, h8⟩ := hS
            go_simp
            try with_reducible rfl
          case raC59 =>
          simp only [Act.put, List.setIfInBounds_toArray, List.set_cons_zero, List.set_cons_succ]
          refine RgN.n_take 9 ?vaC510 (by simp only [List.getElem?_toArray, List.getElem?_cons_zero, List.getElem?_cons_succ]; exact rfl) (by kernel_rfl) (by kernel_rfl) (by kernel_rfl) (RgN.safe_all _ _ _) (by rfl) hS0 ?yaC510 ?raC510
          case yaC510 =>
            intro w' hS
            obtain ⟨h0, h1, h2, h3, h4, h5, h6, h7, h8⟩ := hS
            go_simp
            try with_reducible rfl
          case raC510 =>
          simp only [Act.put, List.setIfInBounds_toArray, List.set_cons_zero, List.set_cons_succ]
          refine RgN.n_one 10 (by kernel_rfl) (by simp only [List.getElem?_toArray, List.getElem?_cons_zero, List.getElem?_cons_succ]; exact rfl) (fun K hK => ?_)
          go_simp
          try rw [hWX]
          clear hWX
          refine hK.out _ _ (fun _ => hSs.out) ?_
          clear hK K
          try simp only [Act.put, List.setIfInBounds_toArray, List.set_cons_zero, List.set_cons_succ]
          refine RgN.n_one 11 (by kernel_rfl) (by simp only [List.getElem?_toArray, List.getElem?_cons_zero, List.getElem?_cons_succ]; exact rfl) (fun K hK => ?_)
          go_simp
          refine hK.out _ _ (fun _ => hSs.out) ?_
          clear hK K
          try simp only [Act.put, List.setIfInBounds_toArray, List.set_cons_zero, List.set_cons_succ]
          refine RgN.n_one 12 (by kernel_rfl) (by simp only [List.getElem?_toArray, List.getElem?_cons_zero, List.getElem?_cons_succ]; exact rfl) (fun K hK => ?_)
          go_simp
          refine hK.out _ _ (fun _ => hSs.out) ?_
          clear hK K
          try simp only [Act.put, List.setIfInBounds_toArray, List.set_cons_zero, List.set_cons_succ]
          refine RgN.n_done (by kernel_rfl) ?_ _
          go_wp2_with fail
          refine bodyPost_ret (res3 _ _ _ _ _ rfl _ _ _ _ _ rfl (ld_mo hfin2.out.1)) rfl ⟨?_, hfin2.out.2⟩
          rw [ho.out]
          rfl
    | true =>
      rw [had6] at hA6
      go_wp2_with fail
      refine hA6.out.mono ?_
      rintro e w7 ⟨rfl, hb⟩
      have hS7 := hS6.out.low hb
      have hS7 : Hid (RtS w w7 l6 b6 y mo d h mi 0 ⟨#[]⟩) := hS7
      have hout7 : Hid (rdEnd y mo d h mi (numR 2 0 59 l6 b6).1 (fracR (numR 2 0 59 l6 b6).2.1 (numR 2 0 59 l6 b6).2.2).1 (fracR (numR 2 0 59 l6 b6).2.1 (numR 2 0 59 l6 b6).2.2).2.1 (fracR (numR 2 0 59 l6 b6).2.1 (numR 2 0 59 l6 b6).2.2).2.2 = out) := by unfold Hid; rw [← hout5.out, rdSec, if_pos had6]
      clear hb hA6 had6 hS6 hout5
      have hN8 := hN w7 l6 b6 2 0 59 hS7.out.1 (by decide) (by decide) hl6
      go_wp2_with fail
      refine hN8.out.mono ?_
      rintro e w8 ⟨rfl, hT, ht⟩
      have hb8 : Hid (w.heap.size = w.heap.size) := rfl
      have hS8a : RtS w w8 (numR 2 0 59 l6 b6).2.1 (numR 2 0 59 l6 b6).2.2 y mo d h mi 0 ⟨#[]⟩ := hS7.out.tb hT ht
      have hle8 := numR_len 2 0 59 l6 b6
      clear hT ht hN8
      obtain ⟨⟨s, l8, b8⟩, hx⟩ : ∃ x, numR 2 0 59 l6 b6 = x := ⟨_, rfl⟩
      have hx8 : Hid (numR 2 0 59 l6 b6 = (s, l8, b8)) := hx
      rw [hx] at hS8a hle8 ⊢
      clear hx
      have hle8 : Hid (l8.length ≤ l6.length) := hle8
      have hS8b : Hid (RtS w w8 l8 b8 y mo d h mi 0 ⟨#[]⟩) := hS8a
      clear hS8a
      obtain ⟨⟨c0, c1, c2, c3, c4, c5, c6⟩, cf⟩ := hS8b.out.cells
      have hS8 : Hid (RtS w (w8.setCell ⟨w.heap.size + 1, 5, none⟩ (.int .i64 s)) l8 b8 y mo d h mi s ⟨#[]⟩) := hS8b.out.s5 s
      go_upto_region 11 with fail
      obtain ⟨V8, hV⟩ : ∃ X, w8.setCell ⟨w.heap.size + 1, 5, none⟩ (.int .i64 s) = X := ⟨_, rfl⟩
      rw [hV] at hS8 ⊢
      clear hV c0 c1 c2 c3 c4 c5 c6 cf
      have hl8 : l8.length ≤ 4194304 := Nat.le_trans hle8.out hl6
      rw [hx8.out] at hout7
      have hout8 : Hid (rdEnd y mo d h mi s (fracR l8 b8).1 (fracR l8 b8).2.1 (fracR l8 b8).2.2 = out) := hout7
      have hF := hFr V8 l8 b8 hS8.out.1 hl8
      have hfl := (fracR_len l8 b8).2
      clear hx8 hle8 hS7 hS8b hl6 hout7
      go_wp2_with fail
      refine hF.out.mono ?_
      rintro e wf ⟨rfl, hT, ht⟩
      have hSf : RtS w wf (fracR l8 b8).2.1 (fracR l8 b8).2.2 y mo d h mi s ⟨#[]⟩ := hS8.out.tb hT ht
      clear hT ht hF hS8
      obtain ⟨⟨fr, l9, b9⟩, hx⟩ : ∃ x, fracR l8 b8 = x := ⟨_, rfl⟩
      rw [hx] at hSf hfl hout8 ⊢
      clear hx
      have hSg : Hid (RtS w wf l9 b9 y mo d h mi s ⟨#[]⟩) := hSf
      have hl9 : l9.length ≤ 4194304 := Nat.le_trans hfl hl8
      have hout9 : Hid (rdEnd y mo d h mi s fr l9 b9 = out) := hout8
      clear hSf hfl hl8 hout8
      obtain ⟨⟨c0, c1, c2, c3, c4, c5, c6⟩, cf⟩ := hSg.out.cells
      have hS9 : Hid (RtS w (wf.setCell ⟨w.heap.size + 1, 6, none⟩ (.string (S fr))) l9 b9 y mo d h mi s (S fr)) := hSg.out.s6 (S fr)
      go_upto_region 12 with fail
      obtain ⟨V9, hV⟩ : ∃ X, wf.setCell ⟨w.heap.size + 1, 6, none⟩ (.string (S fr)) = X := ⟨_, rfl⟩
      rw [hV] at hS9 ⊢
      clear hV c0 c1 c2 c3 c4 c5 c6 cf hSg
      have hZ := hZo V9 l9 b9 hS9.out.1 hl9
      clear hZo hN hAt hFr
      go_wp2_with fail
      refine hZ.out.mono ?_
      rintro e wy ⟨rfl, hT, ht⟩
      have hSa : RtS w wy (zoR l9 b9).2.1 (zoR l9 b9).2.2 y mo d h mi s (S fr) := hS9.out.tb hT ht
      have hzl : Hid (rdEnd y mo d h mi s fr l9 b9 = out) := hout9
      unfold rdEnd at hzl
      clear hT ht hZ
      obtain ⟨⟨z, lz, bz⟩, hx⟩ : ∃ x, zoR l9 b9 = x := ⟨_, rfl⟩
      rw [hx] at hSa hzl ⊢
      have hSy : Hid (RtS w wy lz bz y mo d h mi s (S fr)) := hSa
      have hzl : Hid (out = ((y, mo, d, h, mi, s, fr), z, !bz && lz.isEmpty)) := hzl.out.symm
      clear hx hSa
      obtain ⟨⟨c0, c1, c2, c3, c4, c5, c6⟩, cf⟩ := hSy.out.cells
      obtain ⟨r0, r1, _, _⟩ := hSy.out.1.cells
      obtain ⟨⟨e0, e1, e2, e3, e4, e5, e6⟩, ef⟩ := hSy.out.2.2.1.cells
      go_upto_region 13 with fail
      have hV : Hid (MoV wy w.heap.size 0 0 0 0 0 0 ⟨#[]⟩ ∧ Below w.heap.size w wy) := ⟨hSy.out.2.2.1, hSy.out.2.2.2⟩
      obtain ⟨WX, hWX⟩ : ∃ X, (((((((wy.setCell ⟨w.heap.size, 0, none⟩ (.int .i64 y)).setCell ⟨w.heap.size, 1, none⟩ (.int .i64 mo)).setCell ⟨w.heap.size, 2, none⟩ (.int .i64 d)).setCell ⟨w.heap.size, 3, none⟩ (.int .i64 h)).setCell ⟨w.heap.size, 4, none⟩ (.int .i64 mi)).setCell ⟨w.heap.size, 5, none⟩ (.int .i64 s)).setCell ⟨w.heap.size, 6, none⟩ (.string (S fr))).drew = X := ⟨_, rfl⟩
      have hfin : Hid ((MoV WX w.heap.size y mo d h mi s (S fr) ∧ Below w.heap.size w WX) ∧ (WX).cell? ⟨w.heap.size + 1, 0, none⟩ = some (.int .i64 y) ∧ (WX).cell? ⟨w.heap.size + 1, 1, none⟩ = some (.int .i64 mo) ∧ (WX).cell? ⟨w.heap.size + 1, 2, none⟩ = some (.int .i64 d) ∧ (WX).cell? ⟨w.heap.size + 1, 3, none⟩ = some (.int .i64 h) ∧ (WX).cell? ⟨w.heap.size + 1, 4, none⟩ = some (.int .i64 mi) ∧ (WX).cell? ⟨w.heap.size + 1, 5, none⟩ = some (.int .i64 s) ∧ (WX).cell? ⟨w.heap.size + 1, 6, none⟩ = some (.string (S fr)) ∧ (WX).cell? ⟨w.heap.size + 2, 0, none⟩ = some (.string (S lz)) ∧ (WX).cell? ⟨w.heap.size + 2, 1, none⟩ = some (.bool bz)) := by
        have e : (st7 wy w.heap.size y mo d h mi s (S fr)).drew = WX := hWX
        have t0 : MoV WX w.heap.size y mo d h mi s (S fr) := by rw [← e]; exact (st7_mo hSy.out.2.2.1).drew
        have t1 : Tr WX (w.heap.size + 2) lz bz := by rw [← e]; exact (st7_tr hSy.out.1 (by omega)).drew
        have t2 : MoV WX (w.heap.size + 1) y mo d h mi s (S fr) := by rw [← e]; exact (st7_off hSy.out.2.1 (by omega)).drew
        have t3 : Below w.heap.size w WX := by rw [← e]; exact below_drew (st7_below hSy.out.2.2.2 (Nat.le_refl _))
        exact ⟨⟨t0, t3⟩, t2.cells.1.1, t2.cells.1.2.1, t2.cells.1.2.2.1, t2.cells.1.2.2.2.1, t2.cells.1.2.2.2.2.1, t2.cells.1.2.2.2.2.2.1, t2.cells.1.2.2.2.2.2.2, t1.cells.1, t1.cells.2.1⟩
      have hSs : Hid ((WX).cell? ⟨w.heap.size + 1, 0, none⟩ = some (.int .i64 y) ∧ (WX).cell? ⟨w.heap.size + 1, 1, none⟩ = some (.int .i64 mo) ∧ (WX).cell? ⟨w.heap.size + 1, 2, none⟩ = some (.int .i64 d) ∧ (WX).cell? ⟨w.heap.size + 1, 3, none⟩ = some (.int .i64 h) ∧ (WX).cell? ⟨w.heap.size + 1, 4, none⟩ = some (.int .i64 mi) ∧ (WX).cell? ⟨w.heap.size + 1, 5, none⟩ = some (.int .i64 s) ∧ (WX).cell? ⟨w.heap.size + 1, 6, none⟩ = some (.string (S fr)) ∧ (WX).cell? ⟨w.heap.size + 2, 0, none⟩ = some (.string (S lz)) ∧ (WX).cell? ⟨w.heap.size + 2, 1, none⟩ = some (.bool bz)) := hfin.out.2
      have hfin2 : Hid (MoV WX w.heap.size y mo d h mi s (S fr) ∧ Below w.heap.size w WX) := hfin.out.1
      clear hfin
      clear hSy
      have hS0 : (wy.drew).cell? ⟨w.heap.size + 1, 0, none⟩ = some (.int .i64 y) ∧ (wy.drew).cell? ⟨w.heap.size + 1, 1, none⟩ = some (.int .i64 mo) ∧ (wy.drew).cell? ⟨w.heap.size + 1, 2, none⟩ = some (.int .i64 d) ∧ (wy.drew).cell? ⟨w.heap.size + 1, 3, none⟩ = some (.int .i64 h) ∧ (wy.drew).cell? ⟨w.heap.size + 1, 4, none⟩ = some (.int .i64 mi) ∧ (wy.drew).cell? ⟨w.heap.size + 1, 5, none⟩ = some (.int .i64 s) ∧ (wy.drew).cell? ⟨w.heap.size + 1, 6, none⟩ = some (.string (S fr)) ∧ (wy.drew).cell? ⟨w.heap.size + 2, 0, none⟩ = some (.string (S lz)) ∧ (wy.drew).cell? ⟨w.heap.size + 2, 1, none⟩ = some (.bool bz) := ⟨c0, c1, c2, c3, c4, c5, c6, r0, r1⟩
      cases bz with
      | true =>
        have ho : Hid (out = ((y, mo, d, h, mi, s, fr), z, false)) := by unfold Hid; rw [hzl.out]; rfl
        refine Du.regionP (fun _ => true) (fun w' => w'.cell? ⟨w.heap.size + 1, 0, none⟩ = some (.int .i64 y) ∧ w'.cell? ⟨w.heap.size + 1, 1, none⟩ = some (.int .i64 mo) ∧ w'.cell? ⟨w.heap.size + 1, 2, none⟩ = some (.int .i64 d) ∧ w'.cell? ⟨w.heap.size + 1, 3, none⟩ = some (.int .i64 h) ∧ w'.cell? ⟨w.heap.size + 1, 4, none⟩ = some (.int .i64 mi) ∧ w'.cell? ⟨w.heap.size + 1, 5, none⟩ = some (.int .i64 s) ∧ w'.cell? ⟨w.heap.size + 1, 6, none⟩ = some (.string (S fr)) ∧ w'.cell? ⟨w.heap.size + 2, 0, none⟩ = some (.string ((S lz))) ∧ w'.cell? ⟨w.heap.size + 2, 1, none⟩ = some (.bool true)) (by kernel_rfl) ?_
        refine RgN.n_take 0 ?vaC61 (by simp only [List.getElem?_toArray, List.getElem?_cons_zero, List.getElem?_cons_succ]; exact rfl) (by kernel_rfl) (by kernel_rfl) (by kernel_rfl) (RgN.safe_all _ _ _) (by rfl) hS0 ?yaC61 ?raC61
        case yaC61 =>
          intro w' hS
          obtain ⟨h0, h1, h2, h3, h4, h5, h6, h7, h8⟩ := hS
          go_simp
          try with_reducible rfl
        case raC61 =>
        simp only [Act.put, List.setIfInBounds_toArray, List.set_cons_zero, List.set_cons_succ]
        refine RgN.n_take 2 ?vaC62 (by simp only [List.getElem?_toArray, List.getElem?_cons_zero, List.getElem?_cons_succ]; exact rfl) (by kernel_rfl) (by kernel_rfl) (by kernel_rfl) (RgN.safe_all _ _ _) (by rfl) hS0 ?yaC62 ?raC62
        case yaC62 =>
          intro w' hS
          obtain ⟨h0, h1, h2, h3, h4, h5, h6, h7, h8⟩ := hS
          go_simp
          try with_reducible rfl
        case raC62 =>
        simp only [Act.put, List.setIfInBounds_toArray, List.set_cons_zero, List.set_cons_succ]
        refine RgN.n_take 3 ?vaC63 (by simp only [List.getElem?_toArray, List.getElem?_cons_zero, List.getElem?_cons_succ]; exact rfl) (by kernel_rfl) (by kernel_rfl) (by kernel_rfl) (RgN.safe_all _ _ _) (by rfl) hS0 ?yaC63 ?raC63
        case yaC63 =>
          intro w' hS
          obtain ⟨h0, h1, h2, h3, h4, h5, h6, h7, h8⟩ := hS
          go_simp
          try with_reducible rfl
        case raC63 =>
        simp only [Act.put, List.setIfInBounds_toArray, List.set_cons_zero, List.set_cons_succ]
        refine RgN.n_take 4 ?vaC64 (by simp only [List.getElem?_toArray, List.getElem?_cons_zero, List.getElem?_cons_succ]; exact rfl) (by kernel_rfl) (by kernel_rfl) (by kernel_rfl) (RgN.safe_all _ _ _) (by rfl) hS0 ?yaC64 ?raC64
        case yaC64 =>
          intro w' hS
          obtain ⟨h0, h1, h2, h3, h4, h5, h6, h7, h8⟩ := hS
          go_simp
          try with_reducible rfl
        case raC64 =>
        simp only [Act.put, List.setIfInBounds_toArray, List.set_cons_zero, List.set_cons_succ]
        refine RgN.n_take 5 ?vaC65 (by simp only [List.getElem?_toArray, List.getElem?_cons_zero, List.getElem?_cons_succ]; exact rfl) (by kernel_rfl) (by kernel_rfl) (by kernel_rfl) (RgN.safe_all _ _ _) (by rfl) hS0 ?yaC65 ?raC65
        case yaC65 =>
          intro w' hS
          obtain ⟨h0, h1, h2, h3, h4, h5, h6, h7, h8⟩ := hS
          go_simp
          try with_reducible rfl
        case raC65 =>
        simp only [Act.put, List.setIfInBounds_toArray, List.set_cons_zero, List.set_cons_succ]
        refine RgN.n_take 1 ?vaC66 (by simp only [List.getElem?_toArray, List.getElem?_cons_zero, List.getElem?_cons_succ]; exact rfl) (by kernel_rfl) (by kernel_rfl) (by kernel_rfl) (RgN.safe_all _ _ _) (by rfl) hS0 ?yaC66 ?raC66
        case yaC66 =>
          intro w' hS
          obtain ⟨h0, h1, h2, h3, h4, h5, h6, h7, h8⟩ := hS
          go_simp
          try with_reducible rfl
        case raC66 =>
        simp only [Act.put, List.setIfInBounds_toArray, List.set_cons_zero, List.set_cons_succ]
        refine Mt.n_skip 6 (by simp only [List.getElem?_toArray, List.getElem?_cons_zero, List.getElem?_cons_succ]; exact rfl) (by kernel_rfl) (by kernel_rfl) (by kernel_rfl) (RgN.safe_all _ _ _) (by rfl) hS0 ?raC67
        case raC67 =>
        simp only [Act.put, List.setIfInBounds_toArray, List.set_cons_zero, List.set_cons_succ]
        refine Mt.n_skip 7 (by simp only [List.getElem?_toArray, List.getElem?_cons_zero, List.getElem?_cons_succ]; exact rfl) (by kernel_rfl) (by kernel_rfl) (by kernel_rfl) (RgN.safe_all _ _ _) (by rfl) hS0 ?raC68
        case raC68 =>
        simp only [Act.put, List.setIfInBounds_toArray, List.set_cons_zero, List.set_cons_succ]
        refine Mt.n_skip 8 (by simp only [List.getElem?_toArray, List.getElem?_cons_zero, List.getElem?_cons_succ]; exact rfl) (by kernel_rfl) (by kernel_rfl) (by kernel_rfl) (RgN.safe_all _ _ _) (by rfl) hS0 ?raC69
        case raC69 =>
        simp only [Act.put, List.setIfInBounds_toArray, List.set_cons_zero, List.set_cons_succ]
        refine RgN.n_take 9 ?vaC610 (by simp only [List.getElem?_toArray, List.getElem?_cons_zero, List.getElem?_cons_succ]; exact rfl) (by kernel_rfl) (by kernel_rfl) (by kernel_rfl) (RgN.safe_all _ _ _) (by rfl) hS0 ?yaC610 ?raC610
        case yaC610 =>
          intro w' hS
          obtain ⟨h0, h1, h2, h3, h4, h5, h6, h7, h8⟩ := hS
          go_simp
          try with_reducible rfl
        case raC610 =>
        simp only [Act.put, List.setIfInBounds_toArray, List.set_cons_zero, List.set_cons_succ]
        refine RgN.n_one 10 (by kernel_rfl) (by simp only [List.getElem?_toArray, List.getElem?_cons_zero, List.getElem?_cons_succ]; exact rfl) (fun K hK => ?_)
        go_simp
        try rw [hWX]
        clear hWX
        refine hK.out _ _ (fun _ => hSs.out) ?_
        clear hK K
        try simp only [Act.put, List.setIfInBounds_toArray, List.set_cons_zero, List.set_cons_succ]
        refine RgN.n_one 11 (by kernel_rfl) (by simp only [List.getElem?_toArray, List.getElem?_cons_zero, List.getElem?_cons_succ]; exact rfl) (fun K hK => ?_)
        go_simp
        refine hK.out _ _ (fun _ => hSs.out) ?_
        clear hK K
        try simp only [Act.put, List.setIfInBounds_toArray, List.set_cons_zero, List.set_cons_succ]
        refine RgN.n_one 12 (by kernel_rfl) (by simp only [List.getElem?_toArray, List.getElem?_cons_zero, List.getElem?_cons_succ]; exact rfl) (fun K hK => ?_)
        go_simp
        refine hK.out _ _ (fun _ => hSs.out) ?_
        clear hK K
        try simp only [Act.put, List.setIfInBounds_toArray, List.set_cons_zero, List.set_cons_succ]
        refine RgN.n_done (by kernel_rfl) ?_ _
        go_wp2_with fail
        refine bodyPost_ret (res3 _ _ _ _ _ rfl _ _ _ _ _ rfl (ld_mo hfin2.out.1)) rfl ⟨?_, hfin2.out.2⟩
        rw [ho.out]
        rfl
      | false =>
        cases lz with
        | nil =>
          rw [show S ([] : List UInt8) = (⟨#[]⟩ : ByteArray) from rfl] at r0 hS0 hSs
          have ho : Hid (out = ((y, mo, d, h, mi, s, fr), z, true)) := by unfold Hid; rw [hzl.out]; rfl
          refine Du.regionP (fun _ => true) (fun w' => w'.cell? ⟨w.heap.size + 1, 0, none⟩ = some (.int .i64 y) ∧ w'.cell? ⟨w.heap.size + 1, 1, none⟩ = some (.int .i64 mo) ∧ w'.cell? ⟨w.heap.size + 1, 2, none⟩ = some (.int .i64 d) ∧ w'.cell? ⟨w.heap.size + 1, 3, none⟩ = some (.int .i64 h) ∧ w'.cell? ⟨w.heap.size + 1, 4, none⟩ = some (.int .i64 mi) ∧ w'.cell? ⟨w.heap.size + 1, 5, none⟩ = some (.int .i64 s) ∧ w'.cell? ⟨w.heap.size + 1, 6, none⟩ = some (.string (S fr)) ∧ w'.cell? ⟨w.heap.size + 2, 0, none⟩ = some (.string (⟨#[]⟩)) ∧ w'.cell? ⟨w.heap.size + 2, 1, none⟩ = some (.bool false)) (by kernel_rfl) ?_
          refine RgN.n_take 0 ?vaC71 (by simp only [List.getElem?_toArray, List.getElem?_cons_zero, List.getElem?_cons_succ]; exact rfl) (by kernel_rfl) (by kernel_rfl) (by kernel_rfl) (RgN.safe_all _ _ _) (by rfl) hS0 ?yaC71 ?raC71
          case yaC71 =>
            intro w' hS
            obtain ⟨h0, h1, h2, h3, h4, h5, h6, h7, h8⟩ := hS
            go_simp
            try with_reducible rfl
          case raC71 =>
          simp only [Act.put, List.setIfInBounds_toArray, List.set_cons_zero, List.set_cons_succ]
          refine RgN.n_take 2 ?vaC72 (by simp only [List.getElem?_toArray, List.getElem?_cons_zero, List.getElem?_cons_succ]; exact rfl) (by kernel_rfl) (by kernel_rfl) (by kernel_rfl) (RgN.safe_all _ _ _) (by rfl) hS0 ?yaC72 ?raC72
          case yaC72 =>
            intro w' hS
            obtain ⟨h0, h1, h2, h3, h4, h5, h6, h7, h8⟩ := hS
            go_simp
            try with_reducible rfl
          case raC72 =>
          simp only [Act.put, List.setIfInBounds_toArray, List.set_cons_zero, List.set_cons_succ]
          refine RgN.n_take 3 ?vaC73 (by simp only [List.getElem?_toArray, List.getElem?_cons_zero, List.getElem?_cons_succ]; exact rfl) (by kernel_rfl) (by kernel_rfl) (by kernel_rfl) (RgN.safe_all _ _ _) (by rfl) hS0 ?yaC73 ?raC73
          case yaC73 =>
            intro w' hS
            obtain ⟨h0, h1, h2, h3, h4, h5, h6, h7, h8⟩ := hS
            go_simp
            try with_reducible rfl
          case raC73 =>
          simp only [Act.put, List.setIfInBounds_toArray, List.set_cons_zero, List.set_cons_succ]
          refine RgN.n_take 4 ?vaC74 (by simp only [List.getElem?_toArray, List.getElem?_cons_zero, List.getElem?_cons_succ]; exact rfl) (by kernel_rfl) (by kernel_rfl) (by kernel_rfl) (RgN.safe_all _ _ _) (by rfl) hS0 ?yaC74 ?raC74
          case yaC74 =>
            intro w' hS
            obtain ⟨h0, h1, h2, h3, h4, h5, h6, h7, h8⟩ := hS
            go_simp
            try with_reducible rfl
          case raC74 =>
          simp only [Act.put, List.setIfInBounds_toArray, List.set_cons_zero, List.set_cons_succ]
          refine RgN.n_take 5 ?vaC75 (by simp only [List.getElem?_toArray, List.getElem?_cons_zero, List.getElem?_cons_succ]; exact rfl) (by kernel_rfl) (by kernel_rfl) (by kernel_rfl) (RgN.safe_all _ _ _) (by rfl) hS0 ?yaC75 ?raC75
          case yaC75 =>
            intro w' hS
            obtain ⟨h0, h1, h2, h3, h4, h5, h6, h7, h8⟩ := hS
            go_simp
            try with_reducible rfl
          case raC75 =>
          simp only [Act.put, List.setIfInBounds_toArray, List.set_cons_zero, List.set_cons_succ]
          refine RgN.n_take 1 ?vaC76 (by simp only [List.getElem?_toArray, List.getElem?_cons_zero, List.getElem?_cons_succ]; exact rfl) (by kernel_rfl) (by kernel_rfl) (by kernel_rfl) (RgN.safe_all _ _ _) (by rfl) hS0 ?yaC76 ?raC76
          case yaC76 =>
            intro w' hS
            obtain ⟨h0, h1, h2, h3, h4, h5, h6, h7, h8⟩ := hS
            go_simp
            try with_reducible rfl
          case raC76 =>
          simp only [Act.put, List.setIfInBounds_toArray, List.set_cons_zero, List.set_cons_succ]
          refine RgN.n_take 6 ?vaC77 (by simp only [List.getElem?_toArray, List.getElem?_cons_zero, List.getElem?_cons_succ]; exact rfl) (by kernel_rfl) (by kernel_rfl) (by kernel_rfl) (RgN.safe_all _ _ _) (by rfl) hS0 ?yaC77 ?raC77
          case yaC77 =>
            intro w' hS
            obtain ⟨h0, h1, h2, h3, h4, h5, h6, h7, h8⟩ := hS
            go_simp
            try with_reducible rfl
          case raC77 =>
          simp only [Act.put, List.setIfInBounds_toArray, List.set_cons_zero, List.set_cons_succ]
          refine RgN.n_take 7 ?vaC78 (by simp only [List.getElem?_toArray, List.getElem?_cons_zero, List.getElem?_cons_succ]; exact rfl) (by kernel_rfl) (by kernel_rfl) (by kernel_rfl) (RgN.safe_all _ _ _) (by rfl) hS0 ?yaC78 ?raC78
          case yaC78 =>
            intro w' hS
            obtain ⟨h0, h1, h2, h3, h4, h5, h6, h7, h8⟩ := hS
            go_simp
            try with_reducible rfl
          case raC78 =>
          simp only [Act.put, List.setIfInBounds_toArray, List.set_cons_zero, List.set_cons_succ]
          refine RgN.n_take 8 ?vaC79 (by simp only [List.getElem?_toArray, List.getElem?_cons_zero, List.getElem?_cons_succ]; exact rfl) (by kernel_rfl) (by kernel_rfl) (by kernel_rfl) (RgN.safe_all _ _ _) (by rfl) hS0 ?yaC79 ?raC79
          case yaC79 =>
            intro w' hS
            obtain ⟨h0, h1, h2, h3, h4, h5, h6, h7, h8⟩ := hS
            go_simp
            try with_reducible rfl
          case raC79 =>
          simp only [Act.put, List.setIfInBounds_toArray, List.set_cons_zero, List.set_cons_succ]
          refine RgN.n_take 9 ?vaC710 (by simp only [List.getElem?_toArray, List.getElem?_cons_zero, List.getElem?_cons_succ]; exact rfl) (by kernel_rfl) (by kernel_rfl) (by kernel_rfl) (RgN.safe_all _ _ _) (by rfl) hS0 ?yaC710 ?raC710
          case yaC710 =>
            intro w' hS
            obtain ⟨h0, h1, h2, h3, h4, h5, h6, h7, h8⟩ := hS
            go_simp
            try with_reducible rfl
          case raC710 =>
          simp only [Act.put, List.setIfInBounds_toArray, List.set_cons_zero, List.set_cons_succ]
          refine RgN.n_one 10 (by kernel_rfl) (by simp only [List.getElem?_toArray, List.getElem?_cons_zero, List.getElem?_cons_succ]; exact rfl) (fun K hK => ?_)
          go_simp
          try rw [hWX]
          clear hWX
          refine hK.out _ _ (fun _ => hSs.out) ?_
          clear hK K
          try simp only [Act.put, List.setIfInBounds_toArray, List.set_cons_zero, List.set_cons_succ]
          refine RgN.n_one 11 (by kernel_rfl) (by simp only [List.getElem?_toArray, List.getElem?_cons_zero, List.getElem?_cons_succ]; exact rfl) (fun K hK => ?_)
          go_simp
          refine hK.out _ _ (fun _ => hSs.out) ?_
          clear hK K
          try simp only [Act.put, List.setIfInBounds_toArray, List.set_cons_zero, List.set_cons_succ]
          refine RgN.n_one 12 (by kernel_rfl) (by simp only [List.getElem?_toArray, List.getElem?_cons_zero, List.getElem?_cons_succ]; exact rfl) (fun K hK => ?_)
          go_simp
          refine hK.out _ _ (fun _ => hSs.out) ?_
          clear hK K
          try simp only [Act.put, List.setIfInBounds_toArray, List.set_cons_zero, List.set_cons_succ]
          refine RgN.n_done (by kernel_rfl) ?_ _
          go_wp2_with fail
          refine bodyPost_ret (res3 _ _ _ _ _ rfl _ _ _ _ _ rfl (ld_mo hfin2.out.1)) rfl ⟨?_, hfin2.out.2⟩
          rw [ho.out]
          rfl
        | cons zc zt =>
          have hne : (S (zc :: zt)).toList.isEmpty = false := by rw [Lib.toList_data, S_l]; rfl
          have ho : Hid (out = ((y, mo, d, h, mi, s, fr), z, false)) := by unfold Hid; rw [hzl.out]; rfl
          obtain ⟨LZ, hLZ⟩ : ∃ LZ, S (zc :: zt) = LZ := ⟨_, rfl⟩
          rw [hLZ] at r0 hS0 hSs hne
          clear hLZ
          refine Du.regionP (fun _ => true) (fun w' => w'.cell? ⟨w.heap.size + 1, 0, none⟩ = some (.int .i64 y) ∧ w'.cell? ⟨w.heap.size + 1, 1, none⟩ = some (.int .i64 mo) ∧ w'.cell? ⟨w.heap.size + 1, 2, none⟩ = some (.int .i64 d) ∧ w'.cell? ⟨w.heap.size + 1, 3, none⟩ = some (.int .i64 h) ∧ w'.cell? ⟨w.heap.size + 1, 4, none⟩ = some (.int .i64 mi) ∧ w'.cell? ⟨w.heap.size + 1, 5, none⟩ = some (.int .i64 s) ∧ w'.cell? ⟨w.heap.size + 1, 6, none⟩ = some (.string (S fr)) ∧ w'.cell? ⟨w.heap.size + 2, 0, none⟩ = some (.string (LZ)) ∧ w'.cell? ⟨w.heap.size + 2, 1, none⟩ = some (.bool false)) (by kernel_rfl) ?_
          refine RgN.n_take 0 ?vaC81 (by simp only [List.getElem?_toArray, List.getElem?_cons_zero, List.getElem?_cons_succ]; exact rfl) (by kernel_rfl) (by kernel_rfl) (by kernel_rfl) (RgN.safe_all _ _ _) (by rfl) hS0 ?yaC81 ?raC81
          case yaC81 =>
            intro w' hS
            obtain ⟨h0, h1, h2, h3, h4, h5, h6, h7, h8⟩ := hS
            go_simp
            try with_reducible rfl
          case raC81 =>
          simp only [Act.put, List.setIfInBounds_toArray, List.set_cons_zero, List.set_cons_succ]
          refine RgN.n_take 2 ?vaC82 (by simp only [List.getElem?_toArray, List.getElem?_cons_zero, List.getElem?_cons_succ]; exact rfl) (by kernel_rfl) (by kernel_rfl) (by kernel_rfl) (RgN.safe_all _ _ _) (by rfl) hS0 ?yaC82 ?raC82
          case yaC82 =>
            intro w' hS
            obtain ⟨h0, h1, h2, h3, h4, h5, h6, h7, h8⟩ := hS
            go_simp
            try with_reducible rfl
          case raC82 =>
          simp only [Act.put, List.setIfInBounds_toArray, List.set_cons_zero, List.set_cons_succ]
          refine RgN.n_take 3 ?vaC83 (by simp only [List.getElem?_toArray, List.getElem?_cons_zero, List.getElem?_cons_succ]; exact rfl) (by kernel_rfl) (by kernel_rfl) (by kernel_rfl) (RgN.safe_all _ _ _) (by rfl) hS0 ?yaC83 ?raC83
          case yaC83 =>
            intro w' hS
            obtain ⟨h0, h1, h2, h3, h4, h5, h6, h7, h8⟩ := hS
            go_simp
            try with_reducible rfl
          case raC83 =>
          simp only [Act.put, List.setIfInBounds_toArray, List.set_cons_zero, List.set_cons_succ]
          refine RgN.n_take 4 ?vaC84 (by simp only [List.getElem?_toArray, List.getElem?_cons_zero, List.getElem?_cons_succ]; exact rfl) (by kernel_rfl) (by kernel_rfl) (by kernel_rfl) (RgN.safe_all _ _ _) (by rfl) hS0 ?yaC84 ?raC84
          case yaC84 =>
            intro w' hS
            obtain ⟨h0, h1, h2, h3, h4, h5, h6, h7, h8⟩ := hS
            go_simp
            try with_reducible rfl
          case raC84 =>
          simp only [Act.put, List.setIfInBounds_toArray, List.set_cons_zero, List.set_cons_succ]
          refine RgN.n_take 5 ?vaC85 (by simp only [List.getElem?_toArray, List.getElem?_cons_zero, List.getElem?_cons_succ]; exact rfl) (by kernel_rfl) (by kernel_rfl) (by kernel_rfl) (RgN.safe_all _ _ _) (by rfl) hS0 ?yaC85 ?raC85
          case yaC85 =>
            intro w' hS
            obtain ⟨h0, h1, h2, h3, h4, h5, h6, h7, h8⟩ := hS
            go_simp
            try with_reducible rfl
          case raC85 =>
          simp only [Act.put, List.setIfInBounds_toArray, List.set_cons_zero, List.set_cons_succ]
          refine RgN.n_take 1 ?vaC86 (by simp only [List.getElem?_toArray, List.getElem?_cons_zero, List.getElem?_cons_succ]; exact rfl) (by kernel_rfl) (by kernel_rfl) (by kernel_rfl) (RgN.safe_all _ _ _) (by rfl) hS0 ?yaC86 ?raC86
          case yaC86 =>
            intro w' hS
            obtain ⟨h0, h1, h2, h3, h4, h5, h6, h7, h8⟩ := hS
            go_simp
            try with_reducible rfl
          case raC86 =>
          simp only [Act.put, List.setIfInBounds_toArray, List.set_cons_zero, List.set_cons_succ]
          refine RgN.n_take 6 ?vaC87 (by simp only [List.getElem?_toArray, List.getElem?_cons_zero, List.getElem?_cons_succ]; exact rfl) (by kernel_rfl) (by kernel_rfl) (by kernel_rfl) (RgN.safe_all _ _ _) (by rfl) hS0 ?yaC87 ?raC87
          case yaC87 =>
            intro w' hS
            obtain ⟨h0, h1, h2, h3, h4, h5, h6, h7, h8⟩ := hS
            go_simp
            try with_reducible rfl
          case raC87 =>
          simp only [Act.put, List.setIfInBounds_toArray, List.set_cons_zero, List.set_cons_succ]
          refine RgN.n_take 7 ?vaC88 (by simp only [List.getElem?_toArray, List.getElem?_cons_zero, List.getElem?_cons_succ]; exact rfl) (by kernel_rfl) (by kernel_rfl) (by kernel_rfl) (RgN.safe_all _ _ _) (by rfl) hS0 ?yaC88 ?raC88
          case yaC88 =>
            intro w' hS
            obtain ⟨h0, h1, h2, h3, h4, h5, h6, h7, h8⟩ := hS
            go_simp
            try with_reducible rfl
          case raC88 =>
          simp only [Act.put, List.setIfInBounds_toArray, List.set_cons_zero, List.set_cons_succ]
          refine RgN.n_take 8 ?vaC89 (by simp only [List.getElem?_toArray, List.getElem?_cons_zero, List.getElem?_cons_succ]; exact rfl) (by kernel_rfl) (by kernel_rfl) (by kernel_rfl) (RgN.safe_all _ _ _) (by rfl) hS0 ?yaC89 ?raC89
          case yaC89 =>
            intro w' hS
            obtain ⟨h0, h1, h2, h3, h4, h5, h6, h7, h8⟩ := hS
            go_simp
            try with_reducible rfl
          case raC89 =>
          simp only [Act.put, List.setIfInBounds_toArray, List.set_cons_zero, List.set_cons_succ]
          refine RgN.n_take 9 ?vaC810 (by simp only [List.getElem?_toArray, List.getElem?_cons_zero, List.getElem?_cons_succ]; exact rfl) (by kernel_rfl) (by kernel_rfl) (by kernel_rfl) (RgN.safe_all _ _ _) (by rfl) hS0 ?yaC810 ?raC810
          case yaC810 =>
            intro w' hS
            obtain ⟨h0, h1, h2, h3, h4, h5, h6, h7, h8⟩ := hS
            go_simp
            try with_reducible rfl
          case raC810 =>
          simp only [Act.put, List.setIfInBounds_toArray, List.set_cons_zero, List.set_cons_succ]
          refine RgN.n_one 10 (by kernel_rfl) (by simp only [List.getElem?_toArray, List.getElem?_cons_zero, List.getElem?_cons_succ]; exact rfl) (fun K hK => ?_)
          go_simp
          try rw [hWX]
          clear hWX
          refine hK.out _ _ (fun _ => hSs.out) ?_
          clear hK K
          try simp only [Act.put, List.setIfInBounds_toArray, List.set_cons_zero, List.set_cons_succ]
          refine RgN.n_one 11 (by kernel_rfl) (by simp only [List.getElem?_toArray, List.getElem?_cons_zero, List.getElem?_cons_succ]; exact rfl) (fun K hK => ?_)
          go_simp
          refine hK.out _ _ (fun _ => hSs.out) ?_
          clear hK K
          try simp only [Act.put, List.setIfInBounds_toArray, List.set_cons_zero, List.set_cons_succ]
          refine RgN.n_one 12 (by kernel_rfl) (by simp only [List.getElem?_toArray, List.getElem?_cons_zero, List.getElem?_cons_succ]; exact rfl) (fun K hK => ?_)
          go_simp
          refine hK.out _ _ (fun _ => hSs.out) ?_
          clear hK K
          try simp only [Act.put, List.setIfInBounds_toArray, List.set_cons_zero, List.set_cons_succ]
          refine RgN.n_done (by kernel_rfl) ?_ _
          go_wp2_with fail
          refine bodyPost_ret (res3 _ _ _ _ _ rfl _ _ _ _ _ rfl (ld_mo hfin2.out.1)) rfl ⟨?_, hfin2.out.2⟩
          rw [ho.out]
          rfl
end Mt
end Go.Proofs.YtnjodplnbfmjeaaGreatDoor
