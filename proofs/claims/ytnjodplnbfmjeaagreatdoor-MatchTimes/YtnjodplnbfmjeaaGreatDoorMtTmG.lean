import Derived.Test.YtnjodplnbfmjeaaGreatDoorMtTmF
import Derived.Test.YtnjodplnbfmjeaaGreatDoorMtIntN
import Derived.Shelf.Strconv.Atoi
namespace Go.Proofs.YtnjodplnbfmjeaaGreatDoor
open Go.RowKit
set_option linter.unusedVariables false
set_option linter.unusedSimpArgs false
namespace Mt

/-- A reader of times: its block, what is left of the text, whether it is broken. -/
def Tr (W : World) (b : Nat) (l : List UInt8) (br : Bool) : Prop := W.heap[b]? = some (.cells #[.string (S l), .bool br] 317 (0, 0))
/-- Of what was, only the reader's block may have turned. -/
def Tb (b : Nat) (w w' : World) : Prop := Below b w w' ∧ ∀ k, k < w.heap.size → k ≠ b → w'.heap[k]? = w.heap[k]?
variable {w w' w1 w2 W W' : World} {b p q : Nat} {l : List UInt8} {br : Bool}
theorem Tb.refl (b : Nat) (w : World) : Tb b w w := ⟨Below.refl _ _, fun _ _ _ => rfl⟩
theorem Tb.size (h : Tb b w w') : w.heap.size ≤ w'.heap.size := h.1.size
theorem Tb.trans (h1 : Tb b w w1) (h2 : Tb b w1 w2) : Tb b w w2 := ⟨h1.1.trans h2.1, fun k hk hne => by rw [h2.2 k (Nat.lt_of_lt_of_le hk h1.size) hne, h1.2 k hk hne]⟩
theorem Tb.of_below (hb : Below w.heap.size w w') (h : b ≤ w.heap.size) : Tb b w w' := ⟨hb.mono h, fun k hk _ => hb.block k hk⟩
theorem Tb.set (h : Tb b w w') (i : Nat) (v : Value) : Tb b w (w'.setCell ⟨b, i, none⟩ v) := ⟨h.1.setCell (p := ⟨b, i, none⟩) (Nat.le_refl _) v, fun k hk hne => by rw [Go.heap_setCell_other _ _ _ _ (show k ≠ b from hne), h.2 k hk hne]⟩
theorem Tr.lt (h : Tr W b l br) : b < W.heap.size := (Array.getElem?_eq_some_iff.1 h).1
theorem Tr.cells (h : Tr W b l br) : W.cell? ⟨b, 0, none⟩ = some (.string (S l)) ∧ W.cell? ⟨b, 1, none⟩ = some (.bool br) ∧ W.frozen? ⟨b, 0, none⟩ = false ∧ W.frozen? ⟨b, 1, none⟩ = false := by
  have h := h
  unfold Tr at h
  exact ⟨by simp [World.cell?, h], by simp [World.cell?, h], by simp [World.frozen?, h], by simp [World.frozen?, h]⟩
theorem Tr.rest (h : Tr W b l br) (m : List UInt8) : Tr (W.setCell ⟨b, 0, none⟩ (.string (S m))) b m br := Go.heap_setCell_same _ _ _ _ _ _ h
theorem Tr.brk (h : Tr W b l br) : Tr (W.setCell ⟨b, 1, none⟩ (.bool true)) b l true := Go.heap_setCell_same _ _ _ _ _ _ h
theorem Tr.below (h : Tr W b l br) (hb : Below W.heap.size W W') : Tr W' b l br := by
  unfold Tr at *
  rw [hb.block b (Array.getElem?_eq_some_iff.1 h).1]
  exact h

/-- Digits. -/
def allD (l : List UInt8) : Bool := (Lib.trimLeftS l dgs).isEmpty
def digV (l : List UInt8) : Nat := l.foldl (fun a c => a * 10 + (c.toNat - 48)) 0
theorem dg_iff (c : UInt8) : dgs.contains c = (decide (48 ≤ c.toNat) && decide (c.toNat ≤ 57)) := by
  have h : ∀ n : Fin 256, dgs.contains (UInt8.ofNat n.val) = (decide (48 ≤ (UInt8.ofNat n.val).toNat) && decide ((UInt8.ofNat n.val).toNat ≤ 57)) := by decide +kernel
  have := h ⟨c.toNat, c.toNat_lt⟩
  rwa [UInt8.ofNat_toNat] at this
theorem allD_cons (c : UInt8) (l : List UInt8) : allD (c :: l) = (dgs.contains c && allD l) := by
  unfold allD Lib.trimLeftS
  rw [List.dropWhile_cons]
  cases h : dgs.contains c with
  | true => simp
  | false => simp
theorem dec_fold : ∀ (l : List UInt8) (acc : Nat), allD l = true → Lib.decFrom acc l = some (l.foldl (fun a c => a * 10 + (c.toNat - 48)) acc)
  | [], acc, _ => rfl
  | c :: l, acc, h => by
    rw [allD_cons, Bool.and_eq_true, dg_iff, Bool.and_eq_true] at h
    obtain ⟨⟨h1, h2⟩, h3⟩ := h
    have hv : Lib.digitVal c = some (c.toNat - 48) := if_pos ⟨of_decide_eq_true h1, of_decide_eq_true h2⟩
    show (match Lib.digitVal c with
      | some d => Lib.decFrom (acc * 10 + d) l
      | none => none) = _
    rw [hv]
    exact dec_fold l _ h3
theorem atoi_dig {l : List UInt8} (h : allD l = true) (hn : l ≠ []) : Lib.atoi l = some (digV l : Int) := by
  match l, hn with
  | c :: r, _ =>
    have h' := h
    rw [allD_cons, Bool.and_eq_true, dg_iff, Bool.and_eq_true] at h'
    obtain ⟨⟨h1, h2⟩, h3⟩ := h'
    have h1 := of_decide_eq_true h1
    have c1 : (c == 45) = false := beq_eq_false_iff_ne.2 (fun e => by rw [e] at h1; revert h1; decide)
    have c2 : (c == 43) = false := beq_eq_false_iff_ne.2 (fun e => by rw [e] at h1; revert h1; decide)
    show (if c == 45 then _ else if c == 43 then _ else (Lib.decNat (c :: r)).map fun (m : Nat) => (m : Int)) = _
    rw [c1, c2]
    show (Lib.decNat (c :: r)).map (fun (m : Nat) => (m : Int)) = _
    have : Lib.decNat (c :: r) = some (digV (c :: r)) := dec_fold (c :: r) 0 h
    rw [this]
    rfl
theorem digV_lt {l : List UInt8} (h : allD l = true) : digV l < 10 ^ l.length := by
  have h1 := dec_fold l 0 h
  have := Lib.decFrom_lt l 0 _ h1
  unfold digV
  simpa using this
/-- So many digits, which must stand for a number from low to high. -/
def numR (n : Nat) (lo hi : Int) (l : List UInt8) (br : Bool) : Int × List UInt8 × Bool :=
  if l.length < n then (lo, l, true)
  else if allD (l.take n) = true then ((digV (l.take n) : Int), l.drop n, br || (decide ((digV (l.take n) : Int) < lo) || decide (hi < (digV (l.take n) : Int))))
  else (lo, l, true)

set_option maxRecDepth 100000 in
set_option maxHeartbeats 1000000 in
theorem number_any (b : Nat) (l : List UInt8) (br : Bool) (n : Nat) (lo hi : Int) (w : World) (hR : Tr w b l br) (hn : 1 ≤ n) (hn18 : n ≤ 18) (hl : l.length ≤ 4194304) :
    Calls Tryz.prog 276 #[.pointer (some ⟨b, 0, none⟩), .int .i64 (n : Int), .int .i64 lo, .int .i64 hi] w fun e w' => e = .returned (.int .i64 (numR n lo hi l br).1) ∧ Tr w' b (numR n lo hi l br).2.1 (numR n lo hi l br).2.2 ∧ Tb b w w' := by
  have hsz : (S l).size = l.length := S_size l
  obtain ⟨c0, c1, f0, f1⟩ := hR.cells
  have hR' : Hid (Tr w b l br) := hR
  obtain ⟨T, hT⟩ : ∃ T, S l = T := ⟨_, rfl⟩
  obtain ⟨out, hout'⟩ : ∃ out, numR n lo hi l br = out := ⟨_, rfl⟩
  have hout : Hid (numR n lo hi l br = out) := hout'
  rw [hout']
  by_cases h1 : l.length < n
  · have ho : Hid (out = (lo, l, true)) := by unfold Hid; rw [← hout', numR, if_pos h1]
    have hlt : (T.size : Int) < (n : Int) := by rw [← hT, hsz]; omega
    rw [hT] at c0
    clear hout' hsz hT h1 hR
    have hw2 : Hid (Tr (w.setCell ⟨b, 1, none⟩ (.bool true)) b l true ∧ Tb b w (w.setCell ⟨b, 1, none⟩ (.bool true))) := ⟨hR'.out.brk, (Tb.refl b w).set _ _⟩
    go_enter Tryz.func276, Tryz.ntmps276
    go_wp2_with fail
    go_ret
    rw [ho.out]
    exact ⟨rfl, hw2.out.1, hw2.out.2⟩
  · have hge : ¬ (T.size : Int) < (n : Int) := by rw [← hT, hsz]; omega
    have hle : (n : Int) ≤ (T.size : Int) := by omega
    have n0 : (0 : Int) ≤ (n : Int) := Int.natCast_nonneg _
    have hq1 : T.extract 0 n = S (l.take n) := by rw [← hT]; exact S_eq _ _ (by rw [take_l, S_l])
    have hq2 : T.extract n T.size = S (l.drop n) := by rw [← hT]; exact S_eq _ _ (by rw [drop_l, S_l])
    have hM : ∀ W, Hid (Calls Tryz.prog 234 #[.string (S (l.take n)), .string dgS] W fun e w' => e = .returned (.bool (allD (l.take n))) ∧ Below W.heap.size W w') := fun W => madeOfD_any _ W
    have htn : (l.take n).length = n := by rw [List.length_take]; omega
    rw [hT] at c0
    by_cases h2 : allD (l.take n) = true
    · obtain ⟨v, hv⟩ : ∃ v, digV (l.take n) = v := ⟨_, rfl⟩
      have ho : Hid (out = ((v : Int), l.drop n, br || (decide ((v : Int) < lo) || decide (hi < (v : Int))))) := by unfold Hid; rw [← hout', numR, if_neg h1, if_pos h2, hv]
      have hAt : ∀ W, Hid (Calls Tryz.prog 285 #[.string (S (l.take n))] W fun e w' => e = .returned (.tuple #[.int .i64 (v : Int), .nilIface]) ∧ Below W.heap.size W w') := fun W => by
        refine (Tryz.strconv_Atoi (S (l.take n)) (v : Int) (by rw [S_size, htn]; exact hn18) (by rw [S_l, ← hv]; exact atoi_dig h2 (fun e => by rw [e] at htn; simp at htn; omega)) W).mono ?_
        rintro e w' ⟨rfl, t, rfl⟩
        exact ⟨rfl, rfl, rfl, rfl, by rw [Lib.bytesWorld_size]; omega, fun j hj => Lib.bytesWorld_at_old W _ t j hj⟩
      rw [h2] at hM
      obtain ⟨Q, hQ⟩ : ∃ Q, S (l.take n) = Q := ⟨_, rfl⟩
      obtain ⟨D, hD⟩ : ∃ D, S (l.drop n) = D := ⟨_, rfl⟩
      rw [hQ] at hq1
      rw [hD] at hq2
      simp only [hQ] at hM hAt
      have hw2 : ∀ W, Below w.heap.size w W → Hid (Tr (W.setCell ⟨b, 0, none⟩ (.string D)) b (l.drop n) br ∧ Tb b w (W.setCell ⟨b, 0, none⟩ (.string D)) ∧ Tr ((W.setCell ⟨b, 0, none⟩ (.string D)).setCell ⟨b, 1, none⟩ (.bool true)) b (l.drop n) true ∧ Tb b w ((W.setCell ⟨b, 0, none⟩ (.string D)).setCell ⟨b, 1, none⟩ (.bool true))) := fun W hb => by
        have r1 : Tr (W.setCell ⟨b, 0, none⟩ (.string D)) b (l.drop n) br := by rw [← hD]; exact (hR'.out.below hb).rest _
        have r2 : Tb b w (W.setCell ⟨b, 0, none⟩ (.string D)) := (Tb.of_below hb (Nat.le_of_lt hR'.out.lt)).set _ _
        exact ⟨r1, r2, r1.brk, r2.set _ _⟩
      have hcl : Hid (∀ W, Below w.heap.size w W → W.cell? ⟨b, 0, none⟩ = some (.string T) ∧ W.cell? ⟨b, 1, none⟩ = some (.bool br) ∧ W.frozen? ⟨b, 0, none⟩ = false ∧ W.frozen? ⟨b, 1, none⟩ = false) := fun W hb => by
        have := (hR'.out.below hb).cells
        rw [hT] at this
        exact this
      clear hout' hsz hT h1 h2 hR hout htn hv hQ hD
      by_cases h3 : (v : Int) < lo
      · have ho2 : Hid (out = ((v : Int), l.drop n, true)) := by unfold Hid; rw [ho.out, decide_eq_true h3]; simp
        clear ho
        go_enter Tryz.func276, Tryz.ntmps276
        go_wp2_with fail
        refine (hM _).out.mono ?_
        rintro e w1 ⟨rfl, hb1⟩
        have hb1' : Hid (Below w.heap.size w w1) := hb1
        clear c0 c1 f0 f1 hM hb1
        obtain ⟨c0, c1, f0, f1⟩ := hcl.out w1 hb1'.out
        go_wp2_with fail
        refine (hAt _).out.mono ?_
        rintro e w2 ⟨rfl, hb2⟩
        have hb2' : Hid (Below w.heap.size w w2) := hb1'.out.trans (hb2.mono hb1'.out.size)
        clear c0 c1 f0 f1 hAt hb2
        obtain ⟨c0, c1, f0, f1⟩ := hcl.out w2 hb2'.out
        have hend := hw2 w2 hb2'.out
        clear hw2
        go_wp2_with fail
        go_ret
        rw [ho2.out]
        exact ⟨rfl, hend.out.2.2.1, hend.out.2.2.2⟩
      · by_cases h4 : hi < (v : Int)
        · have ho2 : Hid (out = ((v : Int), l.drop n, true)) := by unfold Hid; rw [ho.out, decide_eq_true h4]; simp
          clear ho
          go_enter Tryz.func276, Tryz.ntmps276
          go_wp2_with fail
          refine (hM _).out.mono ?_
          rintro e w1 ⟨rfl, hb1⟩
          have hb1' : Hid (Below w.heap.size w w1) := hb1
          clear c0 c1 f0 f1 hM hb1
          obtain ⟨c0, c1, f0, f1⟩ := hcl.out w1 hb1'.out
          go_wp2_with fail
          refine (hAt _).out.mono ?_
          rintro e w2 ⟨rfl, hb2⟩
          have hb2' : Hid (Below w.heap.size w w2) := hb1'.out.trans (hb2.mono hb1'.out.size)
          clear c0 c1 f0 f1 hAt hb2
          obtain ⟨c0, c1, f0, f1⟩ := hcl.out w2 hb2'.out
          have hend := hw2 w2 hb2'.out
          clear hw2
          go_wp2_with fail
          go_ret
          rw [ho2.out]
          exact ⟨rfl, hend.out.2.2.1, hend.out.2.2.2⟩
        · have ho2 : Hid (out = ((v : Int), l.drop n, br)) := by unfold Hid; rw [ho.out, decide_eq_false h3, decide_eq_false h4]; simp
          clear ho
          go_enter Tryz.func276, Tryz.ntmps276
          go_wp2_with fail
          refine (hM _).out.mono ?_
          rintro e w1 ⟨rfl, hb1⟩
          have hb1' : Hid (Below w.heap.size w w1) := hb1
          clear c0 c1 f0 f1 hM hb1
          obtain ⟨c0, c1, f0, f1⟩ := hcl.out w1 hb1'.out
          go_wp2_with fail
          refine (hAt _).out.mono ?_
          rintro e w2 ⟨rfl, hb2⟩
          have hb2' : Hid (Below w.heap.size w w2) := hb1'.out.trans (hb2.mono hb1'.out.size)
          clear c0 c1 f0 f1 hAt hb2
          obtain ⟨c0, c1, f0, f1⟩ := hcl.out w2 hb2'.out
          have hend := hw2 w2 hb2'.out
          clear hw2
          go_wp2_with fail
          go_ret
          rw [ho2.out]
          exact ⟨rfl, hend.out.1, hend.out.2.1⟩
    · have ho : Hid (out = (lo, l, true)) := by unfold Hid; rw [← hout', numR, if_neg h1, if_neg h2]
      have h2' : allD (l.take n) = false := by simpa using h2
      rw [h2'] at hM
      obtain ⟨Q, hQ⟩ : ∃ Q, S (l.take n) = Q := ⟨_, rfl⟩
      rw [hQ] at hq1
      simp only [hQ] at hM
      have hw2 : ∀ W, Below w.heap.size w W → Hid (Tr (W.setCell ⟨b, 1, none⟩ (.bool true)) b l true ∧ Tb b w (W.setCell ⟨b, 1, none⟩ (.bool true))) := fun W hb =>
        ⟨(hR'.out.below hb).brk, (Tb.of_below hb (Nat.le_of_lt hR'.out.lt)).set _ _⟩
      have hcl : Hid (∀ W, Below w.heap.size w W → W.cell? ⟨b, 0, none⟩ = some (.string T) ∧ W.cell? ⟨b, 1, none⟩ = some (.bool br) ∧ W.frozen? ⟨b, 0, none⟩ = false ∧ W.frozen? ⟨b, 1, none⟩ = false) := fun W hb => by
        have := (hR'.out.below hb).cells
        rw [hT] at this
        exact this
      clear hout' hsz hT h1 h2 hR hout htn hQ h2' hq2
      go_enter Tryz.func276, Tryz.ntmps276
      go_wp2_with fail
      refine (hM _).out.mono ?_
      rintro e w1 ⟨rfl, hb1⟩
      have hb1' : Hid (Below w.heap.size w w1) := hb1
      clear c0 c1 f0 f1 hM hb1
      obtain ⟨c0, c1, f0, f1⟩ := hcl.out w1 hb1'.out
      have hend := hw2 w1 hb1'.out
      clear hw2
      go_wp2_with fail
      go_ret
      rw [ho.out]
      exact ⟨rfl, hend.out.1, hend.out.2⟩
end Mt
end Go.Proofs.YtnjodplnbfmjeaaGreatDoor
