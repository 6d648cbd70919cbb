import Derived.Test.YtohkmjaaigaemabGreatMtOct
import Derived.Test.YtohkmjaaigaemabGreatMtFit1
namespace Go.Proofs.YtohkmjaaigaemabGreat
open Go.RowKit
open FitM (gre progF)
set_option linter.unusedVariables false

def PatV (W : World) (g : Nat) (i : ByteArray) (v : Value) (f : ByteArray) : Prop := W.heap[g]? = some (.cells #[.string i, v, .string f] 24 (0, 0))
theorem PatV.cells {W : World} {g : Nat} {i : ByteArray} {v : Value} {f : ByteArray} (h : PatV W g i v f) :
    (W.cell? ⟨g, 0, none⟩ = some (.string i) ∧ W.frozen? ⟨g, 0, none⟩ = false) ∧ (W.cell? ⟨g, 1, none⟩ = some v ∧ W.frozen? ⟨g, 1, none⟩ = false) ∧ (W.cell? ⟨g, 2, none⟩ = some (.string f) ∧ W.frozen? ⟨g, 2, none⟩ = false) :=
  ⟨row_cell h (j := 0) (by simp), row_cell h (j := 1) (by simp), row_cell h (j := 2) (by simp)⟩
theorem PatV.of_block {W W' : World} {g : Nat} {i : ByteArray} {v : Value} {f : ByteArray} (h : PatV W g i v f) (e : W'.heap[g]? = W.heap[g]?) : PatV W' g i v f := e.trans h
theorem PatV.lt {W : World} {g : Nat} {i : ByteArray} {v : Value} {f : ByteArray} (h : PatV W g i v f) : g < W.heap.size := (Array.getElem?_eq_some_iff.1 h).1
theorem PatV.whole {W : World} {g : Nat} {i i' : ByteArray} {v v' : Value} {f f' : ByteArray} (h : PatV W g i v f) :
    PatV (((W.setCell ⟨g, 0, none⟩ (.string i')).setCell ⟨g, 1, none⟩ v').setCell ⟨g, 2, none⟩ (.string f')) g i' v' f' :=
  Go.heap_setCell_same _ _ _ _ _ _ (Go.heap_setCell_same _ _ _ _ _ _ (Go.heap_setCell_same _ _ _ _ _ _ h))
theorem results_cell_tmp {fn : Func} {t u : Tmp} {ty : TypeId} (h : fn.results = #[.cell t ty, .tmp u]) (tmps : Array Value) (P : Program) (w : World) (p : Addr) (x : Value) (hp : tmps.getD t undef = .pointer (some p)) (hl : (loadVar ty p).run P w = .ok x w) :
    (results fn tmps).run P w = .ok (.tuple #[x, tmps.getD u undef]) w := by
  have hp' : tmps[t]?.getD undef = .pointer (some p) := by rw [← hp]; simp
  simp [results, h, hp', asAddr, hl, Result.andThen]
theorem ld_pat {W : World} {g : Nat} {i : ByteArray} {v : Value} {f : ByteArray} (h : PatV W g i v f) : (loadVar 24 ⟨g, 0, none⟩).run Tryz.prog W = .ok (.agg #[.string i, v, .string f]) W :=
  run_loadVar_row W g 24 24 _ (0, 0) _ h Tryz.underlying24 rfl (by kernel_rfl)
theorem octP_any (v : ByteArray) (k : Int) (w : World) : Calls Tryz.prog 114 #[.agg #[], .string v, .int .i64 k] w fun e w' => e = .returned (.tuple #[.string v, .bool true]) ∧ Below w.heap.size w w' := by
  have hB : Hid (Below w.heap.size w (w.alloc (.cells #[] 67))) := (Below.refl _ _).alloc (Nat.le_refl _) _
  go_enter Tryz.func114, Tryz.ntmps114
  go_wp2_with fail
  go_ret2
  exact ⟨rfl, hB.out⟩
theorem make_strs (n : Nat) (hn : n ≤ 4194304) (W : World) : (Instr.makeSlice 22 (.int .i64 (n : Int)) (.int .i64 (n : Int))).run Tryz.prog W = .ok (.slice (some ⟨W.heap.size, 0, none⟩) n n) (W.alloc (.cells (madeCells #[.string ⟨#[]⟩] n) 9)) :=
  run_make_row' (P := Tryz.prog) 22 9 (.string ⟨#[]⟩) 16 Tryz.underlying22 info_str rfl .i64 .i64 n (by omega) (by omega) W
/-- A row of texts that is being filled. -/
def TxRow (W : World) (g n : Nat) (f : Nat → ByteArray) : Prop := W.rowIs g 9 n (fun t => .string (f t))
theorem TxRow.row {W : World} {g : Nat} {l : List (List UInt8)} {f : Nat → ByteArray} (h : TxRow W g l.length f) (hf : ∀ i (hi : i < l.length), f i = S l[i]) : Row W (some ⟨g, 0, none⟩) l := fun i hi => ⟨g, 0, rfl, by rw [Nat.zero_add, World.rowIs.cell h hi, hf i hi]⟩
set_option maxRecDepth 100000 in
theorem mPiece (n : Nat) (W : World) : Sem.run Tryz.prog (method (n + 1) 67 (.agg #[]) "roster/match.piece") W = .ok (114, .agg #[]) W := by kernel_rfl
/-- What stands while the pieces are asked for. -/
def NpJ (w : World) (i f : ByteArray) (l : List (List UInt8)) (a : Option Addr) (c : Nat) (W : World) : Prop :=
  PatV W w.heap.size i (.slice a l.length c) f ∧ PatV W (w.heap.size + 1) ⟨#[]⟩ (.slice none 0 0) ⟨#[]⟩ ∧ Below w.heap.size w W ∧ w.heap.size + 2 ≤ W.heap.size ∧ Row w a l
theorem NpJ.step {w W W1 : World} {i f : ByteArray} {l : List (List UInt8)} {a : Option Addr} {c : Nat} (h : NpJ w i f l a c W) (hb : Below W.heap.size W W1) : NpJ w i f l a c W1 := by
  obtain ⟨h1, h2, h3, h4, h5⟩ := h
  exact ⟨h1.of_block (hb.block _ (by omega)), h2.of_block (hb.block _ (by omega)), h3.trans (hb.mono h3.size), by have := hb.size; omega, h5⟩
/-- What stands while the inner pieces are laid, k of them. -/
def NpK (w : World) (i f : ByteArray) (l : List (List UInt8)) (a : Option Addr) (c g k : Nat) (W : World) : Prop :=
  PatV W w.heap.size i (.slice a l.length c) f ∧ PatV W (g + 1) i (.slice (some ⟨g, 0, none⟩) l.length l.length) f ∧ TxRow W g l.length (fun t => if t < k then S (l.getD t []) else ⟨#[]⟩) ∧ Below w.heap.size w W ∧ w.heap.size + 2 ≤ g ∧ g + 2 ≤ W.heap.size ∧ Row w a l ∧ PatV W (w.heap.size + 1) ⟨#[]⟩ (.slice none 0 0) ⟨#[]⟩
theorem NpK.step {w W W1 : World} {i f : ByteArray} {l : List (List UInt8)} {a : Option Addr} {c g k : Nat} (h : NpK w i f l a c g k W) (hb : Below W.heap.size W W1) : NpK w i f l a c g k W1 := by
  obtain ⟨h1, h2, h3, h4, h5, h6, h7, h8⟩ := h
  exact ⟨h1.of_block (hb.block _ (by omega)), h2.of_block (hb.block _ (by omega)), World.rowIs.of_block h3 (hb.block _ (by omega)), h4.trans (hb.mono h4.size), h5, by have := hb.size; omega, h7, h8.of_block (hb.block _ (by omega))⟩
theorem npK_new {w W Wc Wd : World} {i f : ByteArray} {l : List (List UInt8)} {a : Option Addr} {c : Nat} (h : NpJ w i f l a c W) (hWc : W.alloc (.cells (madeCells #[.string ⟨#[]⟩] l.length) 9) = Wc) (hWd : Wc.alloc (.cells #[.string i, .slice (some ⟨W.heap.size, 0, none⟩) l.length l.length, .string f] 24) = Wd) : NpK w i f l a c W.heap.size 0 Wd := by
  obtain ⟨h1, h2, h3, h4, h5⟩ := h
  have nc : Wc.heap.size = W.heap.size + 1 := by rw [← hWc]; simp
  have b1 : Below W.heap.size W Wc := by rw [← hWc]; exact (Below.refl _ _).alloc (Nat.le_refl _) _
  have b2 : Below Wc.heap.size Wc Wd := by rw [← hWd]; exact (Below.refl _ _).alloc (Nat.le_refl _) _
  have b3 : Below W.heap.size W Wd := b1.trans (b2.mono b1.size)
  have r1 : TxRow Wc W.heap.size l.length (fun _ => ⟨#[]⟩) := by rw [← hWc]; exact World.rowIs_made W (.string ⟨#[]⟩) l.length 9
  refine ⟨h1.of_block (b3.block _ (by omega)), ?_, World.rowIs.congr (World.rowIs.of_block r1 (b2.block _ (by omega))) (fun t _ => by simp), h3.trans (b3.mono h3.size), h4, ?_, h5, h2.of_block (b3.block _ (by omega))⟩
  · rw [← nc, ← hWd]; exact heap_alloc_last Wc _
  · rw [← hWd, World.size_alloc, nc]; omega
theorem NpK.put {w W : World} {i f : ByteArray} {l : List (List UInt8)} {a : Option Addr} {c g k : Nat} (h : NpK w i f l a c g k W) (hk : k < l.length) : NpK w i f l a c g (k + 1) (W.setCell ⟨g, k, none⟩ (.string (S l[k]))) := by
  obtain ⟨h1, h2, h3, h4, h5, h6, h7, h8⟩ := h
  refine ⟨h1.of_block (Below.heap_setCell _ _ _ _ (by show _ ≠ g; omega)), h2.of_block (Below.heap_setCell _ _ _ _ (by show _ ≠ g; omega)), ?_, h4.setCell (by show _ ≤ g; omega) _, h5, by simpa [World.setCell] using h6, h7, h8.of_block (Below.heap_setCell _ _ _ _ (by show _ ≠ g; omega))⟩
  refine (World.rowIs.set h3 k _).congr (fun t ht => ?_)
  by_cases e : t = k
  · subst e; simp [ht]
  · by_cases e2 : t < k
    · simp [e, e2, show t < k + 1 by omega]
    · simp [e, e2, show ¬ t < k + 1 by omega]
theorem npK_end {w W : World} {i f : ByteArray} {l : List (List UInt8)} {a : Option Addr} {c g k : Nat} (h : NpK w i f l a c g k W) (hk : k = l.length) :
    (∃ g', Ending.returned (.tuple #[.agg #[.string i, .slice (some ⟨g, 0, none⟩) l.length l.length, .string f], .bool true]) = Ending.returned (.tuple #[.agg #[.string i, .slice (some ⟨g', 0, none⟩) l.length l.length, .string f], .bool true]) ∧ Row (((W.setCell ⟨w.heap.size + 1, 0, none⟩ (.string i)).setCell ⟨w.heap.size + 1, 1, none⟩ (.slice (some ⟨g, 0, none⟩) l.length l.length)).setCell ⟨w.heap.size + 1, 2, none⟩ (.string f)) (some ⟨g', 0, none⟩) l) ∧
      Below w.heap.size w (((W.setCell ⟨w.heap.size + 1, 0, none⟩ (.string i)).setCell ⟨w.heap.size + 1, 1, none⟩ (.slice (some ⟨g, 0, none⟩) l.length l.length)).setCell ⟨w.heap.size + 1, 2, none⟩ (.string f)) := by
  obtain ⟨h1, h2, h3, h4, h5, h6, h7, h8⟩ := h
  refine ⟨⟨g, rfl, ?_⟩, ((h4.setCell (by show _ ≤ w.heap.size + 1; omega) _).setCell (by show _ ≤ w.heap.size + 1; omega) _).setCell (by show _ ≤ w.heap.size + 1; omega) _⟩
  have h9 := ((World.rowIs.setOther h3 (a := ⟨w.heap.size + 1, 0, none⟩) (by show g ≠ w.heap.size + 1; omega) (.string i)).setOther (a := ⟨w.heap.size + 1, 1, none⟩) (by show g ≠ w.heap.size + 1; omega) (.slice (some ⟨g, 0, none⟩) l.length l.length)).setOther (a := ⟨w.heap.size + 1, 2, none⟩) (by show g ≠ w.heap.size + 1; omega) (.string f)
  refine TxRow.row (f := fun t => if t < k then S (l.getD t []) else ⟨#[]⟩) h9 (fun t ht => ?_)
  simp [hk, ht]
set_option maxRecDepth 100000 in
set_option maxHeartbeats 2000000 in
theorem normPat_any (i f : ByteArray) (l : List (List UInt8)) (a : Option Addr) (c : Nat) (w : World) (hr : Row w a l) (hl : l.length ≤ 4194304) (hne : ¬ (i.toList.isEmpty = true ∧ f.toList.isEmpty = true ∧ l = [])) :
    Calls Tryz.prog 16 #[octV, .agg #[.string i, .slice a l.length c, .string f]] w fun e w' => (∃ g, e = .returned (.tuple #[.agg #[.string i, .slice (some ⟨g, 0, none⟩) l.length l.length, .string f], .bool true]) ∧ Row w' (some ⟨g, 0, none⟩) l) ∧ Below w.heap.size w w' := by
  obtain ⟨Wa, hWa⟩ : ∃ W, w.alloc (.cells #[.string i, .slice a l.length c, .string f] 24) = W := ⟨_, rfl⟩
  obtain ⟨Wb, hWb⟩ : ∃ W, Wa.alloc (.cells #[.string ⟨#[]⟩, .slice none 0 0, .string ⟨#[]⟩] 24) = W := ⟨_, rfl⟩
  have na : Wa.heap.size = w.heap.size + 1 := by rw [← hWa]; simp
  have nb : Wb.heap.size = w.heap.size + 2 := by rw [← hWb, World.size_alloc, na]
  have pa : PatV Wa w.heap.size i (.slice a l.length c) f := by rw [← hWa]; exact heap_alloc_last w _
  have pb1 : PatV Wb w.heap.size i (.slice a l.length c) f := by rw [← hWb]; exact pa.of_block (Below.heap_alloc _ _ _ pa.lt)
  have pb2 : PatV Wb (w.heap.size + 1) ⟨#[]⟩ (.slice none 0 0) ⟨#[]⟩ := by rw [← hWb, ← na]; exact heap_alloc_last Wa _
  have hBb : Below w.heap.size w Wb := by
    rw [← hWb, ← hWa]
    exact ((Below.refl _ _).alloc (Nat.le_refl _) _).alloc (by simp) _
  have hI : Hid (NpJ w i f l a c Wb) := ⟨pb1, pb2, hBb, Nat.le_of_eq nb.symm, hr⟩
  obtain ⟨⟨c0, z0⟩, ⟨c1, z1⟩, ⟨c2, z2⟩⟩ := pb1.cells
  clear hr pa pb1 pb2 hBb
  have hl0 : (l.length : Int) = 0 ↔ l = [] := by rw [← List.length_eq_zero_iff]; omega
  have hcase : (i.toList.isEmpty = false) ∨ (i.toList.isEmpty = true ∧ f.toList.isEmpty = false) ∨ (i.toList.isEmpty = true ∧ f.toList.isEmpty = true ∧ ((l.length : Int) == 0) = false) := by
    cases h1 : i.toList.isEmpty with
    | false => exact Or.inl rfl
    | true =>
      cases h2 : f.toList.isEmpty with
      | false => exact Or.inr (Or.inl ⟨rfl, rfl⟩)
      | true =>
        refine Or.inr (Or.inr ⟨rfl, rfl, ?_⟩)
        rw [beq_eq_false_iff_ne]
        exact fun q => hne ⟨h1, h2, hl0.1 q⟩
  clear hne hl0
  have hcore : True := trivial
  rcases hcase with e1 | ⟨e1, e2⟩ | ⟨e1, e2, e3⟩
  · go_enter Tryz.func16, Tryz.ntmps16
    go_wp2_with fail
    rw [mPiece]
    go_wp2_with fail
    refine (octP_any i 1 Wb).mono ?_
    rintro e W1 ⟨rfl, hb1⟩
    have hI1 : Hid (NpJ w i f l a c W1) := hI.out.step hb1
    clear hI c0 z0 c1 z1 c2 z2
    obtain ⟨⟨c0, z0⟩, ⟨c1, z1⟩, ⟨c2, z2⟩⟩ := hI1.out.1.cells
    clear hb1 hWb hWa
    go_wp2_with fail
    rw [mPiece]
    go_wp2_with fail
    refine (octP_any f 2 W1).mono ?_
    rintro e W2 ⟨rfl, hb2⟩
    have hI2 : Hid (NpJ w i f l a c W2) := hI1.out.step hb2
    clear hI1 c0 z0 c1 z1 c2 z2 hb2
    obtain ⟨⟨c0, z0⟩, ⟨c1, z1⟩, ⟨c2, z2⟩⟩ := hI2.out.1.cells
    have hMk := make_strs l.length hl W2
    obtain ⟨Wc, hWc⟩ : ∃ W, W2.alloc (.cells (madeCells #[.string ⟨#[]⟩] l.length) 9) = W := ⟨_, rfl⟩
    obtain ⟨Wd, hWd⟩ : ∃ W, Wc.alloc (.cells #[.string i, .slice (some ⟨W2.heap.size, 0, none⟩) l.length l.length, .string f] 24) = W := ⟨_, rfl⟩
    have nc : Wc.heap.size = W2.heap.size + 1 := by rw [← hWc]; simp
    have hK : Hid (NpK w i f l a c W2.heap.size 0 Wd) := npK_new hI2.out hWc hWd
    clear hI2
    obtain ⟨⟨d0, y0⟩, ⟨d1, y1⟩, ⟨d2, y2⟩⟩ := hK.out.1.cells
    rw [hWc] at hMk
    go_wp2_with fail
    obtain ⟨g, hg⟩ : ∃ g, W2.heap.size = g := ⟨_, rfl⟩
    rw [hg] at hK
    simp only [hg]
    clear hMk c0 z0 c1 z1 c2 z2 d0 y0 d1 y1 d2 y2 hWc hWd nc hg na nb e1
    go_loopw [61] (fun iv wr => ∃ (k : Nat), k ≤ l.length ∧ iv = .int .i64 (k : Int) ∧ Hid (NpK w i f l a c g k wr)) (fun iv _ => l.length - (intOf iv).toNat)
    case atStart => exact ⟨0, Nat.zero_le _, rfl, hK⟩
    case round =>
      obtain ⟨k, hk, rfl, hR⟩ := hrel
      clear hK
      by_cases hlt : k < l.length
      · obtain ⟨b, off, rfl, hc⟩ := (hR.out.2.2.2.2.2.2.1.below hR.out.2.2.2.1) k hlt
        have i0 : (0 : Int) ≤ (k : Int) := Int.natCast_nonneg _
        have i1 : (k : Int) < (l.length : Int) := Int.ofNat_lt.2 hlt
        go_wp2_with fail
        rw [mPiece]
        go_wp2_with fail
        refine (octP_any (S l[k]) 0 wr).mono ?_
        rintro e W3 ⟨rfl, hb3⟩
        have hR3 : Hid (NpK w i f l (some ⟨b, off, none⟩) c g k W3) := hR.out.step hb3
        clear hR hb3 hc
        obtain ⟨-, ⟨d1, y1⟩, -⟩ := hR3.out.2.1.cells
        have cn := World.rowIs.cell hR3.out.2.2.1 hlt
        have cz := World.rowIs.frozen hR3.out.2.2.1 k
        have hput : Hid (NpK w i f l (some ⟨b, off, none⟩) c g (k + 1) (W3.setCell ⟨g, k, none⟩ (.string (S l[k])))) := hR3.out.put hlt
        clear hR3
        go_wp2_with fail
        go_roundw
        case rel => exact ⟨k + 1, hlt, by simp, hput⟩
        case measure => simp [intOf]; omega
      · have i1 : ¬ (k : Int) < (l.length : Int) := by omega
        obtain ⟨⟨d0, y0⟩, ⟨d1, y1⟩, ⟨d2, y2⟩⟩ := hR.out.2.1.cells
        obtain ⟨⟨r0, q0⟩, ⟨r1, q1⟩, ⟨r2, q2⟩⟩ := hR.out.2.2.2.2.2.2.2.cells
        go_wp2_with fail
        have hke : k = l.length := by omega
        refine bodyPost_ret (results_cell_tmp rfl _ _ _ _ _ rfl (ld_pat (hR.out.2.2.2.2.2.2.2.whole (i' := i) (v' := .slice (some ⟨g, 0, none⟩) l.length l.length) (f' := f)))) rfl ?_
        exact npK_end hR.out hke
  · go_enter Tryz.func16, Tryz.ntmps16
    go_wp2_with fail
    rw [mPiece]
    go_wp2_with fail
    refine (octP_any i 1 Wb).mono ?_
    rintro e W1 ⟨rfl, hb1⟩
    have hI1 : Hid (NpJ w i f l a c W1) := hI.out.step hb1
    clear hI c0 z0 c1 z1 c2 z2
    obtain ⟨⟨c0, z0⟩, ⟨c1, z1⟩, ⟨c2, z2⟩⟩ := hI1.out.1.cells
    clear hb1 hWb hWa
    go_wp2_with fail
    rw [mPiece]
    go_wp2_with fail
    refine (octP_any f 2 W1).mono ?_
    rintro e W2 ⟨rfl, hb2⟩
    have hI2 : Hid (NpJ w i f l a c W2) := hI1.out.step hb2
    clear hI1 c0 z0 c1 z1 c2 z2 hb2
    obtain ⟨⟨c0, z0⟩, ⟨c1, z1⟩, ⟨c2, z2⟩⟩ := hI2.out.1.cells
    have hMk := make_strs l.length hl W2
    obtain ⟨Wc, hWc⟩ : ∃ W, W2.alloc (.cells (madeCells #[.string ⟨#[]⟩] l.length) 9) = W := ⟨_, rfl⟩
    obtain ⟨Wd, hWd⟩ : ∃ W, Wc.alloc (.cells #[.string i, .slice (some ⟨W2.heap.size, 0, none⟩) l.length l.length, .string f] 24) = W := ⟨_, rfl⟩
    have nc : Wc.heap.size = W2.heap.size + 1 := by rw [← hWc]; simp
    have hK : Hid (NpK w i f l a c W2.heap.size 0 Wd) := npK_new hI2.out hWc hWd
    clear hI2
    obtain ⟨⟨d0, y0⟩, ⟨d1, y1⟩, ⟨d2, y2⟩⟩ := hK.out.1.cells
    rw [hWc] at hMk
    go_wp2_with fail
    obtain ⟨g, hg⟩ : ∃ g, W2.heap.size = g := ⟨_, rfl⟩
    rw [hg] at hK
    simp only [hg]
    clear hMk c0 z0 c1 z1 c2 z2 d0 y0 d1 y1 d2 y2 hWc hWd nc hg na nb e1 e2
    go_loopw [61] (fun iv wr => ∃ (k : Nat), k ≤ l.length ∧ iv = .int .i64 (k : Int) ∧ Hid (NpK w i f l a c g k wr)) (fun iv _ => l.length - (intOf iv).toNat)
    case atStart => exact ⟨0, Nat.zero_le _, rfl, hK⟩
    case round =>
      obtain ⟨k, hk, rfl, hR⟩ := hrel
      clear hK
      by_cases hlt : k < l.length
      · obtain ⟨b, off, rfl, hc⟩ := (hR.out.2.2.2.2.2.2.1.below hR.out.2.2.2.1) k hlt
        have i0 : (0 : Int) ≤ (k : Int) := Int.natCast_nonneg _
        have i1 : (k : Int) < (l.length : Int) := Int.ofNat_lt.2 hlt
        go_wp2_with fail
        rw [mPiece]
        go_wp2_with fail
        refine (octP_any (S l[k]) 0 wr).mono ?_
        rintro e W3 ⟨rfl, hb3⟩
        have hR3 : Hid (NpK w i f l (some ⟨b, off, none⟩) c g k W3) := hR.out.step hb3
        clear hR hb3 hc
        obtain ⟨-, ⟨d1, y1⟩, -⟩ := hR3.out.2.1.cells
        have cn := World.rowIs.cell hR3.out.2.2.1 hlt
        have cz := World.rowIs.frozen hR3.out.2.2.1 k
        have hput : Hid (NpK w i f l (some ⟨b, off, none⟩) c g (k + 1) (W3.setCell ⟨g, k, none⟩ (.string (S l[k])))) := hR3.out.put hlt
        clear hR3
        go_wp2_with fail
        go_roundw
        case rel => exact ⟨k + 1, hlt, by simp, hput⟩
        case measure => simp [intOf]; omega
      · have i1 : ¬ (k : Int) < (l.length : Int) := by omega
        obtain ⟨⟨d0, y0⟩, ⟨d1, y1⟩, ⟨d2, y2⟩⟩ := hR.out.2.1.cells
        obtain ⟨⟨r0, q0⟩, ⟨r1, q1⟩, ⟨r2, q2⟩⟩ := hR.out.2.2.2.2.2.2.2.cells
        go_wp2_with fail
        have hke : k = l.length := by omega
        refine bodyPost_ret (results_cell_tmp rfl _ _ _ _ _ rfl (ld_pat (hR.out.2.2.2.2.2.2.2.whole (i' := i) (v' := .slice (some ⟨g, 0, none⟩) l.length l.length) (f' := f)))) rfl ?_
        exact npK_end hR.out hke
  · go_enter Tryz.func16, Tryz.ntmps16
    go_wp2_with fail
    rw [mPiece]
    go_wp2_with fail
    refine (octP_any i 1 Wb).mono ?_
    rintro e W1 ⟨rfl, hb1⟩
    have hI1 : Hid (NpJ w i f l a c W1) := hI.out.step hb1
    clear hI c0 z0 c1 z1 c2 z2
    obtain ⟨⟨c0, z0⟩, ⟨c1, z1⟩, ⟨c2, z2⟩⟩ := hI1.out.1.cells
    clear hb1 hWb hWa
    go_wp2_with fail
    rw [mPiece]
    go_wp2_with fail
    refine (octP_any f 2 W1).mono ?_
    rintro e W2 ⟨rfl, hb2⟩
    have hI2 : Hid (NpJ w i f l a c W2) := hI1.out.step hb2
    clear hI1 c0 z0 c1 z1 c2 z2 hb2
    obtain ⟨⟨c0, z0⟩, ⟨c1, z1⟩, ⟨c2, z2⟩⟩ := hI2.out.1.cells
    have hMk := make_strs l.length hl W2
    obtain ⟨Wc, hWc⟩ : ∃ W, W2.alloc (.cells (madeCells #[.string ⟨#[]⟩] l.length) 9) = W := ⟨_, rfl⟩
    obtain ⟨Wd, hWd⟩ : ∃ W, Wc.alloc (.cells #[.string i, .slice (some ⟨W2.heap.size, 0, none⟩) l.length l.length, .string f] 24) = W := ⟨_, rfl⟩
    have nc : Wc.heap.size = W2.heap.size + 1 := by rw [← hWc]; simp
    have hK : Hid (NpK w i f l a c W2.heap.size 0 Wd) := npK_new hI2.out hWc hWd
    clear hI2
    obtain ⟨⟨d0, y0⟩, ⟨d1, y1⟩, ⟨d2, y2⟩⟩ := hK.out.1.cells
    rw [hWc] at hMk
    go_wp2_with fail
    obtain ⟨g, hg⟩ : ∃ g, W2.heap.size = g := ⟨_, rfl⟩
    rw [hg] at hK
    simp only [hg]
    clear hMk c0 z0 c1 z1 c2 z2 d0 y0 d1 y1 d2 y2 hWc hWd nc hg na nb e1 e2 e3
    go_loopw [61] (fun iv wr => ∃ (k : Nat), k ≤ l.length ∧ iv = .int .i64 (k : Int) ∧ Hid (NpK w i f l a c g k wr)) (fun iv _ => l.length - (intOf iv).toNat)
    case atStart => exact ⟨0, Nat.zero_le _, rfl, hK⟩
    case round =>
      obtain ⟨k, hk, rfl, hR⟩ := hrel
      clear hK
      by_cases hlt : k < l.length
      · obtain ⟨b, off, rfl, hc⟩ := (hR.out.2.2.2.2.2.2.1.below hR.out.2.2.2.1) k hlt
        have i0 : (0 : Int) ≤ (k : Int) := Int.natCast_nonneg _
        have i1 : (k : Int) < (l.length : Int) := Int.ofNat_lt.2 hlt
        go_wp2_with fail
        rw [mPiece]
        go_wp2_with fail
        refine (octP_any (S l[k]) 0 wr).mono ?_
        rintro e W3 ⟨rfl, hb3⟩
        have hR3 : Hid (NpK w i f l (some ⟨b, off, none⟩) c g k W3) := hR.out.step hb3
        clear hR hb3 hc
        obtain ⟨-, ⟨d1, y1⟩, -⟩ := hR3.out.2.1.cells
        have cn := World.rowIs.cell hR3.out.2.2.1 hlt
        have cz := World.rowIs.frozen hR3.out.2.2.1 k
        have hput : Hid (NpK w i f l (some ⟨b, off, none⟩) c g (k + 1) (W3.setCell ⟨g, k, none⟩ (.string (S l[k])))) := hR3.out.put hlt
        clear hR3
        go_wp2_with fail
        go_roundw
        case rel => exact ⟨k + 1, hlt, by simp, hput⟩
        case measure => simp [intOf]; omega
      · have i1 : ¬ (k : Int) < (l.length : Int) := by omega
        obtain ⟨⟨d0, y0⟩, ⟨d1, y1⟩, ⟨d2, y2⟩⟩ := hR.out.2.1.cells
        obtain ⟨⟨r0, q0⟩, ⟨r1, q1⟩, ⟨r2, q2⟩⟩ := hR.out.2.2.2.2.2.2.2.cells
        go_wp2_with fail
        have hke : k = l.length := by omega
        refine bodyPost_ret (results_cell_tmp rfl _ _ _ _ _ rfl (ld_pat (hR.out.2.2.2.2.2.2.2.whole (i' := i) (v' := .slice (some ⟨g, 0, none⟩) l.length l.length) (f' := f)))) rfl ?_
        exact npK_end hR.out hke
end Go.Proofs.YtohkmjaaigaemabGreat
