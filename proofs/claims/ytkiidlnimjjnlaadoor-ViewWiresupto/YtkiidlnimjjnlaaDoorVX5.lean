import Derived.Test.YtkiidlnimjjnlaaDoorVX4
import Derived.Test.YtkiidlnimjjnlaaDoorRows
import Derived.OpenShut
import Derived.ShutString
import Derived.Deep.Slices
namespace Go.Proofs.YtkiidlnimjjnlaaDoor
namespace Vr
open Go.RowKit
set_option linter.unusedVariables false

/-- A list of the call's own, with one more, of which the front is handed on. -/
theorem full_at {w : World} {B : Nat} {v : Value} {ks : List Ky} {x : Ky} (h : GOwn 25 3 kyV w B v (ks ++ [x])) : ∃ g c, v = .slice (some ⟨g, 0, none⟩) (ks.length + 1) c ∧ ks.length + 1 ≤ c ∧ c ≤ maxLen ∧ GRow 3 kyV w (some ⟨g, 0, none⟩) (ks ++ [x]) := by
  obtain ⟨a, c, rfl, h1, h2, h3⟩ := h.row kyV_len
  rcases owns_form h with ⟨e, h0⟩ | ⟨g, cap, e, _⟩
  · simp at h0
  · injection e with e1 e2 e3
    subst e1 e3
    rw [List.length_append, List.length_singleton] at h1 ⊢
    exact ⟨g, c, rfl, h1, h2, h3⟩
set_option maxRecDepth 100000 in
set_option maxHeartbeats 16000000 in
theorem viewWires_walk (gs : List Ky) (ga : Option Addr) (gc : Nat) (size : Int) (ck val : ByteArray) (w : World) (hg : GRow 3 kyV w ga gs) (hgn : gs.length ≤ 1048576) (hgz : ∀ k ∈ gs, k.1.size ≤ 1048576 ∧ k.2.1.size ≤ 1048576) (hwt : wts (kNs gs) ≤ 67108864) (hck : ck.size ≤ 1048576) (hv : val.size ≤ 1048576) (ht : RowTab w) :
    Calls Tryd.prog 3 #[.slice ga gs.length gc, .int .i64 size, .string ck, .string val] w fun e w' => e = .returned (.bool true) ∧ Below w.heap.size w w' := by
  have HG : Hid (GRow 3 kyV w ga gs ∧ gs.length ≤ 1048576 ∧ (∀ k ∈ gs, k.1.size ≤ 1048576 ∧ k.2.1.size ≤ 1048576) ∧ wts (kNs gs) ≤ 67108864 ∧ ck.size ≤ 1048576 ∧ val.size ≤ 1048576 ∧ RowTab w) := ⟨hg, hgn, hgz, hwt, hck, hv, ht⟩
  obtain ⟨n, hn0⟩ : ∃ n, gs.length = n := ⟨_, rfl⟩
  have hn : Hid (gs.length = n) := hn0
  have hn1 : n ≤ 1048576 := by omega
  rw [hn0]
  have C1 : Hid (∀ W, Below w.heap.size w W → Calls Tryd.prog 4 #[.slice ga n gc] W fun e w' => (∃ v, e = .returned v ∧ GOwn 25 3 kyV w' W.heap.size v gs) ∧ Below W.heap.size W w') := fun W hb => by rw [← hn.out]; exact keysCopy_any gs ga gc W (HG.out.1.below kyV_len hb) HG.out.2.1
  clear hg hgn hgz hwt hck hv ht hn0
  go_enter Tryd.func3, Tryd.ntmps3
  go_wp2_with fail
  refine (C1.out w (Below.refl _ _)).mono ?_
  rintro e w1 ⟨⟨v1, rfl, ho1⟩, hb1⟩
  obtain ⟨oa, oc, rfl, _, _, hr1⟩ := ho1.row kyV_len
  have H1 : Hid (GRow 3 kyV w1 oa gs ∧ Below w.heap.size w w1) := ⟨hr1, hb1⟩
  rw [hn.out]
  clear ho1 hr1 hb1
  go_wp2_with fail
  refine (C1.out w1 H1.out.2).mono ?_
  rintro e w2 ⟨⟨v2, rfl, ho2⟩, hb2⟩
  obtain ⟨w3, hw3⟩ : ∃ W, w2.alloc (.cells #[.string spB, .string ⟨#[]⟩, .bool false] 25) = W := ⟨_, rfl⟩
  have hb3 : Below w2.heap.size w2 w3 := by rw [← hw3]; exact (Below.refl _ _).alloc (Nat.le_refl _) _
  have hg3 : GRow 3 kyV w3 (some ⟨w2.heap.size, 0, none⟩) [(spB, ⟨#[]⟩, false)] := by rw [← hw3]; exact g_new kyV kyV_len w2 _ [(spB, ⟨#[]⟩, false)]
  obtain ⟨v4, w4, ra, ro, _, rb⟩ := append_gen KDk w3 w1.heap.size v2 gs [(spB, ⟨#[]⟩, false)] _ 1 1 (ho2.below hb3) hg3 rfl (Nat.le_trans hb2.size hb3.size) (by have := HG.out.2.1; simp; omega)
  obtain ⟨fb, fc, rfl, hfc, hfm, hfr⟩ := full_at ro
  rw [hn.out] at ra hfc
  obtain ⟨oa2, oc2, rfl, _⟩ := ho2.row kyV_len
  rw [hn.out] at ra
  have ra' : Hid ((Builtin.append_ #[22, 22] 22 #[.slice oa2 n oc2, .slice (some ⟨w2.heap.size, 0, none⟩) 1 1]).run Tryd.prog w3 = .ok (.slice (some ⟨fb, 0, none⟩) (n + 1) fc) w4) := ra
  have H4 : Hid (GRow 3 kyV w4 oa gs ∧ GRow 3 kyV w4 (some ⟨fb, 0, none⟩) (gs ++ [(spB, ⟨#[]⟩, false)]) ∧ Below w.heap.size w w4) := by
    have hb : Below w1.heap.size w1 w4 := (hb2.trans (hb3.mono hb2.size)).trans rb
    exact ⟨H1.out.1.below kyV_len hb, hfr, H1.out.2.trans (hb.mono H1.out.2.size)⟩
  rw [hn.out]
  have f1 : n ≤ fc := by omega
  have f2 : (n : Int) ≤ (fc : Int) := by omega
  clear C1 ho2 hb2 hb3 hg3 ra ro rb hfr H1
  go_upto_region 4 with (at_builtin; refine wp_app _ rfl _ _ _ rfl rfl _ _ _ _ rfl rfl ra'.out ?_; clear ra' hw3)
  have C4 : Hid (Calls Tryd.prog 5 #[.slice oa n oc] w4 fun e w' => (∃ x c, e = .returned (.tuple #[.string x, .int .i64 c]) ∧ EkR gs x c) ∧ Below w4.heap.size w4 w') := by
    have := rEncodeKeys_any gs oa oc w4 H4.out.1 HG.out.2.2.1 HG.out.2.1 HG.out.2.2.2.1 (tab_below HG.out.2.2.2.2.2.2 H4.out.2.2)
    rw [hn.out] at this
    refine this.mono ?_
    rintro e w' ⟨h, hb⟩
    exact ⟨ekR_of h, hb⟩
  have C5 : Hid (∀ W, Below w4.heap.size w4 W → Calls Tryd.prog 6 #[.slice (some ⟨fb, 0, none⟩) n fc] W fun e w' => (∃ x c, e = .returned (.tuple #[.string x, .int .i64 c]) ∧ EkR gs x c) ∧ Below W.heap.size W w') := fun W hb => by
    have := encodeKeys_any gs (some ⟨fb, 0, none⟩) fc W ((H4.out.2.1.front).below kyV_len hb) HG.out.2.2.1 HG.out.2.1 HG.out.2.2.2.1
    rw [hn.out] at this
    refine this.mono ?_
    rintro e w' ⟨h, hb⟩
    exact ⟨ekR_of h, hb⟩
  go_wp2_with fail
  refine C4.out.mono ?_
  rintro e w5 ⟨⟨x1, c1, rfl, hx1⟩, hb5⟩
  have H5 : Hid (Below w4.heap.size w4 w5 ∧ EkR gs x1 c1) := ⟨hb5, hx1⟩
  clear C4 hb5 hx1
  go_wp2_with fail
  refine (C5.out w5 H5.out.1).mono ?_
  rintro e w6 ⟨⟨x2, c2, rfl, hx2⟩, hb6⟩
  obtain ⟨rfl, rfl⟩ := ekR_one HG.out.2.2.2.1 H5.out.2 hx2
  have H6 : Hid (Below w4.heap.size w4 w6) := H5.out.1.trans (hb6.mono H5.out.1.size)
  have C6 : Hid (Calls Tryd.prog 7 #[.slice (some ⟨fb, 0, none⟩) n fc, .slice oa n oc] w6 fun r w' => r = .returned (.bool true) ∧ Below w6.heap.size w6 w') := by
    have := sameKeys_any gs (some ⟨fb, 0, none⟩) oa fc oc w6 (by have := HG.out.2.1; omega) ((H4.out.2.1.front).below kyV_len H6.out) (H4.out.1.below kyV_len H6.out)
    rw [hn.out] at this
    exact this
  clear C5 hb6 hx2 H5
  go_wp2_with fail
  refine C6.out.mono ?_
  rintro e w7 ⟨rfl, hb7⟩
  have H7 : Hid (Below w4.heap.size w4 w7) := H6.out.trans (hb7.mono H6.out.size)
  have s0 : w7.cell? ⟨fb, n * 3, none⟩ = some (.string spB) := by
    obtain ⟨b, o, e, q0, _⟩ := key_at (H4.out.2.1.below kyV_len H7.out) gs.length (by simp)
    injection e with e
    injection e with e1 e2
    subst e1 e2
    have hx : ((gs ++ [((spB, ⟨#[]⟩, false) : Ky)])[gs.length]'(by simp)) = (spB, ⟨#[]⟩, false) := by simp
    rw [hx, Nat.zero_add, hn.out] at q0
    exact q0
  have n0 : (0 : Int) ≤ (n : Int) := Int.natCast_nonneg _
  have n1 : (n : Int) < (n : Int) + 1 := by omega
  have HB7 : Hid (Below w.heap.size w w7) := H4.out.2.2.trans (H7.out.mono H4.out.2.2.size)
  clear C6 hb7 H6 H7 H4 f1 f2
  have hv : Hid (val.size ≤ 1048576 ∧ ck.size ≤ 1048576) := ⟨HG.out.2.2.2.2.2.1, HG.out.2.2.2.2.1⟩
  have C8 : Hid (Calls Tryd.prog 8 #[.string val] w7 fun e w' => (∃ v c, e = .returned (.tuple #[v, .int .i64 c]) ∧ DkR (dkP (trL val)) w7 v c w') ∧ Below w7.heap.size w7 w') := by
    refine (rDecodeKeys_any val (trL val) w7 (tab_below HG.out.2.2.2.2.2.2 HB7.out) (trL_body val hv.out.1) (Nat.le_trans (trL_len val) hv.out.1) (tree_r val hv.out.1)).mono ?_
    intro e w' h
    exact dkR_of h
  have C9 : Hid (∀ W, Calls Tryd.prog 9 #[.string val] W fun e w' => (∃ v c, e = .returned (.tuple #[v, .int .i64 c]) ∧ DkR (dkP (trL val)) W v c w') ∧ Below W.heap.size W w') := fun W => by
    refine (decodeKeys_gen val (trL val) W (trL_body val hv.out.1) (Nat.le_trans (trL_len val) hv.out.1) (tree_p val hv.out.1)).mono ?_
    intro e w' h
    exact dkR_of h
  have hdl : Hid (((dkP (trL val)).getD []).length ≤ 1048577) := dkP_len val hv.out.1
  generalize dkP (trL val) = R at C8 C9 hdl
  go_wp2_with fail
  refine C8.out.mono ?_
  rintro e w8 ⟨⟨v8, c8, rfl, hd8⟩, hb8⟩
  obtain ⟨ha8, hc8⟩ := hd8
  have hc8' : Hid (c8 = if R.isSome = true then 0 else 224) := hc8
  clear hc8
  obtain ⟨pa, pc, rfl, _, _, hp8⟩ := ha8.row kyV_len
  have H8 : Hid (GRow 3 kyV w8 pa (R.getD []) ∧ Below w.heap.size w w8) := ⟨hp8, HB7.out.trans (hb8.mono HB7.out.size)⟩
  clear C8 ha8 hp8 hb8 HB7 s0 n0 n1
  go_wp2_with fail
  refine (C9.out w8).mono ?_
  rintro e w9 ⟨⟨v9, c9, rfl, hd9⟩, hb9⟩
  obtain ⟨ha9, hc9⟩ := hd9
  obtain ⟨qa, qc, rfl, _, _, hp9⟩ := ha9.row kyV_len
  have hcc : c9 = c8 := by rw [hc8'.out, hc9]
  clear hc9 hc8'
  subst hcc
  have C10 : Hid (Calls Tryd.prog 7 #[.slice qa (R.getD []).length qc, .slice pa (R.getD []).length pc] w9 fun r w' => r = .returned (.bool true) ∧ Below w9.heap.size w9 w') := sameKeys_any _ qa pa qc pc w9 hdl.out hp9 (H8.out.1.below kyV_len hb9)
  have H9 : Hid (Below w.heap.size w w9) := H8.out.2.trans (hb9.mono H8.out.2.size)
  clear C9 ha9 hp9 hb9 hdl H8
  generalize (R.getD []).length = nr at *
  go_wp2_with fail
  refine C10.out.mono ?_
  rintro e w10 ⟨rfl, hb10⟩
  have H10 : Hid (Below w.heap.size w w10) := H9.out.trans (hb10.mono H9.out.size)
  have E1 : Hid (∀ W, Calls Tryd.prog 10 #[.int .i64 size, .string ck] W fun e w' => (∃ x c, e = .returned (.tuple #[.string x, .int .i64 c]) ∧ EpR size ck x c) ∧ Below W.heap.size W w') := fun W => rEncodePage_all size ck hv.out.2 W
  have E2 : Hid (∀ W, Calls Tryd.prog 11 #[.int .i64 size, .string ck] W fun e w' => (∃ x c, e = .returned (.tuple #[.string x, .int .i64 c]) ∧ EpR size ck x c) ∧ Below W.heap.size W w') := fun W => encodePage_all size ck hv.out.2 W
  clear C10 hb10 H9
  go_wp2_with fail
  refine (E1.out _).mono ?_
  rintro e w11 ⟨⟨x3, c3, rfl, hx3⟩, hb11⟩
  have H11 : Hid (Below w.heap.size w w11 ∧ EpR size ck x3 c3) := ⟨H10.out.trans (hb11.mono H10.out.size), hx3⟩
  clear E1 hb11 H10 hx3
  go_wp2_with fail
  refine (E2.out _).mono ?_
  rintro e w12 ⟨⟨x4, c4, rfl, hx4⟩, hb12⟩
  obtain ⟨rfl, rfl⟩ := epR_one hv.out.2 H11.out.2 hx4
  have H12 : Hid (Below w.heap.size w w12) := H11.out.1.trans (hb12.mono H11.out.1.size)
  have D1 : Hid (∀ W, Calls Tryd.prog 12 #[.string val] W fun e w' => e = .returned (.tuple #[.int .i64 (pdN (pgF (trL val))), .string (pdC (pgF (trL val))), .int .i64 (pdE (pgF (trL val)))]) ∧ Below W.heap.size W w') := fun W => by
    refine (rDecodePage_any val (trL val) W (Nat.le_trans (trL_len val) hv.out.1) (tree_r val hv.out.1)).mono ?_
    rintro e w' ⟨h, hb⟩
    exact ⟨pdR_of h, hb⟩
  have D2 : Hid (∀ W, Calls Tryd.prog 13 #[.string val] W fun e w' => e = .returned (.tuple #[.int .i64 (pdN (pgF (trL val))), .string (pdC (pgF (trL val))), .int .i64 (pdE (pgF (trL val)))]) ∧ Below W.heap.size W w') := fun W => by
    refine (decodePage_gen val (trL val) W (tree_p val hv.out.1)).mono ?_
    rintro e w' ⟨h, hb⟩
    exact ⟨pdR_of h, hb⟩
  generalize pdN (pgF (trL val)) = pn at D1 D2
  generalize pdC (pgF (trL val)) = pcb at D1 D2
  generalize pdE (pgF (trL val)) = pe at D1 D2
  clear E2 hb12 H11 hx4
  go_wp2_with fail
  refine (D1.out _).mono ?_
  rintro e w13 ⟨rfl, hb13⟩
  have H13 : Hid (Below w.heap.size w w13) := H12.out.trans (hb13.mono H12.out.size)
  clear D1 hb13 H12
  go_wp2_with fail
  refine (D2.out _).mono ?_
  rintro e w14 ⟨rfl, hb14⟩
  have H14 : Hid (Below w.heap.size w w14) := H13.out.trans (hb14.mono H13.out.size)
  have L1 : Hid (∀ W, Calls Tryd.prog 9 #[.string ⟨#[48, 129, 6, 48, 4, 4, 2, 99, 110]⟩] W fun e w' => (∃ v c, e = .returned (.tuple #[v, .int .i64 c]) ∧ DkR (some [(cnB, ⟨#[]⟩, false)]) W v c w') ∧ Below W.heap.size W w') := fun W => by
    have hs : oneV.size ≤ 1048576 := by decide
    refine (decodeKeys_gen oneV (trL oneV) W (trL_body oneV hs) (Nat.le_trans (trL_len oneV) hs) (tree_p oneV hs)).mono ?_
    intro e w' h
    rw [one_dk] at h
    exact dkR_of h
  clear D2 hb14 H13
  go_wp2_with fail
  refine (L1.out _).mono ?_
  rintro e w15 ⟨⟨v15, c15, rfl, ha15, hc15⟩, hb15⟩
  have hc0 : c15 = 0 := hc15
  subst hc0
  obtain ⟨ra, rc, rfl, _, _, hp15⟩ := ha15.row kyV_len
  obtain ⟨b, o, rfl, q0, _⟩ := key_at hp15 0 (by show 0 < 1; decide)
  have q1 : w15.cell? ⟨b, o, none⟩ = some (.string cnB) := q0
  have H15 : Hid (Below w.heap.size w w15) := H14.out.trans (hb15.mono H14.out.size)
  clear L1 hb15 H14 ha15 hp15 q0 hc15
  rw [show (Option.getD (some [((cnB, ⟨#[]⟩, false) : Ky)]) []).length = 1 from rfl]
  go_wp2_with fail
  go_ret
  exact ⟨rfl, H15.out⟩
end Vr
end Go.Proofs.YtkiidlnimjjnlaaDoor

namespace Go.Proofs.YtkiidlnimjjnlaaDoor
namespace Vr
open Go.RowKit Go.WideShapes
set_option linter.unusedVariables false
set_option linter.unusedSimpArgs false
set_option maxRecDepth 100000

theorem bulk_app {H : Type} (a b : List (DataW H)) : Rows.uptoBulkAll (a ++ b) = Rows.uptoBulkAll a + Rows.uptoBulkAll b := by
  induction a with
  | nil => simp [Rows.uptoBulkAll]
  | cons d a ih => simp only [List.cons_append, Rows.uptoBulkAll, ih]; omega
theorem bulk_sum {H : Type} (D : Nat → DataW H) (f : Nat → Nat) : ∀ l, (∀ i, i < l → f i ≤ Rows.uptoBulk (D i)) → ((List.range l).map f).sum ≤ Rows.uptoBulkAll ((List.range l).map D) := by
  intro l
  induction l with
  | zero => intro _; simp [Rows.uptoBulkAll]
  | succ l ih =>
    intro h
    have h1 := ih (fun i hi => h i (by omega))
    have h2 := h l (by omega)
    rw [List.range_succ, List.map_append, List.map_append, List.map_cons, List.map_nil, List.map_cons, List.map_nil, bulk_app, List.sum_append]
    simp [Rows.uptoBulkAll]
    omega

theorem rows_of {α : Type} (z0 : α) (V : α → List Value) (k : Nat) (P : α → Prop) (Z : α → Nat) {t ts : TypeId} (hund : Tryd.prog.underlying ts = some (.slice t)) (hcl : Tryd.prog.cellsOf t = k) (hk : 0 < k) (h0 : ∀ x, ∃ u, (V x)[0]? = some u)
    {H : Type} {enc : TypeId × Value → H} {w : World} {base : Nat} {spare : Nat → Bool} {held : Bool} {fuel : Nat} {v : Value} {d : DataW H} {p : List MemPlace}
    (elem : ∀ n cs d p, DataW.trod enc Tryd.prog w base spare held n t cs = some (d, p) → ∃ x, cs = V x ∧ P x ∧ Z x ≤ Rows.uptoBulk d)
    (hf : DataW.trod enc Tryd.prog w base spare held fuel ts [v] = some (d, p)) : ∃ a xs cap, v = .slice a xs.length cap ∧ GRow k V w a xs ∧ (∀ x ∈ xs, P x) ∧ (xs.map Z).sum + 1 ≤ Rows.uptoBulk d ∧ xs.length ≤ cap ∧ cap ≤ maxLen := by
  rcases Deep.open_slice hund hf with ⟨hcs, hx⟩ | ⟨x, l, c, m, n, D, Pl, hcs, _, hl, hcm, hm, hxd, hx⟩
  · simp at hcs
    subst hcs
    injection hx with hx _
    subst hx
    exact ⟨none, [], 0, rfl, GRow.nil _ _ _ _, fun x hx => by simp at hx, by simp [Rows.uptoBulk], Nat.le_refl _, by unfold maxLen; omega⟩
  · simp at hcs
    subst hcs
    rw [hcl] at hx
    have key : ∀ i, i < l → ∃ q : α, (∀ j, j < k → w.cell? ((x.add (i * k)).add j) = (V q)[j]?) ∧ P q ∧ Z q ≤ Rows.uptoBulk (D i) := fun i hi => by
      have him : i < m := by rw [hm]; split <;> omega
      obtain ⟨cs', h1, h2⟩ := hx i him
      obtain ⟨q, rfl, hr, hb⟩ := elem _ _ _ _ h2
      obtain ⟨_, _, h3⟩ := World.cells?_some h1
      exact ⟨q, h3, hr, hb⟩
    haveI : Inhabited α := ⟨z0⟩
    obtain ⟨Q, hQ⟩ := Deep.choose_lt key
    injection hxd with hxd _
    have hle : Rows.uptoBulkAll ((List.range l).map D) + 1 ≤ Rows.uptoBulk d := by
      rw [hxd]
      simp only [Rows.uptoBulk]
      omega
    have hs := bulk_sum D (fun i => Z (Q i)) l (fun i hi => (hQ i hi).2.2)
    refine ⟨some x, (List.range l).map Q, c, by simp, fun i hi => ?_, fun z hz => ?_, ?_, by simpa using hl, hcm⟩
    · have hi' : i < l := by simpa using hi
      obtain ⟨h1, _, _⟩ := hQ i hi'
      obtain ⟨b, off, spot⟩ := x
      have hspot : spot = none := by
        have h2 := (hQ 0 (by omega)).1 0 hk
        obtain ⟨u, hu⟩ := h0 (Q 0)
        rw [hu] at h2
        have := World.cell?_spot h2
        simpa [Addr.add] using this
      subst hspot
      have e : ((List.range l).map Q)[i] = Q i := by simp
      rw [e]
      refine ⟨b, off, rfl, fun j hj => ?_⟩
      have := h1 j hj
      rw [add_o, add_o] at this
      exact this
    · obtain ⟨i, hi, rfl⟩ := List.mem_map.1 hz
      have hi' : i < l := by simpa using hi
      exact (hQ i hi').2.1
    · rw [List.map_map]
      have e : (Z ∘ Q) = fun i => Z (Q i) := rfl
      rw [e]
      omega

/-- A key's weight. -/
def kz (k : Ky) : Nat := k.1.size + k.2.1.size + 1
set_option maxHeartbeats 1000000 in
theorem sk_up {H : Type} {enc : TypeId × Value → H} {w : World} {base : Nat} {spare : Nat → Bool} {held : Bool} {n : Nat} {cs : List Value} {d : DataW H} {p : List MemPlace}
    (h : DataW.trod enc Tryd.prog w base spare held n 25 cs = some (d, p)) : ∃ x : Ky, cs = kyV x ∧ True ∧ kz x ≤ Rows.uptoBulk d := by
  obtain ⟨xs, n', rfl, hx, hl, hxl, hfi⟩ := DataW.trod_struct Tryd.underlying25 h
  have e2 : Tryd.prog.cellsOf 25 = 3 := by kernel_rfl
  rw [e2] at hl
  match cs, hl with
  | [x0, x1, x2], _ =>
    match xs, hxl with
    | [y0, y1, y2], _ =>
      have g0 := hfi 0 _ rfl
      have g1 := hfi 1 _ rfl
      have g2 := hfi 2 _ rfl
      have z0 : Tryd.prog.cellsOf 9 = 1 := by kernel_rfl
      have z1 : Tryd.prog.cellsOf 4 = 1 := by kernel_rfl
      simp [z0, z1] at g0
      simp [z0, z1] at g1
      simp [z0, z1] at g2
      obtain ⟨s0, k0, j0, _⟩ := DataW.trod_string Tryd.underlying9 g0
      obtain ⟨s1, k1, j1, _⟩ := DataW.trod_string Tryd.underlying9 g1
      obtain ⟨b2, k2, j2, _⟩ := DataW.trod_bool Tryd.underlying4 g2
      simp at k0 k1 k2
      subst k0 k1 k2
      refine ⟨(s0, s1, b2), rfl, trivial, ?_⟩
      injection hx with hx _
      rw [hx, j0, j1]
      simp [Rows.uptoBulk, Rows.uptoBulkAll, kz, size_l]
      omega
theorem wts_kz (k : Ky) : wts (kN k) ≤ 25 * kz k := by
  have e : kN k = [nSeq 2, nOct 3 k.1] ++ (kR k.2.1 ++ kV k.2.2) := rfl
  have a1 : wts (kR k.2.1) ≤ k.2.1.size + 6 := by
    unfold kR
    split
    · simp [wts]
    · simp [wts]
  have a2 : wts (kV k.2.2) ≤ 7 := by
    unfold kV
    split
    · exact Nat.le_of_eq rfl
    · simp [wts]
  have a3 : wts [nSeq 2, nOct 3 k.1] = 0 + 6 + (k.1.size + 6) := rfl
  rw [e, wts_app, wts_app, a3]
  unfold kz
  omega
theorem kz_all : ∀ (xs : List Ky), xs.length ≤ (xs.map kz).sum ∧ (∀ k ∈ xs, k.1.size ≤ (xs.map kz).sum ∧ k.2.1.size ≤ (xs.map kz).sum) ∧ wts (xs.flatMap kN) ≤ 25 * (xs.map kz).sum
  | [] => ⟨Nat.le_refl _, fun k hk => by simp at hk, Nat.le_refl _⟩
  | x :: xs => by
    obtain ⟨h1, h2, h3⟩ := kz_all xs
    have h4 := wts_kz x
    have h5 : kz x = x.1.size + x.2.1.size + 1 := rfl
    rw [List.map_cons, List.sum_cons, List.flatMap_cons, wts_app, List.length_cons]
    refine ⟨by omega, fun k hk => ?_, by omega⟩
    rcases List.mem_cons.1 hk with rfl | hk
    · omega
    · have := h2 k hk
      omega
theorem keys_up {H : Type} {enc : TypeId × Value → H} {w : World} {base : Nat} {spare : Nat → Bool} {held : Bool} {v : Value} {d : DataW H} {p : List MemPlace}
    (hf : DataW.Trod enc Tryd.prog w base spare held 22 v d p) (hv1 : v.cells = #[v]) (hb : Rows.uptoBulk d ≤ 1048576) : ∃ a xs cap, v = .slice a xs.length cap ∧ GRow 3 kyV w a xs ∧ xs.length ≤ 1048576 ∧ (∀ k ∈ xs, k.1.size ≤ 1048576 ∧ k.2.1.size ≤ 1048576) ∧ wts (kNs xs) ≤ 67108864 := by
  obtain ⟨fuel, hf⟩ := hf
  rw [hv1] at hf
  obtain ⟨a, xs, c, e, h1, _, h3, _⟩ := rows_of ((⟨#[]⟩, ⟨#[]⟩, false) : Ky) kyV 3 (fun x => True) kz Tryd.underlying22 (by kernel_rfl) (by decide) (fun x => ⟨_, rfl⟩) (fun n cs d p h => sk_up h) hf
  obtain ⟨k1, k2, k3⟩ := kz_all xs
  refine ⟨a, xs, c, e, h1, by omega, fun k hk => by have := k2 k hk; omega, ?_⟩
  have e1 : kNs xs = [nSeq 1] ++ xs.flatMap kN := rfl
  have e2 : wts [nSeq 1] = 6 := rfl
  rw [e1, wts_app, e2]
  omega
end Vr
end Go.Proofs.YtkiidlnimjjnlaaDoor
