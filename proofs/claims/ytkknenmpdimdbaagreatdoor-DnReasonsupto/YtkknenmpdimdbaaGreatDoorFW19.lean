import Derived.Test.YtkknenmpdimdbaaGreatDoorFW18
import Derived.Test.YtkknenmpdimdbaaGreatDoorCards
import Derived.ProofKit
import Derived.OpenShut
import Derived.Lib.LaidTab
import Derived.Test.YtkknenmpdimdbaaGreatDoorFW4
import Derived.Stop.LaidTwo
import Derived.LaidHandle
import Derived.Stop.LaidErr
import Derived.MakeChecks
import Derived.LaidSub
import Derived.Test.YtkknenmpdimdbaaGreatDoorRows
import Derived.ShutString
import Derived.Deep.Slices
import Derived.OrdersHeld
import Derived.OrdersIn
import Derived.RangeFuncCalls
import Derived.Deep.RegionHeld3
import Derived.WalkKit
namespace Go.Proofs.YtkknenmpdimdbaaGreatDoor
open Go.RowKit
theorem gRows : Tryz.prog.globalNamed "roster/rosterref01.rows" = some 10 := by kernel_rfl
theorem gRowsType : (Tryz.prog.globals[10]?).map (·.type) = some 146 := by kernel_rfl
theorem cRowType : Tryz.prog.cellsOf 145 = 9 := by kernel_rfl
theorem cInt : Tryz.prog.cellsOf 3 = 1 := by kernel_rfl
theorem R_at (i c : Nat) (hi : i < 9) : ∃ z, ROWS[i]? = some z ∧ R i c = z.getD c 0 := by
 have h : i < ROWS.length := hi
 refine ⟨ROWS[i], by simp [h], ?_⟩
 unfold R
 simp [List.getD, h]
theorem rows_len : ∀ z ∈ ROWS, z.length = 9 := by decide
theorem tab_rows {W : World} {rest : List (String × DataW Unit)} (h : laidMet Tryz.prog (("roster/rosterref01.rows", Rows.laid_roster_rosterref01_rows) :: rest) W) : RowTab W := by
 obtain ⟨ps, ⟨g', t', cs, fuel, p, q, hg', ht', hvar, hd, _, _⟩, _⟩ := h
 obtain rfl := Option.some.inj (gRows.symm.trans hg')
 obtain rfl := Option.some.inj (gRowsType.symm.trans ht')
 have hd' : DataW.trod _ Tryz.prog W _ _ _ fuel 146 cs.toList = some (.agg (ROWS.map (Lib.tabData .i64)), p) := hd
 obtain ⟨xs, m, rfl, hx, hlen, hxl, hall⟩ := DataW.trod_array Tryz.underlying146 hd'
 intro r c hr hc
 have hr1 := hall r hr
 rw [cRowType] at hr1
 have hxs : xs.map (·.1) = ROWS.map (Lib.tabData .i64) := by
  have := congrArg Prod.fst hx
  simpa using this.symm
 obtain ⟨z, hz, hRz⟩ := R_at r c hr
 have hxr : (xs.map (·.1))[r]? = some (Lib.tabData .i64 z) := by rw [hxs]; simp [hz]
 simp only [List.getElem?_map, Option.map_eq_some_iff] at hxr
 obtain ⟨y, hy, hyz⟩ := hxr
 rw [hy] at hr1
 obtain ⟨y1, y2⟩ := y
 simp only [] at hyz
 subst hyz
 have hcs := Lib.cells_of_tab Tryz.underlying145 Tryz.underlying3 cInt cRowType hr1
 have hzl : z.length = 9 := rows_len z (List.mem_of_getElem? hz)
 have hcell : cs[r * 9 + c]? = some (.int .i64 (z.getD c 0)) := by
  have := congrArg (·[c]?) hcs
  simp only [List.getElem?_take, List.getElem?_drop, List.getElem?_map] at this
  rw [if_pos hc] at this
  have hzc : z[c]? = some (z.getD c 0) := by simp [List.getD, hzl, hc]
  rw [hzc] at this
  simpa using this
 have := World.var?_cell gRows hvar (r * 9 + c)
 rw [this, hcell, hRz]
end Go.Proofs.YtkknenmpdimdbaaGreatDoor

namespace Go.Proofs.YtkknenmpdimdbaaGreatDoor
namespace Ke
open Go.RowKit Go.WideShapes Go.ChangeShapes
open Du (PRow DRow PX GRow sd pV xV pV_len xV_len add_o)
set_option linter.unusedVariables false
set_option linter.unusedSimpArgs false
set_option maxRecDepth 100000
theorem bulk_app {H : Type} (a b : List (DataW H)) : Rows.uptoBulkAll (a ++ b) = Rows.uptoBulkAll a + Rows.uptoBulkAll b := by
 induction a with
 | nil => simp [Rows.uptoBulkAll]
 | cons d a ih => simp only [List.cons_append, Rows.uptoBulkAll, ih]; omega
theorem bulk_sum {H : Type} (D : Nat → DataW H) (f : Nat → Nat) : ∀ l, (∀ i, i < l → f i ≤ Rows.uptoBulk (D i)) → ((List.range l).map f).sum ≤ Rows.uptoBulkAll ((List.range l).map D) := by
 intro l
 induction l with
 | zero => intro _; simp [Rows.uptoBulkAll]
 | succ l ih =>
  intro h
  have h1 := ih (fun i hi => h i (by omega))
  have h2 := h l (by omega)
  rw [List.range_succ, List.map_append, List.map_append, List.map_cons, List.map_nil, List.map_cons, List.map_nil, bulk_app, List.sum_append]
  simp [Rows.uptoBulkAll]
  omega
theorem rows_of {α : Type} (z0 : α) (V : α → List Value) (k : Nat) (P : α → Prop) (Z : α → Nat) {t ts : TypeId} (hund : Tryz.prog.underlying ts = some (.slice t)) (hcl : Tryz.prog.cellsOf t = k) (hk : 0 < k) (h0 : ∀ x, ∃ u, (V x)[0]? = some u)
  {H : Type} {enc : TypeId × Value → H} {w : World} {base : Nat} {spare : Nat → Bool} {held : Bool} {fuel : Nat} {v : Value} {d : DataW H} {p : List MemPlace}
  (elem : ∀ n cs d p, DataW.trod enc Tryz.prog w base spare held n t cs = some (d, p) → ∃ x, cs = V x ∧ P x ∧ Z x ≤ Rows.uptoBulk d)
  (hf : DataW.trod enc Tryz.prog w base spare held fuel ts [v] = some (d, p)) : ∃ a xs cap, v = .slice a xs.length cap ∧ GRow k V w a xs ∧ (∀ x ∈ xs, P x) ∧ (xs.map Z).sum + 1 ≤ Rows.uptoBulk d ∧ xs.length ≤ cap ∧ cap ≤ maxLen := by
 rcases Deep.open_slice hund hf with ⟨hcs, hx⟩ | ⟨x, l, c, m, n, D, Pl, hcs, _, hl, hcm, hm, hxd, hx⟩
 ·simp at hcs
  subst hcs
  injection hx with hx _
  subst hx
  exact ⟨none, [], 0, rfl, Du.GRow.nil _ _ _ _, fun x hx => by simp at hx, by simp [Rows.uptoBulk], Nat.le_refl _, by unfold maxLen; omega⟩
 ·simp at hcs
  subst hcs
  rw [hcl] at hx
  have key : ∀ i, i < l → ∃ q : α, (∀ j, j < k → w.cell? ((x.add (i * k)).add j) = (V q)[j]?) ∧ P q ∧ Z q ≤ Rows.uptoBulk (D i) := fun i hi => by
   have him : i < m := by rw [hm]; split <;> omega
   obtain ⟨cs', h1, h2⟩ := hx i him
   obtain ⟨q, rfl, hr, hb⟩ := elem _ _ _ _ h2
   obtain ⟨_, _, h3⟩ := World.cells?_some h1
   exact ⟨q, h3, hr, hb⟩
  haveI : Inhabited α := ⟨z0⟩
  obtain ⟨Q, hQ⟩ := Deep.choose_lt key
  injection hxd with hxd _
  have hle : Rows.uptoBulkAll ((List.range l).map D) + 1 ≤ Rows.uptoBulk d := by
   rw [hxd]
   simp only [Rows.uptoBulk]
   omega
  have hs := bulk_sum D (fun i => Z (Q i)) l (fun i hi => (hQ i hi).2.2)
  refine ⟨some x, (List.range l).map Q, c, by simp, fun i hi => ?_, fun z hz => ?_, ?_, by simpa using hl, hcm⟩
  ·have hi' : i < l := by simpa using hi
   obtain ⟨h1, _, _⟩ := hQ i hi'
   obtain ⟨b, off, spot⟩ := x
   have hspot : spot = none := by
    have h2 := (hQ 0 (by omega)).1 0 hk
    obtain ⟨u, hu⟩ := h0 (Q 0)
    rw [hu] at h2
    have := World.cell?_spot h2
    simpa [Addr.add] using this
   subst hspot
   have e : ((List.range l).map Q)[i] = Q i := by simp
   rw [e]
   refine ⟨b, off, rfl, fun j hj => ?_⟩
   have := h1 j hj
   rw [add_o, add_o] at this
   exact this
  ·obtain ⟨i, hi, rfl⟩ := List.mem_map.1 hz
   have hi' : i < l := by simpa using hi
   exact (hQ i hi').2.1
  ·rw [List.map_map]
   have e : (Z ∘ Q) = fun i => Z (Q i) := rfl
   rw [e]
   omega
theorem ava_of {H : Type} {enc : TypeId × Value → H} {w : World} {base : Nat} {spare : Nat → Bool} {held : Bool} {n : Nat} {cs : List Value} {d : DataW H} {p : List MemPlace}
  (h : DataW.trod enc Tryz.prog w base spare held n 64 cs = some (d, p)) : ∃ x : PR, cs = pV x ∧ True ∧ x.1.length + x.2.length + 1 ≤ Rows.uptoBulk d := by
 obtain ⟨xs, n', rfl, hx, hl, hxl, hfi⟩ := DataW.trod_struct Tryz.underlying64 h
 have e2 : Tryz.prog.cellsOf 64 = 2 := by kernel_rfl
 rw [e2] at hl
 match cs, hl with
 | [x0, x1], _ =>
  match xs, hxl with
  | [y0, y1], _ =>
   have g0 := hfi 0 _ rfl
   have g1 := hfi 1 _ rfl
   have z1 : Tryz.prog.cellsOf 9 = 1 := by kernel_rfl
   simp [z1] at g0
   simp [z1] at g1
   obtain ⟨f, hf, hf2, _⟩ := DataW.trod_string Tryz.underlying9 g0
   obtain ⟨s, hs, hs2, _⟩ := DataW.trod_string Tryz.underlying9 g1
   simp at hf hs
   refine ⟨(f.data.toList, s.data.toList), ?_, trivial, ?_⟩
   ·rw [hf, hs]
    simp [pV, S_of]
   ·injection hx with hx _
    rw [hx]
    simp only [Rows.uptoBulk, Rows.uptoBulkAll, List.map_cons, List.map_nil, hf2, hs2]
    omega
def zP (p : PR) : Nat := p.1.length + p.2.length + 1
def zR (x : PX) : Nat := (x.2.2.map zP).sum + 1
theorem rdn_of {H : Type} {enc : TypeId × Value → H} {w : World} {base : Nat} {spare : Nat → Bool} {held : Bool} {n : Nat} {cs : List Value} {d : DataW H} {p : List MemPlace}
  (h : DataW.trod enc Tryz.prog w base spare held n 57 cs = some (d, p)) : ∃ x : PX, cs = xV x ∧ (PRow w x.1 x.2.2 ∧ x.2.2.length ≤ x.2.1 ∧ x.2.1 ≤ maxLen) ∧ zR x ≤ Rows.uptoBulk d := by
 have e3 : Tryz.prog.cellsOf 64 = 2 := by kernel_rfl
 obtain ⟨v, rfl⟩ : ∃ v, cs = [v] := by
  rcases Deep.open_slice Tryz.underlying57 h with ⟨hcs, _⟩ | ⟨x, l, c, m, n, D, Pl, hcs, _⟩
  ·exact ⟨_, hcs⟩
  ·exact ⟨_, hcs⟩
 obtain ⟨a, l, cap, hv, hr, _, hb, hc, hm⟩ := rows_of (([], []) : PR) pV 2 (fun _ => True) zP Tryz.underlying57 e3 (by decide) (fun x => ⟨_, rfl⟩) (d := d) (p := p) (fun n cs d p h => ava_of h) h
 exact ⟨(a, cap, l), by rw [hv]; rfl, ⟨hr, hc, hm⟩, hb⟩
theorem sum_mem {α : Type} (f : α → Nat) : ∀ (l : List α), (∀ x ∈ l, f x ≤ (l.map f).sum)
 | [], x, h => by simp at h
 | y :: l, x, h => by
  simp only [List.map_cons, List.sum_cons]
  rcases List.mem_cons.1 h with e | e
  ·subst e; omega
  ·have := sum_mem f l x e; omega
theorem sum_len {α : Type} (f : α → Nat) (hf : ∀ x, 1 ≤ f x) : ∀ (l : List α), l.length ≤ (l.map f).sum
 | [] => Nat.le_refl _
 | y :: l => by
  have := sum_len f hf l
  have := hf y
  simp only [List.map_cons, List.sum_cons, List.length_cons]
  omega
theorem dW_bulk : ∀ L : List PX, dW (sd L) ≤ 3 * (L.map zR).sum
 | [] => Nat.le_refl _
 | r :: L => by
  have ih := dW_bulk L
  have h1 : ∀ l : List PR, (l.map ptW).sum ≤ 3 * (l.map zP).sum := fun l => by
   induction l with
   | nil => simp
   | cons p l ih =>
    have e1 : ptW p = p.1.length + 3 * p.2.length + 2 := rfl
    have e2 : zP p = p.1.length + p.2.length + 1 := rfl
    simp only [List.map_cons, List.sum_cons]
    omega
  have h2 := h1 r.2.2
  have e1 : dW (sd (r :: L)) = ((r.2.2.map ptW).sum + 1) + dW (sd L) := by unfold dW sd; simp only [List.map_cons, List.sum_cons]; rfl
  have e2 : zR r = (r.2.2.map zP).sum + 1 := rfl
  rw [e1]
  simp only [List.map_cons, List.sum_cons]
  omega
def Sz5 (L : List PX) : Prop := (∀ r ∈ L, ∀ p ∈ r.2.2, p.1.length + p.2.length ≤ 4194300) ∧ (∀ r ∈ L, r.2.2.length ≤ 1073741824) ∧ L.length ≤ 1073741824 ∧ dW (sd L) ≤ 900000000000
theorem dn_of {H : Type} {enc : TypeId × Value → H} {w : World} {base : Nat} {spare : Nat → Bool} {held : Bool} {v : Value} {d : DataW H} {p : List MemPlace}
  (hf : DataW.Trod enc Tryz.prog w base spare held 23 v d p) (hv1 : v.cells = #[v]) (hB : Rows.uptoBulk d ≤ 1048576) : ∃ a L cap, v = .slice a L.length cap ∧ DRow w a L ∧ Sz5 L ∧ L.length ≤ cap ∧ cap ≤ maxLen := by
 obtain ⟨fuel, hf⟩ := hf
 rw [hv1] at hf
 have e3 : Tryz.prog.cellsOf 57 = 1 := by kernel_rfl
 obtain ⟨a, L, cap, hv, hr, hP, hb, hc, hm⟩ := rows_of ((none, 0, []) : PX) xV 1 (fun x => PRow w x.1 x.2.2 ∧ x.2.2.length ≤ x.2.1 ∧ x.2.1 ≤ maxLen) zR Tryz.underlying23 e3 (by decide) (fun x => ⟨_, rfl⟩) (d := d) (p := p) (fun n cs d p h => rdn_of h) hf
 refine ⟨a, L, cap, hv, ⟨hr, hP⟩, ⟨fun r hr p hp => ?_, fun r hr => ?_, ?_, ?_⟩, hc, hm⟩
 ·have h1 := sum_mem zR L r hr
  have h2 := sum_mem zP r.2.2 p hp
  have h3 : zR r = (r.2.2.map zP).sum + 1 := rfl
  have h4 : zP p = p.1.length + p.2.length + 1 := rfl
  omega
 ·have h1 := sum_mem zR L r hr
  have h2 := sum_len zP (fun _ => by unfold zP; omega) r.2.2
  have h3 : zR r = (r.2.2.map zP).sum + 1 := rfl
  omega
 ·have h2 := sum_len zR (fun x => by unfold zR; omega) L
  omega
 ·have h2 := dW_bulk L
  omega
theorem etG : Tryz.prog.globalNamed "errors.errorType" = some 11 := by kernel_rfl
theorem rtT : (Tryz.prog.cutTypes.find? (·.1 == "internal/reflectlite.rtype")).map (·.2) = some 155 := by kernel_rfl
theorem oneRow : ((List.range Tryz.prog.types.size).filter fun t => Tryz.prog.rowNamed t [101, 114, 114, 111, 114]) = [32] := by kernel_rfl
theorem errT_of {W : World} (h : handlesMet Tryz.prog [("errors.errorType", Rows.laid_errors_errorType)] W) : ErrT W := by
 obtain ⟨name, u, ty, e1, e2, e3, e4, e5⟩ := h _ (List.mem_singleton.2 rfl)
 have en : name = [101, 114, 114, 111, 114] := (Option.some.inj e1).symm
 subst en
 obtain rfl := Option.some.inj (rtT.symm.trans e2)
 have hm : ty ∈ (List.range Tryz.prog.types.size).filter fun t => Tryz.prog.rowNamed t [101, 114, 114, 111, 114] := List.mem_filter.2 ⟨List.mem_range.2 e3, e4⟩
 rw [oneRow] at hm
 obtain rfl := List.mem_singleton.1 hm
 have hh : typeHandle Tryz.prog 32 = .pointer (some ⟨13, 32, none⟩) := by kernel_rfl
 rw [hh] at e5
 unfold ErrT
 simpa using World.var?_cell etG e5 0
theorem vars_sub {P : Program} {w : World} : ∀ {l' l : List (String × DataW Unit)}, l'.Sublist l → ∀ {ps : List MemPlace}, DataW.LaidVars P w l ps → ∃ ps', DataW.LaidVars P w l' ps' ∧ ps'.Sublist ps := by
 intro l' l hs
 induction hs with
 | slnil => exact fun {ps} h => ⟨ps, h, List.Sublist.refl _⟩
 | cons a _ ih =>
  intro ps h
  obtain ⟨n, d⟩ := a
  obtain ⟨g, t, cs, fuel, p, q, e1, e2, e3, e4, hr, rfl⟩ := h
  obtain ⟨q', hq, hs⟩ := ih hr
  exact ⟨q', hq, hs.trans (List.sublist_append_right _ _)⟩
 | cons_cons a _ ih =>
  intro ps h
  obtain ⟨n, d⟩ := a
  obtain ⟨g, t, cs, fuel, p, q, e1, e2, e3, e4, hr, rfl⟩ := h
  obtain ⟨q', hq, hs⟩ := ih hr
  exact ⟨_, ⟨g, t, cs, fuel, p, q', e1, e2, e3, e4, hq, rfl⟩, List.Sublist.append (List.Sublist.refl _) hs⟩
theorem laid_sub {P : Program} {w : World} {l' l : List (String × DataW Unit)} (hs : l'.Sublist l) (h : laidMet P l w) : laidMet P l' w := by
 obtain ⟨ps, hl, hnd, hrows⟩ := h
 obtain ⟨ps', hl', hs'⟩ := vars_sub hs hl
 exact ⟨ps', hl', hnd.sublist hs', fun b off hp => hrows b off (hs'.subset hp)⟩
theorem two_sub {α : Type} (l : List α) (i j : Nat) (hij : i < j) (hj : j < l.length) : List.Sublist [l[i]'(by omega), l[j]] l := by
 have e : l.drop i = l[i]'(by omega) :: l.drop (i + 1) := List.drop_eq_getElem_cons (by omega)
 have hm : l[j] ∈ l.drop (i + 1) := by
  have : l[j] = (l.drop (i + 1))[j - (i + 1)]'(by rw [List.length_drop]; omega) := by
   rw [List.getElem_drop]
   congr 1
   omega
  rw [this]
  exact List.getElem_mem _
 have h1 : List.Sublist [l[i]'(by omega), l[j]] (l.drop i) := by
  rw [e]
  exact (List.singleton_sublist.2 hm).cons_cons _
 exact h1.trans (List.drop_sublist _ _)
def snt (x : String × List UInt8 × Nat) : String × DataW Unit := (x.1, .iface "*errors.errorString" (.ptr (.agg [.lit (.string x.2.1)])))
theorem es_star : "*" ++ "errors.errorString" = "*errors.errorString" := by decide
theorem row_es (u : TypeId) (h : Tryz.prog.typeName? 3 u = some "*errors.errorString") : u = 256 :=
 typeName_ptr_named (nm := "errors.errorString") (by rw [es_star]; kernel_rfl) (by kernel_rfl) (by decide) u (by rw [es_star]; exact h)
theorem c_es : Tryz.prog.cellsOf 274 = 1 := by kernel_rfl
theorem c_st : Tryz.prog.cellsOf 9 = 1 := by kernel_rfl
theorem two_of {x y : String × List UInt8 × Nat} {W : World} (h : laidMet Tryz.prog [snt x, snt y] W)
  (hx : Tryz.prog.globalNamed x.1 = some x.2.2 ∧ (Tryz.prog.globals[x.2.2]?).map (·.type) = some 32) (hy : Tryz.prog.globalNamed y.1 = some y.2.2 ∧ (Tryz.prog.globals[y.2.2]?).map (·.type) = some 32) :
  ∃ a b : Addr, W.cell? ⟨x.2.2, 0, none⟩ = some (.iface 256 (.pointer (some a))) ∧ W.cell? ⟨y.2.2, 0, none⟩ = some (.iface 256 (.pointer (some b))) ∧ a ≠ b ∧ (∃ c t, W.heap[a.block]? = some (.cells c t (0, 0))) ∧ ∃ c t, W.heap[b.block]? = some (.cells c t (0, 0)) := by
 obtain ⟨a, b, s0, s1, c0, c1, t0, t1, h1, h2, _, _, _, _, _, _, h3, h4, h5⟩ := laid_sentinels2 h hx.1 hx.2 hy.1 hy.2 Tryz.underlying32 row_es Tryz.underlying256 Tryz.underlying274 rfl rfl Tryz.underlying9 c_es c_st
 exact ⟨a, b, by simpa using World.var?_cell hx.1 h1 0, by simpa using World.var?_cell hy.1 h2 0, h3, ⟨c0, t0, h4⟩, ⟨c1, t1, h5⟩⟩
def XS : List (String × List UInt8 × Nat) := [("roster/dn.ErrLong", [110, 97, 109, 101, 32, 116, 111, 111, 32, 108, 111, 110, 103], 0), ("roster/dn.ErrUTF8", [110, 111, 32, 85, 84, 70, 45, 56], 1), ("roster/dn.ErrType", [110, 111, 32, 97, 116, 116, 114, 105, 98, 117, 116, 101, 32, 116, 121, 112, 101], 2), ("roster/dn.ErrEquals", [110, 111, 32, 101, 113, 117, 97, 108, 115, 32, 115, 105, 103, 110], 3), ("roster/dn.ErrEscape", [110, 111, 116, 104, 105, 110, 103, 32, 114, 105, 103, 104, 116, 32, 98, 101, 104, 105, 110, 100, 32, 97, 32, 98, 97, 99, 107, 115, 108, 97, 115, 104], 4), ("roster/dn.ErrChar", [97, 32, 98, 121, 116, 101, 32, 116, 104, 97, 116, 32, 109, 117, 115, 116, 32, 98, 101, 32, 101, 115, 99, 97, 112, 101, 100], 5), ("roster/dn.ErrHex", [110, 111, 32, 104, 101, 120, 32, 118, 97, 108, 117, 101], 6), ("roster/dn.ErrTwice", [97, 32, 116, 121, 112, 101, 32, 116, 119, 105, 99, 101, 32, 105, 110, 32, 97, 32, 112, 97, 114, 116], 7), ("roster/dn.ErrWide", [116, 111, 111, 32, 109, 97, 110, 121, 32, 112, 97, 114, 116, 115, 32, 111, 114, 32, 112, 97, 105, 114, 115], 8), ("roster/dn.ErrMade", [97, 32, 110, 97, 109, 101, 32, 116, 104, 97, 116, 32, 110, 111, 32, 116, 101, 120, 116, 32, 109, 101, 97, 110, 115], 9)]
theorem xs_glob : ∀ x ∈ XS, Tryz.prog.globalNamed x.1 = some x.2.2 ∧ (Tryz.prog.globals[x.2.2]?).map (·.type) = some 32 := by
 intro x hx
 simp only [XS, List.mem_cons, List.mem_nil_iff, or_false] at hx
 rcases hx with rfl | rfl | rfl | rfl | rfl | rfl | rfl | rfl | rfl | rfl <;> exact ⟨by kernel_rfl, by kernel_rfl⟩
theorem pair_of {W : World} (h : laidMet Tryz.prog (XS.map snt) W) (i j : Fin 10) (hij : i < j) :
  ∃ a b : Addr, W.cell? ⟨(XS[i.val]'i.isLt).2.2, 0, none⟩ = some (.iface 256 (.pointer (some a))) ∧ W.cell? ⟨(XS[j.val]'j.isLt).2.2, 0, none⟩ = some (.iface 256 (.pointer (some b))) ∧ a ≠ b ∧ (∃ c t, W.heap[a.block]? = some (.cells c t (0, 0))) ∧ ∃ c t, W.heap[b.block]? = some (.cells c t (0, 0)) := by
 have hs : List.Sublist [snt (XS[i.val]'i.isLt), snt (XS[j.val]'j.isLt)] (XS.map snt) := by
  have e : [snt (XS[i.val]'i.isLt), snt (XS[j.val]'j.isLt)] = [XS[i.val]'i.isLt, XS[j.val]'j.isLt].map snt := rfl
  rw [e]
  exact (two_sub XS i.val j.val hij j.isLt).map snt
 exact two_of (laid_sub hs h) (xs_glob _ (List.getElem_mem _)) (xs_glob _ (List.getElem_mem _))
def adOf (W : World) (k : Nat) : Addr := match W.cell? ⟨(XS.getD (k - 50) ("", [], 0)).2.2, 0, none⟩ with
 | some (.iface _ (.pointer (some a))) => a
 | _ => ⟨0, 0, none⟩
theorem ad_eq {W : World} {i : Nat} (hi : i < XS.length) {a : Addr} {t : TypeId} (h : W.cell? ⟨(XS[i]'hi).2.2, 0, none⟩ = some (.iface t (.pointer (some a)))) : adOf W (50 + i) = a := by
 unfold adOf
 have e : XS.getD (50 + i - 50) ("", [], 0) = XS[i]'hi := by rw [Nat.add_sub_cancel_left]; simp only [List.getD, List.getElem?_eq_getElem hi, Option.getD_some]
 rw [e, h]
theorem sen_ix : ∀ x ∈ SenL, ∃ i : Fin 10, x = (50 + i.val, (XS[i.val]'i.isLt).2.2) := by
 intro x hx
 simp only [SenL, List.mem_cons, List.mem_nil_iff, or_false] at hx
 rcases hx with rfl | rfl | rfl | rfl | rfl | rfl | rfl | rfl | rfl | rfl
 ·exact ⟨0, rfl⟩
 ·exact ⟨1, rfl⟩
 ·exact ⟨2, rfl⟩
 ·exact ⟨3, rfl⟩
 ·exact ⟨4, rfl⟩
 ·exact ⟨5, rfl⟩
 ·exact ⟨6, rfl⟩
 ·exact ⟨7, rfl⟩
 ·exact ⟨8, rfl⟩
 ·exact ⟨9, rfl⟩
theorem sen_of {W : World} (h : laidMet Tryz.prog (XS.map snt) W) : Sen (adOf W) W := by
 have one : ∀ i : Fin 10, W.cell? ⟨(XS[i.val]'i.isLt).2.2, 0, none⟩ = some (.iface 256 (.pointer (some (adOf W (50 + i.val))))) ∧ ∃ c t, W.heap[(adOf W (50 + i.val)).block]? = some (.cells c t (0, 0)) := fun i => by
  by_cases hi : i < 9
  ·obtain ⟨a, b, h1, h2, h3, h4, h5⟩ := pair_of h i 9 hi
   rw [ad_eq i.isLt h1]
   exact ⟨h1, h4⟩
  ·have h0 : (0 : Fin 10) < i := by
    rw [Fin.lt_def] at hi ⊢
    show 0 < i.val
    have : (9 : Fin 10).val = 9 := rfl
    omega
   obtain ⟨a, b, h1, h2, h3, h4, h5⟩ := pair_of h 0 i h0
   rw [ad_eq i.isLt h2]
   exact ⟨h2, h5⟩
 have two : ∀ i j : Fin 10, i < j → adOf W (50 + i.val) ≠ adOf W (50 + j.val) := fun i j hij => by
  obtain ⟨a, b, h1, h2, h3, h4, h5⟩ := pair_of h i j hij
  rw [ad_eq i.isLt h1, ad_eq j.isLt h2]
  exact h3
 refine ⟨fun x hx => ?_, fun x hx y hy hne => ?_⟩
 ·obtain ⟨i, rfl⟩ := sen_ix x hx
  exact one i
 ·obtain ⟨i, rfl⟩ := sen_ix x hx
  obtain ⟨j, rfl⟩ := sen_ix y hy
  have hij : i ≠ j := fun e => hne (by rw [e])
  rcases Nat.lt_or_ge i.val j.val with q | q
  ·exact two i j (Fin.lt_def.2 q)
  ·have q' : j.val < i.val := by
    have : i.val ≠ j.val := fun e => hij (Fin.ext e)
    omega
   exact fun e => two j i (Fin.lt_def.2 q') e.symm
theorem laid_dnReasons {W : World} (hL : laidMetH Tryz.prog Rows.dnReasonsUptoRow.laid W) : Sen (adOf W) W ∧ ErrT W ∧ RowTab W := by
 have h' : laidMet Tryz.prog (("roster/rosterref01.rows", Rows.laid_roster_rosterref01_rows) :: XS.map snt) W ∧ handlesMet Tryz.prog [("errors.errorType", Rows.laid_errors_errorType)] W := hL
 exact ⟨sen_of h'.1.tail, errT_of h'.2, tab_rows h'.1⟩
end Ke
end Go.Proofs.YtkknenmpdimdbaaGreatDoor

namespace Go.Proofs.YtkknenmpdimdbaaGreatDoor
namespace RgN
open Go.RowKit
set_option linter.unusedVariables false
def Only (Q : Exit → Act → World → Prop) (e : Exit) (a : Act) (w : World) : Prop := e = .normal ∧ Q .normal a w
theorem only_post {Q : Exit → Act → World → Prop} (e : Exit) (a : Act) (w : World) (h : Only Q e a w) : Q e a w := by
 obtain ⟨rfl, h⟩ := h
 exact h
variable {P : Program} {ops : Array Oper} {Q : Exit → Act → World → Prop} {md : Region.Mode} {S : World → Prop} {N : Nat → Bool} {l n : Nat}
def wpAnyN (P : Program) (md : Region.Mode) (ops : Array Oper) (Q : Exit → Act → World → Prop) (N : Nat → Bool) (S : World → Prop) : Nat → Array Bool → Act → World → Prop
 | 0, listed, a, w => Region.ready md ops listed = [] ∧ Q .normal a w
 | fuel + 1, listed, a, w =>
  (Region.ready md ops listed = [] → Q .normal a w) ∧
  ∀ i ∈ Region.ready md ops listed, wpOp P ops Q i (fun a' w' => (N i = true → S w') ∧ wpAnyN P md ops Q N S fuel (listed.setIfInBounds i true) a' w') a w
theorem any_of_n : ∀ (fuel : Nat) (listed : Array Bool) (a : Act) (w : World), wpAnyN P md ops Q N S fuel listed a w → wpAny P md ops Q fuel listed a w
 | 0, _, _, _, h => h
 | fuel + 1, _, _, _, h => ⟨h.1, fun i hi => wpOp_mono (fun a' w' h' => any_of_n fuel _ a' w' h'.2) (h.2 i hi)⟩
def safe (md : Region.Mode) (ops : Array Oper) (N : Nat → Bool) (i : Nat) : Nat → Array Bool → Bool
 | 0, _ => true
 | fuel + 1, listed => (Region.ready md ops listed).all (fun j => j == i || (N j && safe md ops N i fuel (listed.setIfInBounds j true)))
theorem safe_all (i : Nat) : ∀ (fuel : Nat) (listed : Array Bool), safe md ops (fun _ => true) i fuel listed = true
 | 0, _ => rfl
 | fuel + 1, listed => by
  unfold safe
  rw [List.all_eq_true]
  intro j _
  rw [safe_all i fuel]
  simp
theorem n_first {i : Nat} {oi : Oper} {v : Value} (hi : ops[i]? = some oi) (hsel : ∀ (j : Nat) (o : Oper) cs b, ops[j]? = some o → o.op ≠ .select cs b)
  (hQ : ∀ c a w, Q (.panic c) (a.put oi.dst v) w → Q (.panic c) a w) :
  ∀ (fuel : Nat) (listed : Array Bool) (a : Act) (w : World),
   (∀ j oj, ops[j]? = some oj → j ≠ i → listed.getD j true = false → (∀ e ∈ oj.after, Region.binds md e = true → e.on ≠ i) → oi.apart ops oj = true) →
   safe md ops N i fuel listed = true → i ∈ Region.ready md ops listed → YieldsIf P ops S oi v a → S w →
   wpAnyN P md ops Q N S fuel (listed.setIfInBounds i true) (a.put oi.dst v) w → wpAnyN P md ops Q N S (fuel + 1) listed a w := by
 intro fuel
 induction fuel with
 | zero =>
  intro listed a w _ _ hr hy hS H
  refine ⟨fun h => (by rw [h] at hr; cases hr), fun j hj => ?_⟩
  by_cases hji : j = i
  ·subst hji; exact hy.wpOp hi hS ⟨fun _ => hS, H⟩
  ·have := ready_mono hj hji
   rw [H.1] at this
   cases this
 | succ fuel ih =>
  intro listed a w hfree hsf hr hy hS H
  refine ⟨fun h => (by rw [h] at hr; cases hr), fun j hj => ?_⟩
  by_cases hji : j = i
  ·subst hji; exact hy.wpOp hi hS ⟨fun _ => hS, H⟩
  ·have h1 := H.2 j (ready_mono hj hji)
   have hsj := List.all_eq_true.1 hsf j hj
   rw [Bool.or_eq_true, Bool.and_eq_true] at hsj
   have hsj2 : N j = true ∧ safe md ops N i fuel (listed.setIfInBounds j true) = true := by
    rcases hsj with q | q
    ·exact absurd (by simpa using q) hji
    ·exact q
   obtain ⟨hjun, oj, hoj, hall⟩ := mem_ready.1 hj
   have hnot : ∀ e ∈ oj.after, Region.binds md e = true → e.on ≠ i := fun e he hb heq => by
    have h1 := hall e he hb
    have h0 := (mem_ready.1 hr).1
    rw [heq] at h1
    rcases Nat.lt_or_ge i listed.size with h' | h'
    ·simp [h'] at h0 h1; rw [h0] at h1; cases h1
    ·simp [Array.getElem?_eq_none h'] at h1
   have h2 := wpOp_putIf hoj (hfree j oj hoj hji hjun hnot) (fun cs b => hsel i oi cs b hi) (fun cs b => hsel j oj cs b hoj) hQ hy h1
   have hfree' : ∀ k ok, ops[k]? = some ok → k ≠ i → (listed.setIfInBounds j true).getD k true = false →
     (∀ e ∈ ok.after, Region.binds md e = true → e.on ≠ i) → oi.apart ops ok = true := fun k ok hk hki hun hno => by
    refine hfree k ok hk hki ?_ hno
    by_cases hjk : j = k
    ·subst hjk; exact hjun
    ·rw [getD_set_ne true hjk] at hun; exact hun
   refine wpOp_mono (fun a' w' h3 => ⟨h3.2.1, ih (listed.setIfInBounds j true) a' w' hfree' hsj2.2 (ready_mono hr (Ne.symm hji)) h3.1 (h3.2.1 hsj2.1) ?_⟩) h2
   rw [Array.setIfInBounds_comm _ _ hji]
   exact h3.2.2
theorem n_take (i : Nat) {oi : Oper} (v : Value) {fuel : Nat} {listed : Array Bool} {a : Act} {w : World} (hi : ops[i]? = some oi)
  (hs : Region.noSelect ops = true) (hf : Region.free md ops listed i = true) (hr : (Region.ready md ops listed).contains i = true) (hsf : safe md ops N i fuel listed = true)
  (hw : Region.wanted oi (yielded ops a.tmps) = true) (hS : S w) (hy : ∀ w, S w → (execOp a.eval oi).run P w = .ok (.value v) w)
  (h : wpAnyN P md ops (Only Q) N S fuel (listed.setIfInBounds i true) (a.put oi.dst v) w) : wpAnyN P md ops (Only Q) N S (fuel + 1) listed a w :=
 n_first hi (Region.noSelect_spec hs) (fun _ _ _ h => by cases h.1) fuel listed a w (Region.free_spec hi hf) hsf (by simpa using hr) (Or.inl ⟨hw, hy⟩) hS h
theorem n_firstW {i : Nat} {oi : Oper} {v : Value} (hi : ops[i]? = some oi) (hsel : ∀ (j : Nat) (o : Oper) cs b, ops[j]? = some o → o.op ≠ .select cs b)
  (hQ : ∀ c a w, Q (.panic c) (a.put oi.dst v) w → Q (.panic c) a w):
  ∀ (fuel : Nat) (listed : Array Bool) (a : Act) (w : World),
   (∀ j oj, ops[j]? = some oj → j ≠ i → listed.getD j true = false → (∀ e ∈ oj.after, Region.binds md e = true → e.on ≠ i) → oi.apart ops oj = true) →
   i ∈ Region.ready md ops listed → Yields P ops oi v a → N i = false →
   wpAnyN P md ops Q N S fuel (listed.setIfInBounds i true) (a.put oi.dst v) w → wpAnyN P md ops Q N S (fuel + 1) listed a w := by
 intro fuel
 induction fuel with
 | zero =>
  intro listed a w _ hr hy hN H
  refine ⟨fun h => (by rw [h] at hr; cases hr), fun j hj => ?_⟩
  by_cases hji : j = i
  ·subst hji; exact hy.wpOp hi ⟨fun h => (by rw [hN] at h; cases h), H⟩
  ·have := ready_mono hj hji
   rw [H.1] at this
   cases this
 | succ fuel ih =>
  intro listed a w hfree hr hy hN H
  refine ⟨fun h => (by rw [h] at hr; cases hr), fun j hj => ?_⟩
  by_cases hji : j = i
  ·subst hji; exact hy.wpOp hi ⟨fun h => (by rw [hN] at h; cases h), H⟩
  ·have h1 := H.2 j (ready_mono hj hji)
   obtain ⟨hjun, oj, hoj, hall⟩ := mem_ready.1 hj
   have hnot : ∀ e ∈ oj.after, Region.binds md e = true → e.on ≠ i := fun e he hb heq => by
    have h1 := hall e he hb
    have h0 := (mem_ready.1 hr).1
    rw [heq] at h1
    rcases Nat.lt_or_ge i listed.size with h' | h'
    ·simp [h'] at h0 h1; rw [h0] at h1; cases h1
    ·simp [Array.getElem?_eq_none h'] at h1
   have h2 := wpOp_put hoj (hfree j oj hoj hji hjun hnot) (fun cs b => hsel i oi cs b hi) (fun cs b => hsel j oj cs b hoj) hQ hy h1
   have hfree' : ∀ k ok, ops[k]? = some ok → k ≠ i → (listed.setIfInBounds j true).getD k true = false →
     (∀ e ∈ ok.after, Region.binds md e = true → e.on ≠ i) → oi.apart ops ok = true := fun k ok hk hki hun hno => by
    refine hfree k ok hk hki ?_ hno
    by_cases hjk : j = k
    ·subst hjk; exact hjun
    ·rw [getD_set_ne true hjk] at hun; exact hun
   refine wpOp_mono (fun a' w' h3 => ⟨h3.2.1, ih (listed.setIfInBounds j true) a' w' hfree' (ready_mono hr (Ne.symm hji)) h3.1 hN ?_⟩) h2
   rw [Array.setIfInBounds_comm _ _ hji]
   exact h3.2.2
theorem n_takeW (i : Nat) {oi : Oper} (v : Value) {fuel : Nat} {listed : Array Bool} {a : Act} {w : World} (hi : ops[i]? = some oi)
  (hs : Region.noSelect ops = true) (hf : Region.free md ops listed i = true) (hr : (Region.ready md ops listed).contains i = true) (hN : N i = false)
  (hw : Region.wanted oi (yielded ops a.tmps) = true) (hy : ∀ w, (execOp a.eval oi).run P w = .ok (.value v) w)
  (h : wpAnyN P md ops (Only Q) N S fuel (listed.setIfInBounds i true) (a.put oi.dst v) w) : wpAnyN P md ops (Only Q) N S (fuel + 1) listed a w :=
 n_firstW hi (Region.noSelect_spec hs) (fun _ _ _ h => by cases h.1) fuel listed a w (Region.free_spec hi hf) (by simpa using hr) (Or.inl ⟨hw, hy⟩) hN h
theorem n_one (i : Nat) {o : Oper} {fuel : Nat} {listed : Array Bool} {a : Act} {w : World} (hr : Region.ready md ops listed = [i]) (ho : ops[i]? = some o)
  (h : ∀ K : Act → World → Prop, Go.Shut (∀ a' w', (N i = true → S w') → wpAnyN P md ops (Only Q) N S fuel (listed.setIfInBounds i true) a' w' → K a' w') → if Region.wanted o (yielded ops a.tmps) = true then Oper.wp P o a w K (Only Q) else K (a.put o.dst undef) w) :
  wpAnyN P md ops (Only Q) N S (fuel + 1) listed a w := by
 refine ⟨fun h0 => (by rw [hr] at h0; cases h0), fun j hj => ?_⟩
 rw [hr] at hj
 simp at hj
 subst hj
 exact wpOp_step ho (fun K' hK => h K' (fun a w h1 h2 => hK a w ⟨h1, h2⟩))
theorem n_takeWl {l : List Oper} (i : Nat) {oi : Oper} (v : Value) {fuel : Nat} {listed : Array Bool} {a : Act} {w : World} (hi : l[i]? = some oi)
  (hs : Region.noSelect l.toArray = true) (hf : Region.free md l.toArray listed i = true) (hr : (Region.ready md l.toArray listed).contains i = true) (hN : N i = false)
  (hw : Region.wanted oi (yielded l.toArray a.tmps) = true) (hy : ∀ w, (execOp a.eval oi).run P w = .ok (.value v) w)
  (h : wpAnyN P md l.toArray (Only Q) N S fuel (listed.setIfInBounds i true) (a.put oi.dst v) w) : wpAnyN P md l.toArray (Only Q) N S (fuel + 1) listed a w :=
 n_takeW i v (by rw [List.getElem?_toArray]; exact hi) hs hf hr hN hw hy h
theorem n_takel {l : List Oper} (i : Nat) {oi : Oper} (v : Value) {fuel : Nat} {listed : Array Bool} {a : Act} {w : World} (hi : l[i]? = some oi)
  (hs : Region.noSelect l.toArray = true) (hf : Region.free md l.toArray listed i = true) (hr : (Region.ready md l.toArray listed).contains i = true) (hsf : safe md l.toArray N i fuel listed = true)
  (hw : Region.wanted oi (yielded l.toArray a.tmps) = true) (hS : S w) (hy : ∀ w, S w → (execOp a.eval oi).run P w = .ok (.value v) w)
  (h : wpAnyN P md l.toArray (Only Q) N S fuel (listed.setIfInBounds i true) (a.put oi.dst v) w) : wpAnyN P md l.toArray (Only Q) N S (fuel + 1) listed a w :=
 n_take i v (by rw [List.getElem?_toArray]; exact hi) hs hf hr hsf hw hS hy h
theorem n_onel {l : List Oper} (i : Nat) {o : Oper} {fuel : Nat} {listed : Array Bool} {a : Act} {w : World} (hr : Region.ready md l.toArray listed = [i]) (ho : l[i]? = some o)
  (h : ∀ K : Act → World → Prop, Go.Shut (∀ a' w', (N i = true → S w') → wpAnyN P md l.toArray (Only Q) N S fuel (listed.setIfInBounds i true) a' w' → K a' w') → if Region.wanted o (yielded l.toArray a.tmps) = true then Oper.wp P o a w K (Only Q) else K (a.put o.dst undef) w) :
  wpAnyN P md l.toArray (Only Q) N S (fuel + 1) listed a w :=
 n_one i hr (by rw [List.getElem?_toArray]; exact ho) h
theorem n_done {listed : Array Bool} {a : Act} {w : World} (hr : Region.ready md ops listed = []) (h : Q .normal a w) (fuel : Nat) : wpAnyN P md ops (Only Q) N S fuel listed a w :=
 match fuel with
 | 0 => ⟨hr, rfl, h⟩
 | _ + 1 => ⟨fun _ => ⟨rfl, h⟩, by rw [hr]; simp⟩
end RgN
end Go.Proofs.YtkknenmpdimdbaaGreatDoor

namespace Go.Proofs.YtkknenmpdimdbaaGreatDoor
namespace Du
open Go.RowKit
theorem regionP {P : Program} {ops : Array Oper} {Q : Exit → Act → World → Prop} (N : Nat → Bool) (S : World → Prop) {id : Nat} {a : Act} {w : World} (hm : P.follows .mixedOrders = true)
  (h : RgN.wpAnyN P .any ops (RgN.Only Q) N S ops.size (Array.replicate ops.size false) a w.drew) : (Code.region id ops true).wp P Q a w :=
 Code.wp_mono RgN.only_post (wp_region_any hm (RgN.any_of_n _ _ _ _ h))
end Du
end Go.Proofs.YtkknenmpdimdbaaGreatDoor

namespace Go.Proofs.YtkknenmpdimdbaaGreatDoor
namespace TextMath
def dg (n : Nat) : UInt8 := UInt8.ofNat (if n < 10 then 48 + n else 87 + n)
def hex (l : List UInt8) : List UInt8 := l.flatMap fun b => [dg (b.toNat / 16), dg (b.toNat % 16)]
def wo (b : UInt8) : Option Nat :=
 if 48 ≤ b.toNat ∧ b.toNat ≤ 57 then some (b.toNat - 48)
 else if 97 ≤ b.toNat ∧ b.toNat ≤ 102 then some (b.toNat - 87)
 else if 65 ≤ b.toNat ∧ b.toNat ≤ 70 then some (b.toNat - 55) else none
theorem wo_lt (b : UInt8) (n : Nat) (h : wo b = some n) : n < 16 := by
 unfold wo at h
 repeat' split at h
 all_goals first | (injection h with h; omega) | cases h
def unhex : List UInt8 → Nat → Except Nat (List UInt8)
 | [], _ => .ok []
 | [a], k => match wo a with
  | none => .error k
  | some _ => .error (k + 1)
 | a :: b :: t, k => match wo a, wo b with
  | none, _ => .error k
  | some _, none => .error (k + 1)
  | some x, some y => match unhex t (k + 2) with
   | .ok r => .ok (UInt8.ofNat (16 * x + y) :: r)
   | .error p => .error p
def pre (o : List UInt8) : Except Nat (List UInt8) → Except Nat (List UInt8)
 | .ok t => .ok (o ++ t)
 | .error p => .error p
theorem pre_nil (r : Except Nat (List UInt8)) : pre [] r = r := by cases r <;> rfl
theorem pre_pre (o p : List UInt8) (r : Except Nat (List UInt8)) : pre o (pre p r) = pre (o ++ p) r := by cases r <;> simp [pre]
theorem unhex_bad (a : UInt8) (t : List UInt8) (k : Nat) (h : wo a = none) : unhex (a :: t) k = .error k := by
 cases t with
 | nil => simp [unhex, h]
 | cons b r => simp [unhex, h]
theorem unhex_odd (a : UInt8) (k : Nat) (x : Nat) (h : wo a = some x) : unhex [a] k = .error (k + 1) := by simp [unhex, h]
theorem unhex_bad2 (a b : UInt8) (t : List UInt8) (k x : Nat) (h : wo a = some x) (hb : wo b = none) : unhex (a :: b :: t) k = .error (k + 1) := by simp [unhex, h, hb]
theorem unhex_pair (a b : UInt8) (t : List UInt8) (k x y : Nat) (h : wo a = some x) (hb : wo b = some y) : unhex (a :: b :: t) k = pre [UInt8.ofNat (16 * x + y)] (unhex t (k + 2)) := by
 simp only [unhex, h, hb]
 cases unhex t (k + 2) <;> rfl
end TextMath
end Go.Proofs.YtkknenmpdimdbaaGreatDoor
