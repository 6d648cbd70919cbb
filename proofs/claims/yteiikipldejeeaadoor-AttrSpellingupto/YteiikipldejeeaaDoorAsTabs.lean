import Derived.Test.YteiikipldejeeaaDoorAtTabs
import Derived.Test.YteiikipldejeeaaDoorAsX
namespace Go.Proofs.YteiikipldejeeaaDoor
open Go.RowKit

theorem gKn : Tryd.prog.globalNamed "roster/rosterlaw04.known" = some 0 := by kernel_rfl
theorem gKnType : (Tryd.prog.globals[0]?).map (·.type) = some 30 := by kernel_rfl
theorem uKn : Tryd.prog.underlying 30 = some (.array 10 29) := by kernel_rfl
theorem uKn3 : Tryd.prog.underlying 29 = some (.array 3 9) := by kernel_rfl
theorem cKnRow : Tryd.prog.cellsOf 29 = 3 := by kernel_rfl
theorem cKnStr : Tryd.prog.cellsOf 9 = 1 := by kernel_rfl
theorem kn_data3 : ∀ r : Fin 10, (match (Rows.laid_roster_rosterlaw04_known : DataW Unit) with | .agg l => l[r.val]? | _ => none) = some (.agg [.lit (.string (kn r.val 0)), .lit (.string (kn r.val 1)), .lit (.string (kn r.val 2))]) := by
  intro r
  match r with
  | ⟨0, _⟩ => rfl
  | ⟨1, _⟩ => rfl
  | ⟨2, _⟩ => rfl
  | ⟨3, _⟩ => rfl
  | ⟨4, _⟩ => rfl
  | ⟨5, _⟩ => rfl
  | ⟨6, _⟩ => rfl
  | ⟨7, _⟩ => rfl
  | ⟨8, _⟩ => rfl
  | ⟨9, _⟩ => rfl

set_option maxRecDepth 100000 in
theorem tab_known {W : World} {rest : List (String × DataW Unit)} (h : laidMet Tryd.prog (("roster/rosterlaw04.known", Rows.laid_roster_rosterlaw04_known) :: rest) W) : KnT3 W := by
  obtain ⟨ps, ⟨g', t', cs, fuel, p, q, hg', ht', hvar, hd, _, _⟩, _⟩ := h
  obtain rfl := Option.some.inj (gKn.symm.trans hg')
  obtain rfl := Option.some.inj (gKnType.symm.trans ht')
  have hd' : DataW.trod _ Tryd.prog W _ _ _ fuel 30 cs.toList = some (Rows.laid_roster_rosterlaw04_known, p) := hd
  obtain ⟨xs, m, rfl, hx, hlen, hxl, hall⟩ := DataW.trod_array uKn hd'
  intro r c hr hc
  have hr1 := hall r hr
  rw [cKnRow] at hr1
  have hab := kn_data3 ⟨r, hr⟩
  have hxs : (Rows.laid_roster_rosterlaw04_known : DataW Unit) = .agg (xs.map (·.1)) := by
    have := congrArg Prod.fst hx
    simpa using this
  rw [hxs] at hab
  have hxr : (xs.map (·.1))[r]? = some (.agg [.lit (.string (kn r 0)), .lit (.string (kn r 1)), .lit (.string (kn r 2))]) := hab
  clear hab
  have hcc : ([.lit (.string (kn r 0)), .lit (.string (kn r 1)), .lit (.string (kn r 2))] : List (DataW Unit))[c]? = some (.lit (.string (kn r c))) := by
    match c, hc with
    | 0, _ => rfl
    | 1, _ => rfl
    | 2, _ => rfl
  generalize kn r 0 = k0 at hxr hcc
  generalize kn r 1 = k1 at hxr hcc
  generalize kn r 2 = k2 at hxr hcc
  generalize kn r c = kk at hcc ⊢
  simp only [List.getElem?_map, Option.map_eq_some_iff] at hxr
  obtain ⟨y, hy, hyz⟩ := hxr
  rw [hy] at hr1
  obtain ⟨y1, y2⟩ := y
  simp only [] at hyz
  subst hyz
  obtain ⟨ys, m', rfl, hx2, _, hyl, hall2⟩ := DataW.trod_array uKn3 hr1
  have h0 := hall2 c hc
  rw [cKnStr] at h0
  have hys : [(.lit (.string k0) : DataW Unit), .lit (.string k1), .lit (.string k2)] = ys.map (·.1) := by
    have := congrArg Prod.fst hx2
    simpa using this
  rw [hys] at hcc
  simp only [List.getElem?_map, Option.map_eq_some_iff] at hcc
  obtain ⟨z, hz, hzz⟩ := hcc
  rw [hz] at h0
  obtain ⟨s, hs, hs2, _⟩ := DataW.trod_string Tryd.underlying9 h0
  have hse : s.data.toList = kk := by
    rw [hs2] at hzz
    injection hzz with hzz
    injection hzz
  have hcell : cs[r * 3 + c]? = some (.string s) := by
    have := congrArg (·[0]?) hs
    simp only [List.getElem?_take, List.getElem?_drop] at this
    have hc3 : c < 3 := hc
    simpa [hc3] using this
  have := World.var?_cell gKn hvar (r * 3 + c)
  rw [this, hcell, ← hse, S_of]
end Go.Proofs.YteiikipldejeeaaDoor
