import Derived.Test.YtnboimoncpphlaaDoorAtTabs
import Derived.Test.YtnboimoncpphlaaDoorAtSupW
namespace Go.Proofs.YtnboimoncpphlaaDoor
open Go.RowKit

theorem gKn : Tryd.prog.globalNamed "roster/rosterlaw04.known" = some 0 := by kernel_rfl
theorem gKnType : (Tryd.prog.globals[0]?).map (·.type) = some 54 := by kernel_rfl
theorem uKn : Tryd.prog.underlying 54 = some (.array 10 53) := by kernel_rfl
theorem uKn3 : Tryd.prog.underlying 53 = some (.array 3 9) := by kernel_rfl
theorem cKnRow : Tryd.prog.cellsOf 53 = 3 := by kernel_rfl
theorem cKnStr : Tryd.prog.cellsOf 9 = 1 := by kernel_rfl
/-- The first datum of a row of the law's own table. -/
def fstOf : DataW Unit → Option (DataW Unit)
  | .agg l => l[0]?
  | _ => none
theorem kn_data : ∀ r : Fin 10, ∃ a b, (match (Rows.laid_roster_rosterlaw04_known : DataW Unit) with | .agg l => l[r.val]? | _ => none) = some (.agg [.lit (.string (knL.getD r.val [])), a, b]) := by
  intro r
  match r with
  | ⟨0, _⟩ => exact ⟨_, _, rfl⟩
  | ⟨1, _⟩ => exact ⟨_, _, rfl⟩
  | ⟨2, _⟩ => exact ⟨_, _, rfl⟩
  | ⟨3, _⟩ => exact ⟨_, _, rfl⟩
  | ⟨4, _⟩ => exact ⟨_, _, rfl⟩
  | ⟨5, _⟩ => exact ⟨_, _, rfl⟩
  | ⟨6, _⟩ => exact ⟨_, _, rfl⟩
  | ⟨7, _⟩ => exact ⟨_, _, rfl⟩
  | ⟨8, _⟩ => exact ⟨_, _, rfl⟩
  | ⟨9, _⟩ => exact ⟨_, _, rfl⟩

set_option maxRecDepth 100000 in
theorem tab_known {W : World} {rest : List (String × DataW Unit)} (h : laidMet Tryd.prog (("roster/rosterlaw04.known", Rows.laid_roster_rosterlaw04_known) :: rest) W) : KnTab W := by
  obtain ⟨ps, ⟨g', t', cs, fuel, p, q, hg', ht', hvar, hd, _, _⟩, _⟩ := h
  obtain rfl := Option.some.inj (gKn.symm.trans hg')
  obtain rfl := Option.some.inj (gKnType.symm.trans ht')
  have hd' : DataW.trod _ Tryd.prog W _ _ _ fuel 54 cs.toList = some (Rows.laid_roster_rosterlaw04_known, p) := hd
  obtain ⟨xs, m, rfl, hx, hlen, hxl, hall⟩ := DataW.trod_array uKn hd'
  intro r hr
  have hr1 := hall r hr
  rw [cKnRow] at hr1
  obtain ⟨a, b, hab⟩ := kn_data ⟨r, hr⟩
  have hxs : (Rows.laid_roster_rosterlaw04_known : DataW Unit) = .agg (xs.map (·.1)) := by
    have := congrArg Prod.fst hx
    simpa using this
  rw [hxs] at hab
  have hxr : (xs.map (·.1))[r]? = some (.agg [.lit (.string (knL.getD r [])), a, b]) := hab
  clear hab
  generalize knL.getD r [] = kk at hxr ⊢
  simp only [List.getElem?_map, Option.map_eq_some_iff] at hxr
  obtain ⟨y, hy, hyz⟩ := hxr
  rw [hy] at hr1
  obtain ⟨y1, y2⟩ := y
  simp only [] at hyz
  subst hyz
  obtain ⟨ys, m', rfl, hx2, _, hyl, hall2⟩ := DataW.trod_array uKn3 hr1
  have h0 := hall2 0 (by decide)
  rw [cKnStr] at h0
  have hys : [(.lit (.string (kk)) : DataW Unit), a, b] = ys.map (·.1) := by
    have := congrArg Prod.fst hx2
    simpa using this
  cases ys with
  | nil => simp at hyl
  | cons z zs =>
    have hz : z.1 = .lit (.string (kk)) := by
      have hh := congrArg List.head? hys
      rw [List.map_cons, List.head?_cons, List.head?_cons] at hh
      exact (Option.some.inj hh).symm
    simp only [Nat.zero_mul, List.drop_zero, List.getElem?_cons_zero] at h0
    obtain ⟨s, hs, hs2, _⟩ := DataW.trod_string Tryd.underlying9 h0
    have hse : s.data.toList = kk := by
      rw [hs2] at hz
      injection hz with hz
      injection hz
    have hcell : cs[r * 3]? = some (.string s) := by
      have := congrArg (·[0]?) hs
      simp only [List.getElem?_take, List.getElem?_drop] at this
      simpa using this
    have := World.var?_cell gKn hvar (r * 3)
    rw [this, hcell, ← hse, S_of]
end Go.Proofs.YtnboimoncpphlaaDoor
