import Derived.Test.YtoiilplnhecokaaDoorBlH
import Derived.Test.YtoiilplnhecokaaDoorKeO
import Derived.Test.YtoiilplnhecokaaDoorAtTabs
namespace Go.Proofs.YtoiilplnhecokaaDoor
namespace Bl
open Go.RowKit Go.WideShapes Go.ChangeShapes
open Du (PRow DRow PX GRow sd pV xV pV_len xV_len add_o)
open Ke (Szs zR zP rows_of rdn_of sum_mem sum_len err_head ErrsG)
set_option linter.unusedVariables false
set_option linter.unusedSimpArgs false
set_option maxRecDepth 100000

/-- A name that came in, its sizes besides. -/
theorem dn_in {H : Type} {enc : TypeId × Value → H} {w : World} {base : Nat} {spare : Nat → Bool} {held : Bool} {v : Value} {d : DataW H} {p : List MemPlace}
    (hf : DataW.Trod enc Tryd.prog w base spare held 23 v d p) (hv1 : v.cells = #[v]) (hB : Rows.uptoBulk d ≤ 1048576) : ∃ a L cap, v = .slice a L.length cap ∧ DRow w a L ∧ Szs L ∧ (∀ r ∈ L, ∀ p ∈ r.2.2, p.1.length + p.2.length ≤ 1048576) := by
  obtain ⟨fuel, hf⟩ := hf
  rw [hv1] at hf
  have e3 : Tryd.prog.cellsOf 36 = 1 := by kernel_rfl
  obtain ⟨a, L, cap, hv, hr, hP, hb, hc, hm⟩ := rows_of ((none, 0, []) : PX) xV 1 (fun x => PRow w x.1 x.2.2 ∧ x.2.2.length ≤ x.2.1 ∧ x.2.1 ≤ maxLen) zR Tryd.underlying23 e3 (by decide) (fun x => ⟨_, rfl⟩) (d := d) (p := p) (fun n cs d p h => rdn_of h) hf
  have hsz : ∀ r ∈ L, ∀ p ∈ r.2.2, p.1.length + p.2.length ≤ 1048576 := fun r hr p hp => by
    have h1 := sum_mem zR L r hr
    have h2 := sum_mem zP r.2.2 p hp
    have h3 : zR r = (r.2.2.map zP).sum + 1 := rfl
    have h4 : zP p = p.1.length + p.2.length + 1 := rfl
    omega
  refine ⟨a, L, cap, hv, ⟨hr, hP⟩, ⟨fun r hr p hp => Nat.le_trans (hsz r hr p hp) (by omega), fun r hr => ?_, ?_⟩, hsz⟩
  · have h1 := sum_mem zR L r hr
    have h2 := sum_len zP (fun _ => by unfold zP; omega) r.2.2
    have h3 : zR r = (r.2.2.map zP).sum + 1 := rfl
    omega
  · have h2 := sum_len zR (fun x => by unfold zR; omega) L
    omega
def iV (x : Int) : List Value := [.int .i64 x]
/-- A list of numbers that came in. -/
theorem ints_in {H : Type} {enc : TypeId × Value → H} {w : World} {base : Nat} {spare : Nat → Bool} {held : Bool} {v : Value} {d : DataW H} {p : List MemPlace}
    (hf : DataW.Trod enc Tryd.prog w base spare held 24 v d p) (hv1 : v.cells = #[v]) (hB : Rows.uptoBulk d ≤ 1048576) : ∃ a n cap, v = .slice a n cap ∧ NRw w a n ∧ n ≤ 1073741824 := by
  obtain ⟨fuel, hf⟩ := hf
  rw [hv1] at hf
  have e3 : Tryd.prog.cellsOf 3 = 1 := by kernel_rfl
  obtain ⟨a, L, cap, hv, hr, _, hb, hc, hm⟩ := rows_of (0 : Int) iV 1 (fun _ => True) (fun _ => 1) Tryd.underlying24 e3 (by decide) (fun x => ⟨_, rfl⟩) (d := d) (p := p) (fun n cs d p h => by
    obtain ⟨x, hx, hd, _⟩ := DataW.trod_int Tryd.underlying3 h
    refine ⟨x, hx, trivial, ?_⟩
    injection hd with hd _
    rw [hd]
    simp [Rows.uptoBulk]) hf
  refine ⟨a, L.length, cap, hv, fun i hi => ?_, ?_⟩
  · obtain ⟨b, off, e, h⟩ := hr i hi
    have := h 0 (by omega)
    rw [Nat.mul_one] at this
    exact ⟨b, off, L[i], e, this⟩
  · have : (L.map fun _ => 1).sum = L.length := by
      clear hv hr hb hc
      induction L with
      | nil => rfl
      | cons x l ih => simp [List.sum_cons] at ih ⊢; omega
    omega
/-- What the row lists. -/
theorem laid_in {W : World} {L0 : List (String × DataW Unit)} (e0 : L0 = [("roster/attr.supers", Rows.laid_roster_attr_supers), ("roster/attr.syntaxes", Rows.laid_roster_attr_syntaxes), ("roster/attr.usages", Rows.laid_roster_attr_usages), ("roster/dn.ErrUTF8", Rows.laid_roster_dn_ErrUTF8), ("roster/dn.ErrTwice", Rows.laid_roster_dn_ErrTwice), ("roster/dn.ErrWide", Rows.laid_roster_dn_ErrWide), ("roster/dn.ErrMade", Rows.laid_roster_dn_ErrMade)]) (hp : laidMetH Tryd.prog L0 W ↔ laidMet Tryd.prog L0 W) (hL : laidMetH Tryd.prog L0 W) : NumT3 W ∧ ErrsG W := by
  have h := hp.1 hL
  rw [e0] at h
  have hs := tab_supers h
  have hy := tab_syntaxes h.tail
  have hu := tab_usages h.tail.tail
  have h := h.tail.tail.tail
  obtain ⟨t3, u3, h3⟩ := err_head (g := "roster/dn.ErrUTF8") (G := 3) (by kernel_rfl) (by kernel_rfl) h
  obtain ⟨t2, u2, h2⟩ := err_head (g := "roster/dn.ErrTwice") (G := 2) (by kernel_rfl) (by kernel_rfl) h.tail
  obtain ⟨t0, u0, h0⟩ := err_head (g := "roster/dn.ErrWide") (G := 0) (by kernel_rfl) (by kernel_rfl) h.tail.tail
  obtain ⟨t1, u1, h1⟩ := err_head (g := "roster/dn.ErrMade") (G := 1) (by kernel_rfl) (by kernel_rfl) h.tail.tail.tail
  exact ⟨⟨hs, hy, hu⟩, t0, u0, t1, u1, t2, u2, t3, u3, h0, h1, h2, h3⟩
end Bl
end Go.Proofs.YtoiilplnhecokaaDoor
