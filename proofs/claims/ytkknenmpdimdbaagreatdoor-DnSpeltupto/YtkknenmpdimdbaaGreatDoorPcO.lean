import Derived.Test.YtkknenmpdimdbaaGreatDoorPcY
import Derived.Test.YtkknenmpdimdbaaGreatDoorKeO
namespace Go.Proofs.YtkknenmpdimdbaaGreatDoor
namespace Pa
open Go.RowKit Go.WideShapes Go.ChangeShapes
open Ke (mst PR dW ptW Szs zP zR rows_of rdn_of sum_mem sum_len err_head)
open Du (PRow DRow PX GRow sd sd_len pV xV pV_len xV_len add_o)
open Bl (NRw)
set_option linter.unusedVariables false
set_option linter.unusedSimpArgs false
set_option maxRecDepth 100000

theorem dW_zR : ∀ L : List PX, dW (sd L) ≤ 3 * (L.map zR).sum
  | [] => Nat.le_refl _
  | r :: L => by
    have ih := dW_zR L
    have h1 : ∀ l : List PR, (l.map ptW).sum ≤ 3 * (l.map zP).sum := fun l => by
      induction l with
      | nil => simp
      | cons p l ih =>
        have e1 : ptW p = p.1.length + 3 * p.2.length + 2 := rfl
        have e2 : zP p = p.1.length + p.2.length + 1 := rfl
        simp only [List.map_cons, List.sum_cons]
        omega
    have h2 := h1 r.2.2
    have e1 : dW (sd (r :: L)) = ((r.2.2.map ptW).sum + 1) + dW (sd L) := by unfold dW sd; simp only [List.map_cons, List.sum_cons]; rfl
    have e2 : zR r = (r.2.2.map zP).sum + 1 := rfl
    rw [e1]
    simp only [List.map_cons, List.sum_cons]
    omega
/-- A name that came in, its sizes besides. -/
theorem dn_in {H : Type} {enc : TypeId × Value → H} {w : World} {base : Nat} {spare : Nat → Bool} {held : Bool} {v : Value} {d : DataW H} {p : List MemPlace}
    (hf : DataW.Trod enc Tryz.prog w base spare held 23 v d p) (hv1 : v.cells = #[v]) (hB : Rows.uptoBulk d ≤ 1048576) : ∃ a L cap, v = .slice a L.length cap ∧ DRow w a L ∧ Sz7 L ∧ L.length ≤ cap := by
  obtain ⟨fuel, hf⟩ := hf
  rw [hv1] at hf
  have e3 : Tryz.prog.cellsOf 57 = 1 := by kernel_rfl
  obtain ⟨a, L, cap, hv, hr, hP, hb, hc, hm⟩ := rows_of ((none, 0, []) : PX) xV 1 (fun x => PRow w x.1 x.2.2 ∧ x.2.2.length ≤ x.2.1 ∧ x.2.1 ≤ maxLen) zR Tryz.underlying23 e3 (by decide) (fun x => ⟨_, rfl⟩) (d := d) (p := p) (fun n cs d p h => rdn_of h) hf
  have hW := dW_zR L
  have hsz : ∀ r ∈ L, ∀ p ∈ r.2.2, p.1.length + p.2.length ≤ 1048576 := fun r hr p hp => by
    have h1 := sum_mem zR L r hr
    have h2 := sum_mem zP r.2.2 p hp
    have h3 : zR r = (r.2.2.map zP).sum + 1 := rfl
    have h4 : zP p = p.1.length + p.2.length + 1 := rfl
    omega
  have hl := sum_len zR (fun x => by unfold zR; omega) L
  refine ⟨a, L, cap, hv, ⟨hr, hP⟩, ⟨⟨fun r hr p hp => Nat.le_trans (hsz r hr p hp) (by omega), fun r hr => ?_, by omega⟩, by omega, fun r hr p hp => by have := hsz r hr p hp; omega, by omega⟩, hc⟩
  have h1 := sum_mem zR L r hr
  have h2 := sum_len zP (fun _ => by unfold zP; omega) r.2.2
  have h3 : zR r = (r.2.2.map zP).sum + 1 := rfl
  omega
def iV (x : Int) : List Value := [.int .i64 x]
/-- A list of numbers that came in. -/
theorem ints_in {H : Type} {enc : TypeId × Value → H} {w : World} {base : Nat} {spare : Nat → Bool} {held : Bool} {v : Value} {d : DataW H} {p : List MemPlace}
    (hf : DataW.Trod enc Tryz.prog w base spare held 24 v d p) (hv1 : v.cells = #[v]) (hB : Rows.uptoBulk d ≤ 1048576) : ∃ a n cap, v = .slice a n cap ∧ NRw w a n ∧ n ≤ 1073741824 := by
  obtain ⟨fuel, hf⟩ := hf
  rw [hv1] at hf
  have e3 : Tryz.prog.cellsOf 3 = 1 := by kernel_rfl
  obtain ⟨a, L, cap, hv, hr, _, hb, hc, hm⟩ := rows_of (0 : Int) iV 1 (fun _ => True) (fun _ => 1) Tryz.underlying24 e3 (by decide) (fun x => ⟨_, rfl⟩) (d := d) (p := p) (fun n cs d p h => by
    obtain ⟨x, hx, hd, _⟩ := DataW.trod_int Tryz.underlying3 h
    refine ⟨x, hx, trivial, ?_⟩
    injection hd with hd _
    rw [hd]
    simp [Rows.uptoBulk]) hf
  refine ⟨a, L.length, cap, hv, fun i hi => ?_, ?_⟩
  · obtain ⟨b, off, e, h⟩ := hr i hi
    have := h 0 (by omega)
    rw [Nat.mul_one] at this
    exact ⟨b, off, L[i], e, this⟩
  · have : (L.map fun _ => 1).sum = L.length := by
      clear hv hr hb hc
      induction L with
      | nil => rfl
      | cons x l ih => simp [List.sum_cons] at ih ⊢; omega
    omega
/-- What the row lists. -/
theorem laid_in {W : World} {L0 : List (String × DataW Unit)} (e0 : L0 = [("roster/dn.ErrLong", Rows.laid_roster_dn_ErrLong), ("roster/dn.ErrUTF8", Rows.laid_roster_dn_ErrUTF8), ("roster/dn.ErrType", Rows.laid_roster_dn_ErrType), ("roster/dn.ErrEquals", Rows.laid_roster_dn_ErrEquals), ("roster/dn.ErrEscape", Rows.laid_roster_dn_ErrEscape), ("roster/dn.ErrChar", Rows.laid_roster_dn_ErrChar), ("roster/dn.ErrHex", Rows.laid_roster_dn_ErrHex), ("roster/dn.ErrTwice", Rows.laid_roster_dn_ErrTwice), ("roster/dn.ErrWide", Rows.laid_roster_dn_ErrWide), ("roster/dn.ErrMade", Rows.laid_roster_dn_ErrMade)]) (hp : laidMetH Tryz.prog L0 W ↔ laidMet Tryz.prog L0 W) (hL : laidMetH Tryz.prog L0 W) : ∃ ev, EvA ev W := by
  have h := hp.1 hL
  rw [e0] at h
  obtain ⟨t0, u0, h0⟩ := err_head (g := "roster/dn.ErrLong") (G := 0) (by kernel_rfl) (by kernel_rfl) h
  obtain ⟨t1, u1, h1⟩ := err_head (g := "roster/dn.ErrUTF8") (G := 1) (by kernel_rfl) (by kernel_rfl) h.tail
  obtain ⟨t2, u2, h2⟩ := err_head (g := "roster/dn.ErrType") (G := 2) (by kernel_rfl) (by kernel_rfl) h.tail.tail
  obtain ⟨t3, u3, h3⟩ := err_head (g := "roster/dn.ErrEquals") (G := 3) (by kernel_rfl) (by kernel_rfl) h.tail.tail.tail
  obtain ⟨t4, u4, h4⟩ := err_head (g := "roster/dn.ErrEscape") (G := 4) (by kernel_rfl) (by kernel_rfl) h.tail.tail.tail.tail
  obtain ⟨t5, u5, h5⟩ := err_head (g := "roster/dn.ErrChar") (G := 5) (by kernel_rfl) (by kernel_rfl) h.tail.tail.tail.tail.tail
  obtain ⟨t6, u6, h6⟩ := err_head (g := "roster/dn.ErrHex") (G := 6) (by kernel_rfl) (by kernel_rfl) h.tail.tail.tail.tail.tail.tail
  obtain ⟨t7, u7, h7⟩ := err_head (g := "roster/dn.ErrTwice") (G := 7) (by kernel_rfl) (by kernel_rfl) h.tail.tail.tail.tail.tail.tail.tail
  obtain ⟨t8, u8, h8⟩ := err_head (g := "roster/dn.ErrWide") (G := 8) (by kernel_rfl) (by kernel_rfl) h.tail.tail.tail.tail.tail.tail.tail.tail
  obtain ⟨t9, u9, h9⟩ := err_head (g := "roster/dn.ErrMade") (G := 9) (by kernel_rfl) (by kernel_rfl) h.tail.tail.tail.tail.tail.tail.tail.tail.tail
  refine ⟨fun k => [(t0, u0), (t1, u1), (t2, u2), (t3, u3), (t4, u4), (t5, u5), (t6, u6), (t7, u7), (t8, u8), (t9, u9)].getD (k - 50) (t0, u0), fun x hx => ?_⟩
  simp only [senL, List.mem_cons, List.mem_nil_iff, or_false] at hx
  rcases hx with rfl | rfl | rfl | rfl | rfl | rfl | rfl | rfl | rfl | rfl
  · exact h0
  · exact h1
  · exact h2
  · exact h3
  · exact h4
  · exact h5
  · exact h6
  · exact h7
  · exact h8
  · exact h9
end Pa
end Go.Proofs.YtkknenmpdimdbaaGreatDoor
