import Derived.Test.YthpfnajgbocpnaaPtAtl
namespace Go.Proofs.Ythpfnajgbocpnaa
namespace Pt
open Go.RowKit Go.Sort Go.Lib
open PtMath (Inc setOf cnt)
open PtHpM (Hd)
open PtCnM (occ)
set_option linter.unusedVariables false
set_option maxRecDepth 100000
open PtT (Rk TB en)
variable {Tk : PtT.Rk}

theorem srow_lit (W : World) (L : List Hd) (t : TypeId) : SRow (W.alloc (.cells (L.map hv).toArray t)) (some ⟨W.heap.size, 0, none⟩) L := fun i hi => by
  refine ⟨W.heap.size, 0, rfl, ?_⟩
  rw [Nat.zero_add]
  have h : (W.alloc (.cells (L.map hv).toArray t)).heap[W.heap.size]? = some (.cells (L.map hv).toArray t (0, 0)) := heap_alloc_new _ _
  rw [cell_of_row _ _ _ _ _ _ h]
  simp [hi]
theorem tot_le (L : List Hd) (m : Nat) (h : ∀ x ∈ L, x.2.2.length ≤ m) : tot (lsts L) ≤ L.length * m := by
  unfold tot lsts
  induction L with
  | nil => simp
  | cons y T ih =>
    have h1 := h y (List.mem_cons_self ..)
    have h2 := ih (fun x hx => h x (List.mem_cons_of_mem _ hx))
    simp only [List.map_cons, List.sum_cons, List.length_cons, Nat.add_mul, Nat.one_mul]
    omega
theorem occ_one (D : List (List Nat)) (x : Nat) : (1 ≤ (occ D x : Int) ∧ 0 < occ D x) ↔ ∃ l ∈ D, x ∈ l := by
  rw [← PtCnM.occ_pos]
  constructor
  · exact fun h => h.2
  · exact fun h => ⟨by omega, h⟩
theorem len_sub : ∀ (M L : List Nat), M.Nodup → (∀ x ∈ M, x ∈ L) → M.length ≤ L.length
  | [], _, _, _ => Nat.zero_le _
  | x :: M, L, h, hs => by
    have h' := List.nodup_cons.1 h
    have hx := hs x (List.mem_cons_self ..)
    have h1 := len_sub M (L.erase x) h'.2 (fun y hy => (List.mem_erase_of_ne (a := y) (b := x) (by intro e; subst e; exact h'.1 hy)).2 (hs y (List.mem_cons_of_mem _ hy)))
    rw [List.length_erase_of_mem hx] at h1
    have h2 : 0 < L.length := List.length_pos_of_mem hx
    simp only [List.length_cons]
    omega
theorem inc_nodup {M : List Nat} (h : Inc M) : M.Nodup := List.Pairwise.imp (fun h => by omega) h
theorem takeI {l k : List Nat} {i : Nat} (h : l.take i = k.take i) (h1 : i < l.length) (h2 : i < k.length) (e : l[i] = k[i]) : l.take (i + 1) = k.take (i + 1) := by
  rw [List.take_succ_eq_append_getElem h1, List.take_succ_eq_append_getElem h2, h, e]
set_option maxRecDepth 100000 in
set_option maxHeartbeats 1000000 in
theorem same_loop (l k : List Nat) (a b : Option Addr) (c d : Nat) (w : World) (hlen : l.length = k.length) (hl : l.length ≤ 4194304) (h1 : NRow Tk w a l) (h2 : NRow Tk w b k) :
    Calls Try.prog 4 #[.slice a l.length c, .slice b k.length d] w fun e w' => e = .returned (.bool (decide (l = k))) ∧ ∃ q, w' = w.drewN q := by
  have hlen' : Hid (l.length = k.length) := hlen
  have hb0 : ((l.length : Int) != (k.length : Int)) = false := by rw [hlen]; simp
  go_enter Try.func4, Try.ntmps4
  clear hlen
  go_wp2_with fail
  go_loopw [5] (fun iv wr => ∃ i q : Nat, i ≤ l.length ∧ iv = .int .i64 (i : Int) ∧ Hid (l.take i = k.take i) ∧ Hid (wr = w.drewN q)) (fun iv _ => l.length - (intOf iv).toNat)
  case atStart => exact ⟨0, 0, Nat.zero_le _, rfl, by unfold Hid; simp, rfl⟩
  case round =>
    obtain ⟨i, q, hi, rfl, htk, hw⟩ := hrel
    have hlen := hlen'.out
    by_cases hlt : i < l.length
    · have hlk : i < k.length := by omega
      obtain ⟨b1, o1, rfl, c1⟩ := h1 i hlt
      obtain ⟨b2, o2, rfl, c2⟩ := h2 i hlk
      have hE : ∀ a, wr.cell? a = w.cell? a := fun a => by rw [hw.out]; rfl
      rw [← hE] at c1 c2
      have i0 : (0 : Int) ≤ (i : Int) := Int.natCast_nonneg _
      have i1 : (i : Int) < (l.length : Int) := Int.ofNat_lt.2 hlt
      have i2 : (i : Int) < (k.length : Int) := Int.ofNat_lt.2 hlk
      by_cases hx : l[i] = k[i]
      · have htk' : Hid (l.take (i + 1) = k.take (i + 1)) := takeI htk.out hlt hlk hx
        rw [← hx] at c2
        clear hx
        generalize TB Tk l[i] = X at *
        clear hE hlen h1 h2
        go_wp2_with fail
        go_quiet (fail)
        go_wp2_with fail
        go_roundw
        case rel => exact ⟨i + 1, _, hlt, by simp, htk', by unfold Hid; rw [hw.out, World.drewN_drewN]⟩
        case measure => simp [intOf]; omega
      · have hne : ((TB Tk l[i]).toList == (TB Tk k[i]).toList) = false := PtT.beq_ne Tk hx
        have hno : Hid (¬ l = k) := by intro q; subst q; exact hx rfl
        clear hx
        generalize TB Tk l[i] = X at *
        generalize TB Tk k[i] = Y at *
        clear hE hlen h1 h2
        go_wp2_with fail
        go_quiet (fail)
        go_wp2_with fail
        go_ret
        exact ⟨by rw [decide_eq_false hno.out]; rfl, _, by rw [hw.out, World.drewN_drewN]⟩
    · have e : i = l.length := by omega
      have hyes : Hid (l = k) := by
        have h := htk.out
        rw [e, List.take_length, hlen, List.take_length] at h
        exact h
      subst e
      have i1 : ¬ (l.length : Int) < (l.length : Int) := by omega
      clear h1 h2 hlen hlt hi
      go_wp2_with fail
      go_ret
      exact ⟨by rw [decide_eq_true hyes.out]; rfl, _, hw.out⟩
set_option maxRecDepth 100000 in
theorem same_any (l k : List Nat) (a b : Option Addr) (c d : Nat) (w : World) (h1 : Rd Tk w a c l) (h2 : Rd Tk w b d k) :
    Calls Try.prog 4 #[.slice a l.length c, .slice b k.length d] w fun e w' => e = .returned (.bool (decide (l = k))) ∧ ∃ q, w' = w.drewN q := by
  by_cases hlen : l.length = k.length
  · exact same_loop l k a b c d w hlen (by have := h1.2.2.2; omega) h1.1 h2.1
  · have hno : Hid (¬ l = k) := by intro q; subst q; exact hlen rfl
    have hb0 : ((l.length : Int) != (k.length : Int)) = true := by simp; omega
    clear hlen h1 h2
    go_enter Try.func4, Try.ntmps4
    go_wp2_with fail
    go_ret
    exact ⟨by rw [decide_eq_false hno.out]; rfl, 0, rfl⟩
theorem same_yes (l k : List Nat) (a b : Option Addr) (c d : Nat) (w : World) (h1 : Rd Tk w a c l) (h2 : Rd Tk w b d k) (he : l = k) :
    Calls Try.prog 4 #[.slice a l.length c, .slice b k.length d] w fun e w' => e = .returned (.bool true) ∧ Below w.heap.size w w' := by
  refine (same_any l k a b c d w h1 h2).mono ?_
  rintro e w' ⟨rfl, q, rfl⟩
  exact ⟨by rw [decide_eq_true he], below_drewN _ _ _⟩
end Pt
end Go.Proofs.Ythpfnajgbocpnaa
