import Derived.Test.YtihjlcclaoofhaaDoorKeQ
import Derived.Test.YtihjlcclaoofhaaDoorDuB
import Derived.Test.YtihjlcclaoofhaaDoorPyB
import Derived.Test.YtihjlcclaoofhaaDoorPyD
import Derived.Test.YtihjlcclaoofhaaDoorPyE
import Derived.Test.YtihjlcclaoofhaaDoorKeO
namespace Go.Proofs.YtihjlcclaoofhaaDoor
namespace Ke
open Go.RowKit Go.Lib
open Du (PRow DRow PX sd sd_len drow_at pV pV_len xV_len prow_at CpQ copyDN_any PO)
set_option linter.unusedVariables false
set_option linter.unusedSimpArgs false
set_option maxRecDepth 100000

theorem po_row {B : Nat} {r : PX} {W : World} (h : PO B r W) : PRow W r.1 r.2.2 ∧ r.2.2.length + 1 ≤ r.2.1 ∧ r.2.1 ≤ maxLen := by
  obtain ⟨g, e, h1⟩ := h
  obtain ⟨a, c, h2, h3, h4, h5⟩ := h1.row pV_len
  injection h2 with e1 _ e2
  subst e1 e2
  rw [List.length_append] at h3
  rw [e]
  exact ⟨h5.front, h3, h4⟩
/-- copyDN's answer is a name that says the same. -/
theorem cp_row {w w' : World} {L : List PX} {n : Nat} {a : Option Addr} {c : Nat} {Os : List PX} (h : CpQ w L n a c Os w') (hn : L.length = n) : DRow w' a Os ∧ sd Os = sd L ∧ Os.length = n ∧ Below w.heap.size w w' := by
  obtain ⟨h1, h2, h3, ⟨g, zg, rfl, h4, h4'⟩, h5, h6, h7, h8⟩ := h
  obtain ⟨a, c, e, _, _, hr⟩ := h4.row xV_len
  injection e with e1 _ e2
  subst e1
  refine ⟨⟨hr.front, fun r hr => ⟨(po_row (h6 r hr)).1, by have := (po_row (h6 r hr)).2.1; omega, (po_row (h6 r hr)).2.2⟩⟩, ?_, h1, h7⟩
  unfold Du.sd
  refine List.ext_getElem (by rw [List.length_map, List.length_map, h1, hn]) (fun i q1 q2 => ?_)
  rw [List.getElem_map, List.getElem_map]
  exact h5 i (by simpa using q1) (by simpa using q2)
theorem szs_of {L M : List PX} (h : Szs L) (e : sd M = sd L) : Szs M := by
  have key : ∀ r ∈ M, ∃ r' ∈ L, r'.2.2 = r.2.2 := fun r hr => by
    have h1 : r.2.2 ∈ sd M := List.mem_map.2 ⟨r, hr, rfl⟩
    rw [e] at h1
    obtain ⟨r', h2, h3⟩ := List.mem_map.1 h1
    exact ⟨r', h2, h3⟩
  have hl : M.length = L.length := by rw [← sd_len M, e, sd_len]
  refine ⟨fun r hr => ?_, fun r hr => ?_, by rw [hl]; exact h.2.2⟩
  · obtain ⟨r', h2, h3⟩ := key r hr
    rw [← h3]
    exact h.1 r' h2
  · obtain ⟨r', h2, h3⟩ := key r hr
    rw [← h3]
    exact h.2.1 r' h2
end Ke
end Go.Proofs.YtihjlcclaoofhaaDoor

namespace Go.Proofs.YtihjlcclaoofhaaDoor
namespace Pa
open Go.RowKit Go.WideShapes Go.ChangeShapes
open Ke (mst PR OkD OkP OkI tyOk tyC utf perr rerr cer Az dtx dtT dW rW rer_ok PrF refV print_any ErrsF ptW Szs szs_of sound_any SdQ zP zR rows_of rdn_of sum_mem sum_len err_head cp_row)
open Du (PRow DRow PX sd sd_len drow_at prow_at pV xV pV_len CpQ copyDN_any sameDN_any)
set_option linter.unusedVariables false
set_option linter.unusedSimpArgs false
set_option maxRecDepth 100000

theorem perr_ok : ∀ (ps : List PR) (seen : List (List UInt8)), perr seen ps = 0 → ∀ i (h : i < ps.length), tyOk ps[i].1 = true ∧ tyC ps[i].1 ∉ seen ++ (ps.take i).map (fun p => tyC p.1) ∧ utf ps[i].2 = true
  | [], _, _, i, h => by simp at h
  | p :: t, seen, h, i, hi => by
    unfold perr at h
    by_cases h1 : tyOk p.1 = false
    · rw [if_pos h1] at h; omega
    · rw [if_neg h1] at h
      by_cases h2 : tyC p.1 ∈ seen
      · rw [if_pos h2] at h; omega
      · rw [if_neg h2] at h
        by_cases h3 : utf p.2 = false
        · rw [if_pos h3] at h; omega
        · rw [if_neg h3] at h
          cases i with
          | zero => exact ⟨by simpa using h1, by simpa using h2, by simpa using h3⟩
          | succ i =>
            have := perr_ok t (seen ++ [tyC p.1]) h i (by simpa using hi)
            simpa [List.append_assoc] using this
theorem rerr_okP {ps : List PR} (h : rerr ps = 0) : OkP ps := by
  unfold rerr at h
  by_cases h1 : ps.length = 0
  · rw [if_pos h1] at h; omega
  · rw [if_neg h1] at h
    by_cases h2 : 8 < ps.length
    · rw [if_pos h2] at h; omega
    · rw [if_neg h2] at h
      exact ⟨by omega, by omega, fun i hi => ⟨hi, by have := perr_ok ps [] h i hi; simpa using this⟩⟩
theorem az_ok (D : List (List PR)) : Az D ↔ OkD D := by
  constructor
  · intro h
    have hl : D.length ≤ 64 := by
      apply Nat.le_of_not_lt
      intro q
      have := h 64 q
      unfold cer at this
      rw [if_pos (by omega)] at this
      omega
    refine ⟨hl, fun r hr => ?_⟩
    obtain ⟨j, hj, rfl⟩ := List.getElem_of_mem hr
    have := h j hj
    unfold cer at this
    rw [if_neg (by omega)] at this
    exact rerr_okP this
  · intro h j hj
    unfold cer
    have := h.1
    rw [if_neg (by omega)]
    exact rer_ok (h.2 _ (List.getElem_mem hj))
theorem dtx_dX (D : List (List PR)) : dtx D = dX D := by cases D <;> rfl
theorem pW_le (p : PR) : pW p ≤ ptW p := by
  have := exS_le p.2 p.2.length
  have e : ptW p = p.1.length + 3 * p.2.length + 2 := rfl
  unfold pW
  omega
theorem rS_W (r : List PR) : rS r ≤ rW r := by
  have key : ∀ l : List PR, (l.map pW).sum ≤ (l.map ptW).sum := fun l => by
    induction l with
    | nil => simp
    | cons p l ih => have := pW_le p; simp only [List.map_cons, List.sum_cons]; omega
  have := key r
  unfold rS rW
  omega
theorem dS_W (D : List (List PR)) : dS D ≤ dW D := by
  unfold dS dW
  induction D with
  | nil => simp
  | cons r D ih => have := rS_W r; simp only [List.map_cons, List.sum_cons]; omega
theorem prn {ev : Nat → TypeId × Value} {w w' : World} {D : List (List PR)} {e : Ending} (h : PrF ev w D e w') :
    (OkD D ∧ dS D - 1 ≤ 4096 → e = .returned (.tuple #[.string (S (dX D)), .nilIface])) ∧ (¬ (OkD D ∧ dS D - 1 ≤ 4096) → ∃ k i, e = .returned (.tuple #[.string ⟨#[]⟩, refV ev k i])) := by
  rcases h.2 with ⟨h1, h2, h3⟩ | ⟨h1, h2, h3⟩ | ⟨k, h1, h2, h3⟩
  · have ho := (az_ok D).1 h1
    rw [dtx_dX] at h2 h3
    rw [dX_len (fun r hr => (ho.2 r hr).1)] at h2
    exact ⟨fun _ => h3, fun q => absurd ⟨ho, h2⟩ q⟩
  · have ho := (az_ok D).1 h1
    rw [dtx_dX, dX_len (fun r hr => (ho.2 r hr).1)] at h2
    exact ⟨fun q => by omega, fun _ => ⟨_, _, h3⟩⟩
  · exact ⟨fun q => (Ke.fs_az h2 ((az_ok D).2 q.1)).elim, fun _ => ⟨_, _, h3⟩⟩
theorem evF {ev : Nat → TypeId × Value} {W : World} (h : EvA ev W) : ErrsF ev W ∧ W.cell? ⟨0, 0, none⟩ = some (.iface (ev 50).1 (ev 50).2) :=
  ⟨⟨h (58, 2) (by decide), h (59, 3) (by decide), h (57, 4) (by decide), h (51, 1) (by decide)⟩, h (50, 0) (by decide)⟩
/-- What the walk asks of the name. -/
def Sz6 (L : List PX) : Prop := Szs L ∧ dW (sd L) ≤ 3145728
theorem print_of (ev : Nat → TypeId × Value) (sa : Option Addr) (sc n : Nat) (L : List PX) (w : World) (hE : EvA ev w) (hn : L.length = n) (hr : DRow w sa L) (hz : Sz6 L) :
    Calls Tryd.prog 6 #[.slice sa n sc] w fun e w' => PrF ev w (sd L) e w' :=
  print_any ev sa sc n L w (evF hE).1 (evF hE).2 hn hr hz.1.1 hz.1.2.1 (by have := hz.1.2.2; omega) (by have := hz.2; omega)

theorem hx_none (ev : Nat → TypeId × Value) (s : ByteArray) (b : Nat) : HxOk (fun _ => none) ev s b := fun r R p W h => by cases h
/-- What Parse answers of a printed name. -/
theorem parse_back (ev : Nat → TypeId × Value) (D : List (List PR)) (w : World) (hE : EvA ev w) (hD : OkD D) (hl : dS D - 1 ≤ 4096) :
    Calls Tryd.prog 8 #[.string (S (dX D))] w fun e w' => Below w.heap.size w w' ∧ ∃ va c Ls, e = .returned (.tuple #[.slice va D.length c, .nilIface]) ∧ DRow w' va Ls ∧ sd Ls = D := by
  have hx := dX_len (fun r hr => (hD.2 r hr).1)
  refine (parse_any (fun _ => none) ev (dX D) w (.ok D) (by omega) hE (hx_none ev _) (prs_print _ D hD (by omega))).mono ?_
  rintro e w' ⟨hb, ⟨D', va, c, Ls, h1, h2, h3, h4⟩ | ⟨k, m, h1, h2⟩⟩
  · injection h1 with h1
    subst h1
    exact ⟨hb, va, c, Ls, h2, h3, h4⟩
  · cases h1
theorem sz6_of {L M : List PX} (h : Sz6 L) (e : sd M = sd L) : Sz6 M := ⟨szs_of h.1 e, by rw [e]; exact h.2⟩
theorem str_self (s : ByteArray) : (s.toList == s.toList) = true := beq_self_eq_true _
theorem z_self : ((⟨#[]⟩ : ByteArray).toList == (⟨#[]⟩ : ByteArray).toList) = true := beq_self_eq_true _
set_option maxHeartbeats 4000000 in
theorem dnBack_walk (ev : Nat → TypeId × Value) (sa : Option Addr) (sc n : Nat) (L : List PX) (w : World) (hE : EvA ev w) (hn : L.length = n) (hr : DRow w sa L) (hz : Sz6 L) :
    Calls Tryd.prog 3 #[.slice sa n sc] w fun e w' => e = .returned (.bool true) ∧ Below w.heap.size w w' := by
  have nb : (n : Int) ≤ 1073741824 := by have := hz.1.2.2; omega
  have hSd : Hid (Calls Tryd.prog 4 #[.slice sa n sc] w fun e w' => SdQ w (OkD (sd L)) e w') := sound_any sa sc n L w hn hr hz.1
  have hn' : Hid (L.length = n) := hn
  have hr' : Hid (DRow w sa L) := hr
  have hE' : Hid (EvA ev w) := hE
  have hz' : Hid (Sz6 L) := hz
  obtain ⟨m, hm⟩ : ∃ m, dS (sd L) - 1 = m := ⟨_, rfl⟩
  have hm' : Hid (dS (sd L) - 1 = m) := hm
  have m0 : (0 : Int) ≤ (m : Int) := Int.natCast_nonneg _
  have mb : (m : Int) ≤ 1073741824 := by have := dS_W (sd L); have := hz.2; omega
  clear hE hn hr hz hm
  go_enter Tryd.func3, Tryd.ntmps3
  go_wp2_with fail
  refine hSd.out.mono ?_
  rintro e W1 ⟨⟨g, rfl, hg⟩, hb1⟩
  have hb1' : Hid (Below w.heap.size w W1) := hb1
  have hg' : Hid (g = true ↔ OkD (sd L)) := hg
  have hPt : Hid (Calls Tryd.prog 5 #[.slice sa n sc] W1 fun e w' => e = .returned (.int .i64 (m : Int)) ∧ w' = W1) := by
    have h := printed_any sa sc n L W1 hn'.out (hr'.out.below hb1) (by have := dS_W (sd L); have := hz'.out.2; omega) (by have := hz'.out.1.2.2; omega)
    rw [hm'.out] at h
    exact h
  clear hSd hg hb1
  go_wp2_with fail
  refine hPt.out.mono ?_
  rintro e w' ⟨rfl, hww⟩
  obtain rfl := hww.symm
  have hC : Hid (Calls Tryd.prog 7 #[.slice sa n sc] W1 fun e w1 => ∃ a c Os, e = .returned (.slice a n c) ∧ CpQ W1 L n a c Os w1) := (copyDN_any sa sc L n W1 hn'.out (hr'.out.below hb1'.out) (fun r hr => by have := hz'.out.1.2.1 r hr; omega) (by have := hz'.out.1.2.2; have := hn'.out; omega)).mono (fun e w' h => by obtain ⟨a, c, Os, h1, h2⟩ := h; exact ⟨a, c, Os, h1, h2⟩)
  clear hPt
  go_wp2_with fail
  refine hC.out.mono ?_
  rintro e W2 ⟨a, c, Os, rfl, hQ⟩
  have hcp := cp_row hQ hn'.out
  have hb2 : Hid (Below w.heap.size w W2) := hb1'.out.trans (hcp.2.2.2.mono hb1'.out.size)
  have hP : Hid (Calls Tryd.prog 6 #[.slice a n c] W2 fun e w' => PrF ev W2 (sd L) e w') := by
    have h := print_of ev a c n Os W2 (hE'.out.below hb2.out) hcp.2.2.1 hcp.1 (sz6_of hz'.out hcp.2.1)
    rw [hcp.2.1] at h
    exact h
  clear hC hQ hcp hb1'
  go_wp2_with fail
  refine hP.out.mono ?_
  rintro e W3 hp
  have hb3 : Hid (Below w.heap.size w W3) := hb2.out.trans (hp.1.mono hb2.out.size)
  have hpn := prn hp
  clear hP hp hb2
  by_cases hok : OkD (sd L) ∧ m ≤ 4096
  · obtain rfl := hpn.1 (by rw [hm'.out]; exact hok)
    have hok' : Hid (OkD (sd L) ∧ m ≤ 4096) := hok
    have hgt : g = true := hg'.out.2 hok.1
    subst hgt
    have hml : ¬ (4096 : Int) < (m : Int) := by omega
    have hsz : Hid ((S (dX (sd L))).size = m) := by unfold Hid; rw [S_size, dX_len (fun r hr => (hok.1.2 r hr).1)]; exact hm'.out
    have hPb : Hid (∀ W, Below w.heap.size w W → Calls Tryd.prog 8 #[.string (S (dX (sd L)))] W fun e w' => Below W.heap.size W w' ∧ ∃ va c Ls, e = .returned (.tuple #[.slice va n c, .nilIface]) ∧ DRow w' va Ls ∧ sd Ls = sd L) := fun W hb => by
      have h := parse_back ev (sd L) W (hE'.out.below hb) hok.1 (by rw [hm'.out]; exact hok.2)
      rw [sd_len, hn'.out] at h
      exact h
    clear hpn hok hg'
    have hPr : Hid (∀ va c Ls W, Below w.heap.size w W → DRow W va Ls → sd Ls = sd L → Calls Tryd.prog 6 #[.slice va n c] W fun e w' => Below W.heap.size W w' ∧ e = .returned (.tuple #[.string (S (dX (sd L))), .nilIface])) := fun va c Ls W hb hr hs => by
      refine (print_of ev va c n Ls W (hE'.out.below hb) (by rw [← sd_len, hs, sd_len]; exact hn'.out) hr (sz6_of hz'.out hs)).mono fun e w' h => ?_
      rw [hs] at h
      exact ⟨h.1, (prn h).1 (by rw [hm'.out]; exact hok'.out)⟩
    generalize S (dX (sd L)) = s at *
    obtain rfl := hsz.out
    have ss := str_self s
    clear hsz hok'
    go_wp2_with fail
    refine (hPb.out W3 hb3.out).mono ?_
    rintro e W4 ⟨hb4, va, cc, Ls, rfl, hD4, hs4⟩
    have hb4' : Hid (Below w.heap.size w W4) := hb3.out.trans (hb4.mono hb3.out.size)
    have hD4' : Hid (DRow W4 va Ls ∧ sd Ls = sd L) := ⟨hD4, hs4⟩
    have hSm : Hid (Calls Tryd.prog 9 #[.slice va n cc, .slice sa n sc] W4 fun e w' => e = .returned (.bool true) ∧ ∃ q, w' = W4.drewN q) :=
      sameDN_any va sa cc sc Ls L n W4 (by rw [← sd_len, hs4, sd_len]; exact hn'.out) hn'.out (by have := hz'.out.1.2.2; have := hn'.out; omega) hD4 (hr'.out.below hb4'.out) hs4 (fun r hr => by have := (sz6_of hz'.out hs4).1.2.1 r hr; omega)
    clear hPb hb4 hD4 hs4 hb3
    go_wp2_with fail
    refine hSm.out.mono ?_
    rintro e W5 ⟨rfl, q, hq⟩
    have hb5 : Hid (Below w.heap.size w W5) := by unfold Hid; rw [hq]; exact hb4'.out.trans ⟨rfl, rfl, rfl, Nat.le_refl _, fun _ _ => rfl⟩
    have hD5 : Hid (Calls Tryd.prog 6 #[.slice va n cc] W5 fun e w' => Below W5.heap.size W5 w' ∧ e = .returned (.tuple #[.string s, .nilIface])) :=
      hPr.out va cc Ls W5 hb5.out (by rw [hq]; exact hD4'.out.1.below ⟨rfl, rfl, rfl, Nat.le_refl _, fun _ _ => rfl⟩) hD4'.out.2
    clear hSm hq hb4' hD4' hPr
    go_wp2_with fail
    refine hD5.out.mono ?_
    rintro e W6 ⟨hb6, rfl⟩
    have hfin : Hid (Below w.heap.size w W6) := hb5.out.trans (hb6.mono hb5.out.size)
    clear hD5 hb6 hb5
    go_wp2_with fail
    go_ret
    exact ⟨rfl, hfin.out⟩
  · obtain ⟨k, i, he⟩ := hpn.2 (by rw [hm'.out]; exact hok)
    unfold refV at he
    obtain rfl := he
    have zz := z_self
    cases g with
    | false =>
      have hfin : Hid (Below w.heap.size w W3) := hb3.out
      clear hpn hok hg'
      go_wp2_with fail
      go_ret
      exact ⟨rfl, hfin.out⟩
    | true =>
      have hml : (4096 : Int) < (m : Int) := by
        have := hg'.out.1 rfl
        have : ¬ m ≤ 4096 := fun q => hok ⟨this, q⟩
        omega
      have hfin : Hid (Below w.heap.size w W3) := hb3.out
      clear hpn hok hg'
      go_wp2_with fail
      go_ret
      exact ⟨rfl, hfin.out⟩
end Pa
end Go.Proofs.YtihjlcclaoofhaaDoor

namespace Go.Proofs.YtihjlcclaoofhaaDoor
namespace Pa
open Go.RowKit Go.WideShapes Go.ChangeShapes
open Ke (mst PR dW ptW Szs zP zR rows_of rdn_of sum_mem sum_len err_head)
open Du (PRow DRow PX GRow sd sd_len pV xV pV_len xV_len add_o)
set_option linter.unusedVariables false
set_option linter.unusedSimpArgs false
set_option maxRecDepth 100000

theorem dW_zR : ∀ L : List PX, dW (sd L) ≤ 3 * (L.map zR).sum
  | [] => Nat.le_refl _
  | r :: L => by
    have ih := dW_zR L
    have h1 : ∀ l : List PR, (l.map ptW).sum ≤ 3 * (l.map zP).sum := fun l => by
      induction l with
      | nil => simp
      | cons p l ih =>
        have e1 : ptW p = p.1.length + 3 * p.2.length + 2 := rfl
        have e2 : zP p = p.1.length + p.2.length + 1 := rfl
        simp only [List.map_cons, List.sum_cons]
        omega
    have h2 := h1 r.2.2
    have e1 : dW (sd (r :: L)) = ((r.2.2.map ptW).sum + 1) + dW (sd L) := by unfold dW sd; simp only [List.map_cons, List.sum_cons]; rfl
    have e2 : zR r = (r.2.2.map zP).sum + 1 := rfl
    rw [e1]
    simp only [List.map_cons, List.sum_cons]
    omega
/-- A name that came in, its sizes besides. -/
theorem dn_in {H : Type} {enc : TypeId × Value → H} {w : World} {base : Nat} {spare : Nat → Bool} {held : Bool} {v : Value} {d : DataW H} {p : List MemPlace}
    (hf : DataW.Trod enc Tryd.prog w base spare held 23 v d p) (hv1 : v.cells = #[v]) (hB : Rows.uptoBulk d ≤ 1048576) : ∃ a L cap, v = .slice a L.length cap ∧ DRow w a L ∧ Sz6 L ∧ True := by
  obtain ⟨fuel, hf⟩ := hf
  rw [hv1] at hf
  have e3 : Tryd.prog.cellsOf 36 = 1 := by kernel_rfl
  obtain ⟨a, L, cap, hv, hr, hP, hb, hc, hm⟩ := rows_of ((none, 0, []) : PX) xV 1 (fun x => PRow w x.1 x.2.2 ∧ x.2.2.length ≤ x.2.1 ∧ x.2.1 ≤ maxLen) zR Tryd.underlying23 e3 (by decide) (fun x => ⟨_, rfl⟩) (d := d) (p := p) (fun n cs d p h => rdn_of h) hf
  have hW := dW_zR L
  have hsz : ∀ r ∈ L, ∀ p ∈ r.2.2, p.1.length + p.2.length ≤ 1048576 := fun r hr p hp => by
    have h1 := sum_mem zR L r hr
    have h2 := sum_mem zP r.2.2 p hp
    have h3 : zR r = (r.2.2.map zP).sum + 1 := rfl
    have h4 : zP p = p.1.length + p.2.length + 1 := rfl
    omega
  refine ⟨a, L, cap, hv, ⟨hr, hP⟩, ⟨⟨fun r hr p hp => Nat.le_trans (hsz r hr p hp) (by omega), fun r hr => ?_, ?_⟩, by omega⟩, trivial⟩
  · have h1 := sum_mem zR L r hr
    have h2 := sum_len zP (fun _ => by unfold zP; omega) r.2.2
    have h3 : zR r = (r.2.2.map zP).sum + 1 := rfl
    omega
  · have h2 := sum_len zR (fun x => by unfold zR; omega) L
    omega
/-- What the row lists. -/
theorem laid_in {W : World} {L0 : List (String × DataW Unit)} (e0 : L0 = [("roster/dn.ErrLong", Rows.laid_roster_dn_ErrLong), ("roster/dn.ErrUTF8", Rows.laid_roster_dn_ErrUTF8), ("roster/dn.ErrType", Rows.laid_roster_dn_ErrType), ("roster/dn.ErrEquals", Rows.laid_roster_dn_ErrEquals), ("roster/dn.ErrEscape", Rows.laid_roster_dn_ErrEscape), ("roster/dn.ErrChar", Rows.laid_roster_dn_ErrChar), ("roster/dn.ErrHex", Rows.laid_roster_dn_ErrHex), ("roster/dn.ErrTwice", Rows.laid_roster_dn_ErrTwice), ("roster/dn.ErrWide", Rows.laid_roster_dn_ErrWide), ("roster/dn.ErrMade", Rows.laid_roster_dn_ErrMade)]) (hp : laidMetH Tryd.prog L0 W ↔ laidMet Tryd.prog L0 W) (hL : laidMetH Tryd.prog L0 W) : ∃ ev, EvA ev W := by
  have h := hp.1 hL
  rw [e0] at h
  obtain ⟨t0, u0, h0⟩ := err_head (g := "roster/dn.ErrLong") (G := 0) (by kernel_rfl) (by kernel_rfl) h
  obtain ⟨t1, u1, h1⟩ := err_head (g := "roster/dn.ErrUTF8") (G := 1) (by kernel_rfl) (by kernel_rfl) h.tail
  obtain ⟨t2, u2, h2⟩ := err_head (g := "roster/dn.ErrType") (G := 5) (by kernel_rfl) (by kernel_rfl) h.tail.tail
  obtain ⟨t3, u3, h3⟩ := err_head (g := "roster/dn.ErrEquals") (G := 6) (by kernel_rfl) (by kernel_rfl) h.tail.tail.tail
  obtain ⟨t4, u4, h4⟩ := err_head (g := "roster/dn.ErrEscape") (G := 7) (by kernel_rfl) (by kernel_rfl) h.tail.tail.tail.tail
  obtain ⟨t5, u5, h5⟩ := err_head (g := "roster/dn.ErrChar") (G := 8) (by kernel_rfl) (by kernel_rfl) h.tail.tail.tail.tail.tail
  obtain ⟨t6, u6, h6⟩ := err_head (g := "roster/dn.ErrHex") (G := 9) (by kernel_rfl) (by kernel_rfl) h.tail.tail.tail.tail.tail.tail
  obtain ⟨t7, u7, h7⟩ := err_head (g := "roster/dn.ErrTwice") (G := 4) (by kernel_rfl) (by kernel_rfl) h.tail.tail.tail.tail.tail.tail.tail
  obtain ⟨t8, u8, h8⟩ := err_head (g := "roster/dn.ErrWide") (G := 2) (by kernel_rfl) (by kernel_rfl) h.tail.tail.tail.tail.tail.tail.tail.tail
  obtain ⟨t9, u9, h9⟩ := err_head (g := "roster/dn.ErrMade") (G := 3) (by kernel_rfl) (by kernel_rfl) h.tail.tail.tail.tail.tail.tail.tail.tail.tail
  refine ⟨fun k => [(t0, u0), (t1, u1), (t2, u2), (t3, u3), (t4, u4), (t5, u5), (t6, u6), (t7, u7), (t8, u8), (t9, u9)].getD (k - 50) (t0, u0), fun x hx => ?_⟩
  simp only [senL, List.mem_cons, List.mem_nil_iff, or_false] at hx
  rcases hx with rfl | rfl | rfl | rfl | rfl | rfl | rfl | rfl | rfl | rfl
  · exact h0
  · exact h1
  · exact h2
  · exact h3
  · exact h4
  · exact h5
  · exact h6
  · exact h7
  · exact h8
  · exact h9
end Pa
end Go.Proofs.YtihjlcclaoofhaaDoor
