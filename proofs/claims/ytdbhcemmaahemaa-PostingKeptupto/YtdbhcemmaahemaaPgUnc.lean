import Derived.Test.YtdbhcemmaahemaaPgRAl
namespace Go.Proofs.Ytdbhcemmaahemaa
open Go.RowKit Go.Sort Go.Lib
open PgMath (Inc setOf cnt)
open PgHpM (Hd)
set_option linter.unusedVariables false
set_option maxRecDepth 100000

set_option maxRecDepth 100000 in
theorem headers_any (a : Option Addr) (Os : List Hd) (c : Nat) (w : World) (hr : SRow w a Os) (hl : Os.length * 24 ≤ 140737488355328) :
    Calls Try.prog 19 #[.slice a Os.length c] w fun e w' => ∃ a' c', e = .returned (.slice a' Os.length c') ∧ OwnL w' w.heap.size (.slice a' Os.length c') Os ∧ Below w.heap.size w w' := by
  obtain ⟨v, w1, e1, o1, g1⟩ := appendL_row w w.heap.size (.slice none 0 0) [] Os a c (ownL_nil _ _) hr (Nat.le_refl _) (by simpa using hl)
  have b1 := grown_below (ownL_nil w w.heap.size) g1 (Nat.le_refl _)
  rw [List.nil_append] at o1
  obtain ⟨a', c', rfl, _⟩ := ownL_slice o1
  generalize Os.length = n at *
  clear hr hl g1
  go_enter Try.func19, Try.ntmps19
  go_wp2_with (at_builtin; refine Lib.wpList_append_run _ rfl _ _ _ _ rfl _ _ rfl rfl _ _ e1 ?_; clear e1)
  go_ret
  exact ⟨a', c', rfl, o1, b1⟩
/-- What unchanged looks at. -/
def UnC (W : World) (oa ha la : Option Addr) (Os Ss : List Hd) : Prop :=
  SRow W oa Os ∧ SRow W ha Os ∧ SRow W la Ss ∧ lsts Os = lsts Ss ∧ (∀ h ∈ Ss, Rd W h.1 h.2.1 h.2.2) ∧ (∃ B, ∀ h ∈ Os, Spd W B h) ∧ tot (lsts Ss) + Ss.length ≤ 4194304
theorem UnC.below {W W' : World} {oa ha la : Option Addr} {Os Ss : List Hd} (h : UnC W oa ha la Os Ss) (hb : Below W.heap.size W W') : UnC W' oa ha la Os Ss := by
  obtain ⟨h1, h2, h3, h4, h5, ⟨B, h6⟩, h7⟩ := h
  exact ⟨h1.below hb, h2.below hb, h3.below hb, h4, fun x hx => (h5 x hx).below hb, ⟨B, fun x hx => (h6 x hx).below hb⟩, h7⟩

set_option maxRecDepth 1000000 in
set_option maxHeartbeats 2000000 in
theorem unchanged_any (oa ha la : Option Addr) (oc hc lc : Nat) (Os Ss : List Hd) (w : World) (hU : UnC w oa ha la Os Ss) :
    Calls Try.prog 30 #[.slice oa Os.length oc, .slice ha Os.length hc, .slice la Ss.length lc] w fun e w' => e = .returned (.bool true) ∧ Below w.heap.size w w' := by
  have hU' : Hid (UnC w oa ha la Os Ss) := hU
  have hlen : Os.length = Ss.length := by
    have h1 := congrArg List.length hU.2.2.2.1
    unfold lsts at h1
    simpa using h1
  obtain ⟨n, hn⟩ : ∃ n, Ss.length = n := ⟨_, rfl⟩
  have sb : (n : Int) ≤ 4194304 := by have := hU.2.2.2.2.2.2; omega
  rw [hlen, hn]
  have hn' : Hid (Ss.length = n ∧ Os.length = n) := ⟨hn, hlen.trans hn⟩
  clear hU hlen hn
  go_enter Try.func30, Try.ntmps30
  go_wp2_with fail
  go_loopw [7] (fun ivv wr => ∃ i : Nat, ivv = .int .i64 (i : Int) ∧ i ≤ n ∧ Hid (Below w.heap.size w wr)) (fun ivv _ => n - (intOf ivv).toNat)
  case atStart => exact ⟨0, rfl, Nat.zero_le _, Below.refl _ _⟩
  case round =>
    obtain ⟨i, rfl, hi, HB⟩ := hrel
    have i0 : (0 : Int) ≤ (i : Int) := Int.natCast_nonneg _
    by_cases hlt : i < n
    · have i1 : (i : Int) < (n : Int) := Int.ofNat_lt.2 hlt
      have hiS : i < Ss.length := by rw [hn'.out.1]; exact hlt
      have hiO : i < Os.length := by rw [hn'.out.2]; exact hlt
      have hE : ∀ W, Below w.heap.size w W → UnC W oa ha la Os Ss := fun W hW => hU'.out.below hW
      obtain ⟨h1, h2, h3, h4, h5, ⟨B, h6⟩, h7⟩ := hE wr HB.out
      obtain ⟨ob, oo, rfl, c1⟩ := h1 i hiO
      obtain ⟨hb, ho, rfl, c2⟩ := h2 i hiO
      obtain ⟨lb, lo, rfl, c3⟩ := h3 i hiS
      have hl2 : Os[i].2.2 = Ss[i].2.2 := by
        have e1 : (lsts Os)[i]'(by unfold lsts; simpa using hiO) = Os[i].2.2 := by unfold lsts; simp
        have e2 : (lsts Ss)[i]'(by unfold lsts; simpa using hiS) = Ss[i].2.2 := by unfold lsts; simp
        rw [← e1, ← e2]
        simp only [h4]
      have hll : Ss[i].2.2.length ≤ 4194304 := by
        have := tot_take (lsts Ss) (List.mem_map_of_mem (f := fun h : Hd => h.2.2) (List.getElem_mem hiS))
        omega
      have hsp := h6 _ (List.getElem_mem hiO)
      obtain ⟨og, eog, hown⟩ := hsp
      have hcap : Os[i].2.2.length + 1 ≤ Os[i].2.1 := by
        rcases ownI_form hown with ⟨e, _⟩ | ⟨g, cap, e, e2, _⟩
        · cases e
        · injection e with _ _ e; simp at e2; omega
      have hmark : ∀ W, Below wr.heap.size wr W → W.cell? ⟨og, Os[i].2.2.length, none⟩ = some (.int .i64 (-77)) := fun W hW => by
        have hr := (ownI_row (ownI_below hown hW)).1 Os[i].2.2.length (by simp)
        obtain ⟨b', o', e, q⟩ := hr
        injection e with e
        injection e with e1 e2
        subst e1 e2
        rw [Nat.zero_add] at q
        rw [q]
        simp
      have hrd : ∀ W, Below wr.heap.size wr W → Rd W Os[i].1 Os[i].2.1 Os[i].2.2 := fun W hW => Spd.rd ⟨og, eog, ownI_below hown hW⟩ (by rw [hl2]; omega)
      have hrs : ∀ W, Below wr.heap.size wr W → Rd W Ss[i].1 Ss[i].2.1 Ss[i].2.2 := fun W hW => (h5 _ (List.getElem_mem hiS)).below hW
      have hcl : ∀ W, Below wr.heap.size wr W → W.cell? ⟨ob, oo + i, none⟩ = some (hv Os[i]) ∧ W.cell? ⟨lb, lo + i, none⟩ = some (hv Ss[i]) ∧ W.cell? ⟨og, Os[i].2.2.length, none⟩ = some (.int .i64 (-77)) := fun W hW => by
        refine ⟨?_, ?_, hmark W hW⟩
        · rw [hW.cell (World.block_lt_of_cell? wr _ c1)]; exact c1
        · rw [hW.cell (World.block_lt_of_cell? wr _ c3)]; exact c3
      have hlt' : Hid (i < n) := hlt
      generalize hx1 : Os[i] = o at *
      generalize hx2 : Ss[i] = s at *
      obtain ⟨xa, xc, xl⟩ := o
      obtain ⟨ya, yc, yl⟩ := s
      dsimp only at eog hl2 hcap hll hrd hrs hown
      subst eog hl2
      simp only [hv] at c1 c2 c3 hcl
      have hs1 : ∀ W, (Instr.sliceAt 35 (.slice (some ⟨og, 0, none⟩) xl.length xc) none (some (.int .i64 ((xl.length : Int) + 1))) none).run Try.prog W = .ok (.slice (some ⟨og, 0, none⟩) (xl.length + 1) xc) W := fun W => half_l _ _ xc (xl.length + 1) _ (by simp) hcap W
      have hs2 : ∀ W, (Instr.sliceAt 35 (.slice (some ⟨og, 0, none⟩) (xl.length + 1) xc) none (some (.int .i64 (xl.length : Int))) none).run Try.prog W = .ok (.slice (some ⟨og, 0, none⟩) xl.length xc) W := fun W => half_l _ _ xc xl.length _ rfl (by omega) W
      have hsm : ∀ W, Hid (Below wr.heap.size wr W → Calls Try.prog 26 #[.slice (some ⟨og, 0, none⟩) xl.length xc, .slice ya xl.length yc] W fun e w' => e = .returned (.bool true) ∧ Below W.heap.size W w') := fun W hW => same_yes xl xl (some ⟨og, 0, none⟩) ya xc yc W (hrd W hW) (hrs W hW) rfl
      have hcl' : Hid (∀ W, Below wr.heap.size wr W → W.cell? ⟨ob, oo + i, none⟩ = some (.slice (some ⟨og, 0, none⟩) xl.length xc) ∧ W.cell? ⟨lb, lo + i, none⟩ = some (.slice ya xl.length yc) ∧ W.cell? ⟨og, xl.length, none⟩ = some (.int .i64 (-77))) := hcl
      have xb : (xl.length : Int) ≤ 4194304 := by omega
      have x0 : (0 : Int) ≤ (xl.length : Int) := Int.natCast_nonneg _
      have x1 : (xl.length : Int) < (xl.length : Int) + 1 := by omega
      generalize xl.length = m at *
      clear h1 h2 h3 h4 h5 h6 h7 hE hown hcap hmark hrd hrs hcl hx1 hx2 hi hlt hiS hiO hll
      have HD : Hid (Below wr.heap.size wr wr.drew) := below_drewN _ _ 1
      have cd := hcl'.out wr.drew HD.out
      go_wp2_with fail
      go_region_held3 (fun w' => w'.cell? ⟨ob, oo + i, none⟩ = some (.slice (some ⟨og, 0, none⟩) m xc) ∧ w'.cell? ⟨lb, lo + i, none⟩ = some (.slice ya m yc) ∧ w'.cell? ⟨og, m, none⟩ = some (.int .i64 (-77)))
        (first | exact cc6 | exact cc5 | exact cd)
        (first
          | (refine (Hid.out H5 |> fun _ => ?_); go_at_call 26; refine ((hsm w5).out H5.out).mono ?_; rintro e w6 ⟨rfl, hb6⟩; have H6 : Hid (Below wr.heap.size wr w6) := H5.out.trans (hb6.mono H5.out.size); have cc6 := hcl'.out w6 H6.out; clear hb6)
          | (go_at_call 26; refine ((hsm wr.drew).out HD.out).mono ?_; rintro e w5 ⟨rfl, hb5⟩; have H5 : Hid (Below wr.heap.size wr w5) := HD.out.trans (hb5.mono HD.out.size); have cc5 := hcl'.out w5 H5.out; clear hb5))
      clear cd cc5 cc6
      have hfin : Hid (Below w.heap.size w w6) := HB.out.trans (H6.out.mono HB.out.size)
      go_wp2_with fail
      go_roundw
      case rel => exact ⟨i + 1, by simp, hlt'.out, hfin⟩
      case measure => have := hlt'.out; simp [intOf]; omega
    · have e : i = n := by omega
      subst e
      have i1 : ¬ (i : Int) < (i : Int) := by omega
      clear hi hlt
      go_wp2_with fail
      go_ret
      exact ⟨rfl, HB.out⟩
end Go.Proofs.Ytdbhcemmaahemaa
