import Derived.Test.YtoomoicjoockjaaGreatDoorRrG
import Derived.Test.YtoomoicjoockjaaGreatDoorRdI
import Derived.Test.YtoomoicjoockjaaGreatDoorLrI
import Derived.BigQuiet
namespace Go.Proofs.YtoomoicjoockjaaGreatDoor
namespace Rd
open Go.RowKit
open TextMath (fold unb)
open LdMath
open Lr (PR RC pf chg okD dnB GOwn GRow pV pV_len Kd append_gen RX PX rV rV_len said RRow PRow)
set_option linter.unusedVariables false
set_option maxRecDepth 100000

theorem G_in : ∀ (n : Nat) (L : Ls), ∀ g ∈ grpF n L, g ≠ [] ∧ g.Sublist L
  | 0, L, g, h => by simp [grpF] at h
  | n + 1, L, g, h => by
    rw [grpF] at h
    have hs : (L.dropWhile (fun p => !(nbl p))).Sublist L := List.dropWhile_sublist _
    cases hd : L.dropWhile (fun p => !(nbl p)) with
    | nil => rw [hd] at h; simp at h
    | cons x l =>
      rw [hd] at h hs
      rcases List.mem_cons.1 h with rfl | h
      · exact ⟨by simp, ((List.takeWhile_sublist _).cons_cons x).trans hs⟩
      · obtain ⟨h1, h2⟩ := G_in n _ g h
        exact ⟨h1, ((h2.trans (List.dropWhile_sublist _)).cons x).trans hs⟩
theorem grpF_len : ∀ (n : Nat) (L : Ls), (grpF n L).length ≤ L.length
  | 0, L => Nat.zero_le _
  | n + 1, L => by
    rw [grpF]
    have hs := drop_len (fun p => !(nbl p)) L
    cases hd : L.dropWhile (fun p => !(nbl p)) with
    | nil => simp
    | cons x l =>
      rw [hd, List.length_cons] at hs
      have h1 := grpF_len n (l.dropWhile nbl)
      have h2 := drop_len nbl l
      show (grpF n (l.dropWhile nbl)).length + 1 ≤ _
      omega
theorem grA_zero (E : Nat) (F : Ls) (h : (grA E F).2.1 = 0) : (grA E F).2 = (0, 0) := by
  unfold grA at h ⊢
  cases hd : F.dropWhile (fun p => !(nbl p)) with
  | nil => rw [hd] at h; simp at h
  | cons x l =>
    rw [hd] at h
    dsimp only at h ⊢
    split at h
    · simp at h
    · split at h
      · simp at h
      · rename_i h1 h2
        rw [if_neg h1, if_neg h2]
theorem grA_len (E : Nat) (F : Ls) : (grA E F).1.length ≤ F.length := by
  unfold grA
  have hs := drop_len (fun p => !(nbl p)) F
  cases hd : F.dropWhile (fun p => !(nbl p)) with
  | nil => simp
  | cons x l =>
    rw [hd, List.length_cons] at hs
    dsimp only
    split
    · simp
    · split
      · simp
      · have := grpF_len (l.length + 1) l
        show (G l).length ≤ _
        unfold G
        omega
/-- A record appended. -/
theorem push_rec (w : World) {ops : Array Oper} {rest : List Oper} {o : Oper} {a : Act} {Q : Exit → Act → World → Prop} (hgd : o.guard = none) (s x : Operand)
    (ho : o.op = .call { callee := .builtin .append, args := #[s, x], argTypes := #[22, 22] }) (ht : o.type = 22) (B : Nat) (v : Value) (rs : List Rc) (Rs : List RX) (r : Rc) (p : RX) (g : Nat)
    (hs : a.eval s = v) (hx : a.eval x = .slice (some ⟨g, 0, none⟩) 1 1) (hown : LdIs B rs v Rs w) (hg : GRow 3 rV w (some ⟨g, 0, none⟩) [p]) (hp : PO B p w) (he : (p.1, p.2.1, p.2.2.2.2) = ((r.1 : Int), r.2.1, r.2.2)) (hB : B ≤ w.heap.size) (hl : Rs.length ≤ 16777216)
    (h : ∀ a' c' w', LdIs B (rs ++ [r]) (.slice a' (Rs.length + 1) c') (Rs ++ [p]) w' → Below B w w' → wpList Tryz.prog ops Q rest (a.put o.dst (.slice a' (Rs.length + 1) c')) w') :
    wpList Tryz.prog ops Q (o :: rest) a w := by
  obtain ⟨k1, k2, k3⟩ := hown
  obtain ⟨v', w', e1, o1, g1, b1⟩ := append_gen KDr w B v Rs [p] (some ⟨g, 0, none⟩) 1 1 k2 hg rfl hB (by simp; omega)
  obtain ⟨a', c', hv, _⟩ := o1.row rV_len
  rw [List.length_append, List.length_singleton] at hv
  subst hv
  have hkeep : ∀ q, PO B q w → PO B q w' := fun q hq => by
    refine Lr.owns_same hq (fun b hb => ?_)
    have hlt := (World.ownsRow.lt (show w.ownsRow _ _ _ _ _ _ from hq) b hb).2
    refine g1.block b hlt (fun e => ?_)
    obtain ⟨cs, hcs⟩ := owns_typ (show w.ownsRow B 50 2 _ _ _ from hq) hb
    obtain ⟨ds, hds⟩ := owns_typ (show w.ownsRow B 34 3 _ _ _ from k2) e.symm
    rw [hcs] at hds
    injection hds with hds
    injection hds with _ hds _
    revert hds
    decide
  refine Lib.wpList_append_run w hgd s x _ _ ho _ _ hs hx _ _ (ht ▸ e1) (h a' c' w' ⟨?_, o1, fun q hq => ?_⟩ b1)
  · rw [List.map_append, List.map_append, k1]
    congr 1
    show [(p.1, p.2.1, p.2.2.2.2)] = [((r.1 : Int), r.2.1, r.2.2)]
    rw [he]
  · rcases List.mem_append.1 hq with hq | hq
    · exact hkeep q (k3 q hq)
    · have e : q = p := by simpa using hq
      rw [e]
      exact hkeep p hp
theorem rec_box (w : World) (k : Int) (Y : ByteArray) (za : Option Addr) (zn zc : Nat) : ∃ W, w.alloc (.cells #[.int .i64 k, .string Y, .slice za zn zc] 34) = W ∧ Below w.heap.size w W ∧ W.cell? ⟨w.heap.size, 0, none⟩ = some (.int .i64 k) ∧ W.cell? ⟨w.heap.size, 1, none⟩ = some (.string Y) ∧ W.cell? ⟨w.heap.size, 2, none⟩ = some (.slice za zn zc) := by
  have h := heap_alloc_last w (.cells #[.int .i64 k, .string Y, .slice za zn zc] 34)
  exact ⟨_, rfl, (Below.refl _ _).alloc (Nat.le_refl _) _, by rw [cell_of_row _ _ _ _ _ _ h]; rfl, by rw [cell_of_row _ _ _ _ _ _ h]; rfl, by rw [cell_of_row _ _ _ _ _ _ h]; rfl⟩
theorem LdIs.below {B : Nat} {rs : List Rc} {v : Value} {Rs : List RX} {w w' : World} (h : LdIs B rs v Rs w) (hb : Below w.heap.size w w') : LdIs B rs v Rs w' := ⟨h.1, h.2.1.below hb, fun r hr => GOwn.below (h.2.2 r hr) hb⟩
set_option maxHeartbeats 4000000 in
theorem groups_err (s : ByteArray) (hs : s.size ≤ 1048576) (w : World) (p : Nat × Nat) (hfe : ferr [] (phys s.data.toList) = some p) :
    Calls Tryz.prog 15 #[.string s] w fun e w' => e = .returned (.tuple #[.slice none 0 0, .int .i64 (p.1 : Int), .int .i64 (p.2 : Int)]) ∧ Below w.heap.size w w' := by
  have h70 := ferr_val _ _ _ hfe
  obtain ⟨q, n⟩ := p
  have hLn : Hid (Calls Tryz.prog 25 #[.string s] w fun e w' => e = .returned (.tuple #[.slice none 0 0, .int .i64 (q : Int), .int .i64 (n : Int)]) ∧ Below w.heap.size w w') := by
    refine (rlines_any s hs w).mono ?_
    rintro e w' ⟨v, er, ln, rfl, hu, hb⟩
    unfold UnfIs UnfP at hu
    rw [hfe] at hu
    obtain ⟨rfl, rfl, rfl⟩ := hu
    exact ⟨rfl, hb⟩
  have hq : ((q : Int) != 0) = true := by
    simp only [bne_iff_ne, ne_eq]
    dsimp only at h70
    omega
  clear h70 hfe hs
  dsimp only
  go_enter Tryz.func15, Tryz.ntmps15
  go_wp2_with (go_at_call 25; refine hLn.out.mono ?_; rintro e w1 ⟨rfl, hb1⟩; have H1 : Hid (Below w.heap.size w w1) := hb1; clear hb1)
  go_ret3
  exact ⟨rfl, H1.out⟩
/-- What read answers. -/
def ReQ (R : List Rc × Nat × Nat) (w : World) (e : Ending) (w' : World) : Prop := (∃ a n c, e = .returned (.tuple #[.slice a n c, .int .i64 (R.2.1 : Int), .int .i64 (R.2.2 : Int)]) ∧ (R.2.1 = 0 → ∃ Rs, LdIs w.heap.size R.1 (.slice a n c) Rs w')) ∧ Below w.heap.size w w'
theorem ReQ.bad {R : List Rc × Nat × Nat} {w w' : World} {f n : Nat} (h : R.2 = (f, n)) (hf : f ≠ 0) (hb : Below w.heap.size w w') {za : Option Addr} {zn zc : Nat} : ReQ R w (.returned (.tuple #[.slice za zn zc, .int .i64 (f : Int), .int .i64 (n : Int)])) w' :=
  ⟨⟨za, zn, zc, by rw [h], fun e => absurd (by rw [h] at e; exact e) hf⟩, hb⟩
set_option maxHeartbeats 4000000 in
/-- read, where Groups answers amiss. -/
theorem read_bad (s : ByteArray) (w : World) (R : List Rc × Nat × Nat) (f n : Nat) (hR : R.2 = (f, n)) (hf : f ≠ 0)
    (hG : Calls Tryz.prog 15 #[.string s] w fun e w' => (∃ v, e = .returned (.tuple #[v, .int .i64 (f : Int), .int .i64 (n : Int)])) ∧ Below w.heap.size w w') :
    Calls Tryz.prog 9 #[.string s] w fun e w' => ReQ R w e w' := by
  have hG' : Hid (Calls Tryz.prog 15 #[.string s] w fun e w' => (∃ v, e = .returned (.tuple #[v, .int .i64 (f : Int), .int .i64 (n : Int)])) ∧ Below w.heap.size w w') := hG
  have hq : ((f : Int) != 0) = true := by simp only [bne_iff_ne, ne_eq]; omega
  have hR' : Hid (R.2 = (f, n) ∧ f ≠ 0) := ⟨hR, hf⟩
  clear hG hR hf
  go_enter Tryz.func9, Tryz.ntmps9
  go_wp2_with (go_at_call 15; refine hG'.out.mono ?_; rintro e w1 ⟨⟨v1, rfl⟩, hb1⟩; have H1 : Hid (Below w.heap.size w w1) := hb1; clear hb1)
  go_ret3
  exact ReQ.bad hR'.out.1 hR'.out.2 H1.out
set_option maxHeartbeats 8000000 in
theorem read_ok (s : ByteArray) (w : World) (E : Nat) (gs : List Ls) (hgz : gs.length ≤ 8388608) (hne : ∀ g ∈ gs, g ≠ [] ∧ (∀ p ∈ g, p.2.length ≤ 4194304) ∧ g.length ≤ 8388608)
    (hG : Calls Tryz.prog 15 #[.string s] w fun e w' => (∃ v, e = .returned (.tuple #[v, .int .i64 0, .int .i64 0]) ∧ GrI w' v gs) ∧ Below w.heap.size w w') :
    Calls Tryz.prog 9 #[.string s] w fun e w' => ReQ (rdG E false gs) w e w' := by
  obtain ⟨R, hR⟩ : ∃ R, rdG E false gs = R := ⟨_, rfl⟩
  obtain ⟨ng, hng⟩ : ∃ n, gs.length = n := ⟨_, rfl⟩
  have hG' : Hid (Calls Tryz.prog 15 #[.string s] w fun e w' => (∃ a c, e = .returned (.tuple #[.slice a ng c, .int .i64 0, .int .i64 0]) ∧ ∃ lb, ∃ L : List GxR, L.map (·.2.2) = gs ∧ GRow 1 (sV lb) w' a L ∧ ∀ x ∈ L, GRow 2 lV w' (some ⟨lb, x.1, none⟩) x.2.2) ∧ Below w.heap.size w w') := by
    refine hG.mono ?_
    rintro e w' ⟨⟨v, rfl, a, c, lb, L, rfl, h1, h2, h3⟩, hb⟩
    rw [hng]
    exact ⟨⟨a, c, rfl, lb, L, h1, h2, h3⟩, hb⟩
  have zg : (ng : Int) ≤ 8388608 := by omega
  have hng' : Hid (gs.length = ng) := hng
  have hne' : Hid (∀ g ∈ gs, g ≠ [] ∧ (∀ p ∈ g, p.2.length ≤ 4194304) ∧ g.length ≤ 8388608) := hne
  have hR' : Hid (rdG E false gs = R) := hR
  rw [hR]
  clear hG hng hne hR hgz
  go_enter Tryz.func9, Tryz.ntmps9
  go_wp2_with (go_at_call 15; refine hG'.out.mono ?_; rintro e w1 ⟨⟨a1, c1, rfl, lb, L, hg1, hg2, hg3⟩, hb1⟩; have H1 : Hid (Below w.heap.size w w1) := hb1; have GL : Hid (L.map (·.2.2) = gs ∧ GRow 1 (sV lb) w1 a1 L ∧ ∀ x ∈ L, GRow 2 lV w1 (some ⟨lb, x.1, none⟩) x.2.2) := ⟨hg1, hg2, hg3⟩; clear hb1 hg1 hg2 hg3)
  clear hG'
  go_loopw [8, 9] (fun v iv ws => ∃ (i : Nat) (oa : Option Addr) (on oc : Nat) (rs : List Rc) (Rs : List RX), iv = .int .i64 (i : Int) ∧ v = .slice oa on oc ∧ i ≤ ng ∧ Hid (R.2 = (rdG E false (gs.drop i)).2 ∧ R.1 = rs ++ (rdG E false (gs.drop i)).1 ∧ Rs.length ≤ i) ∧ Hid (LdIs w1.heap.size rs (.slice oa on oc) Rs ws) ∧ Hid (Below w1.heap.size w1 ws)) (fun _ iv _ => ng - (intOf iv).toNat)
  case atStart => exact ⟨0, none, 0, 0, [], [], rfl, rfl, Nat.zero_le _, ⟨by rw [← hR'.out]; rfl, by rw [← hR'.out]; rfl, Nat.le_refl _⟩, ⟨rfl, GOwn.nil _ _ _ _ _, fun r hr => by simp at hr⟩, Below.refl _ _⟩
  case round =>
    obtain ⟨i, oa, on, oc, rs, Rs, rfl, rfl, hi, hM, hL, hB⟩ := hrel
    have i0 : (0 : Int) ≤ (i : Int) := Int.natCast_nonneg _
    have HW : Hid (Below w.heap.size w wr) := H1.out.trans (hB.out.mono H1.out.size)
    by_cases hlt : i < ng
    · have i1 : (i : Int) < (ng : Int) := Int.ofNat_lt.2 hlt
      have hig : i < gs.length := by rw [hng'.out]; exact hlt
      have hiL : i < L.length := by have := congrArg List.length GL.out.1; rw [List.length_map] at this; omega
      obtain ⟨g, hgg⟩ : ∃ g, gs[i] = g := ⟨_, rfl⟩
      obtain ⟨x, hx⟩ : ∃ x, L[i] = x := ⟨_, rfl⟩
      have hxg : x.2.2 = g := by
        have h := GL.out.1
        subst h
        rw [← hgg, ← hx, List.getElem_map]
      obtain ⟨ab, ao, rfl, hc⟩ := (GL.out.2.1.below (sV_one lb) hB.out) i hiL
      have hc0 := hc 0 (by decide)
      rw [hx] at hc0
      obtain ⟨xo, xc, xg⟩ := x
      dsimp only at hxg
      subst hxg
      simp only [sV, Nat.mul_one, Nat.add_zero, List.getElem?_cons_zero] at hc0
      have hrow : GRow 2 lV wr (some ⟨lb, xo, none⟩) xg := (GL.out.2.2 (xo, xc, xg) (hx ▸ List.getElem_mem hiL)).below lV_two hB.out
      obtain ⟨n1, n2, n3⟩ := hne'.out xg (hgg ▸ List.getElem_mem hig)
      have hrc := record_any xg n1 lb xo xc wr hrow n2 n3
      have hdr : gs.drop i = xg :: gs.drop (i + 1) := by rw [List.drop_eq_getElem_cons hig, hgg]
      obtain ⟨hM1, hM2, hM3⟩ := hM.out
      rw [hdr, rdG] at hM1 hM2
      obtain ⟨lg, hlg⟩ : ∃ n, xg.length = n := ⟨_, rfl⟩
      rw [hlg] at hc0 hrc
      by_cases hf : (rcG xg).2.1 = 0
      · rw [if_neg (fun h => h hf)] at hM1 hM2
        have hrl : Hid (Rs.length ≤ i ∧ Rs.length ≤ 16777216) := ⟨hM3, by omega⟩
        have hM' : Hid (R.2 = (rdG E false (gs.drop (i + 1))).2 ∧ R.1 = (rs ++ [(rcG xg).1]) ++ (rdG E false (gs.drop (i + 1))).1) := ⟨hM1, by rw [hM2]; simp⟩
        obtain ⟨r, hr⟩ : ∃ r, (rcG xg).1 = r := ⟨_, rfl⟩
        obtain ⟨q, hq⟩ : ∃ q, (rcG xg).2.2 = q := ⟨_, rfl⟩
        have hRc : Hid (Calls Tryz.prog 16 #[.slice (some ⟨lb, xo, none⟩) lg xc] wr fun e w' => (∃ za zc, e = .returned (.tuple #[.agg #[.int .i64 (r.1 : Int), .string (S r.2.1), .slice za r.2.2.length zc], .int .i64 0, .int .i64 (q : Int)]) ∧ Hid (GOwn 50 2 pV w' wr.heap.size (.slice za r.2.2.length zc) r.2.2)) ∧ Below wr.heap.size wr w') := by
          refine hrc.mono ?_
          rintro e w' ⟨⟨k, Y, za, zn, zc, rfl, h0⟩, hb⟩
          obtain ⟨rfl, rfl, ho⟩ := h0 hf
          rw [hr] at ho ⊢
          obtain ⟨a', c', hv, _⟩ := ho.row pV_len
          injection hv with e1 e2 e3
          subst e2
          exact ⟨⟨za, zc, by rw [hf, hq]; rfl, ho⟩, hb⟩
        rw [hr] at hM'
        have hlt' : Hid (i < ng) := hlt
        clear hrc hM1 hM2 hM3 hM hdr n1 n2 n3 hrow hx hgg hig hiL hf hr hq hlg hlt hi hc
        go_wp2_with (first
          | (go_at_call 16; refine hRc.out.mono ?_; rintro e w2 ⟨⟨za, zc, rfl, ho⟩, hb2⟩; obtain ⟨W5, hW5, B5, s0, s1, s2⟩ := rec_box w2 (r.1 : Int) (S r.2.1) za r.2.2.length zc; have L5 : Hid (LdIs w1.heap.size rs (.slice oa on oc) Rs W5) := (hL.out.below hb2).below B5; have O5 : Hid (PO w1.heap.size ((r.1 : Int), r.2.1, (za, zc, r.2.2)) W5) := own_base (ho.out.below B5) hB.out.size; have H5 : Hid (Below w1.heap.size w1 W5) := (hB.out.trans (hb2.mono hB.out.size)).trans (B5.mono (Nat.le_trans hB.out.size hb2.size)); clear hb2 B5 ho)
          | (at_builtin; refine push_rec _ rfl _ _ rfl rfl w1.heap.size _ rs Rs r ((r.1 : Int), r.2.1, (za, zc, r.2.2)) W5.heap.size rfl rfl (L5.out.below ((Below.refl _ _).alloc (Nat.le_refl _) _)) (GRow.one rV W5 34 ((r.1 : Int), r.2.1, (za, zc, r.2.2))) (GOwn.below O5.out ((Below.refl _ _).alloc (Nat.le_refl _) _)) rfl (by have := H5.out.size; simp; omega) hrl.out.2 ?_; intro a6 c6 w6 o6 b6; have O6 : Hid (LdIs w1.heap.size _ _ _ w6) := o6; have B6 : Hid (Below w1.heap.size w1 w6) := (H5.out.alloc H5.out.size _).trans b6; clear o6 b6))
        go_roundw
        case rel => exact ⟨i + 1, a6, _, c6, rs ++ [r], _, by simp, rfl, hlt'.out, ⟨hM'.out.1, hM'.out.2, by have := hrl.out.1; simp; omega⟩, O6, B6⟩
        case measure => have := hlt'.out; simp [intOf]; omega
      · rw [if_pos hf] at hM1
        obtain ⟨f, hff⟩ : ∃ f, (rcG xg).2.1 = f := ⟨_, rfl⟩
        obtain ⟨q, hq⟩ : ∃ q, (rcG xg).2.2 = q := ⟨_, rfl⟩
        have hf0 : ((f : Int) != 0) = true := by simp only [bne_iff_ne, ne_eq]; omega
        have hbad : Hid (R.2 = (f, q) ∧ f ≠ 0) := ⟨by rw [hM1, ← hff, ← hq], by omega⟩
        have hRc : Hid (Calls Tryz.prog 16 #[.slice (some ⟨lb, xo, none⟩) lg xc] wr fun e w' => (∃ k Y za zn zc, e = .returned (.tuple #[.agg #[.int .i64 k, .string Y, .slice za zn zc], .int .i64 (f : Int), .int .i64 (q : Int)])) ∧ Below wr.heap.size wr w') := by
          refine hrc.mono ?_
          rintro e w' ⟨⟨k, Y, za, zn, zc, rfl, _⟩, hb⟩
          exact ⟨⟨k, Y, za, zn, zc, by rw [hff, hq]⟩, hb⟩
        clear hrc hM1 hM2 hM3 hM hdr n1 n2 n3 hrow hx hgg hig hiL hf hff hq hlg hlt hi hc hL
        go_wp2_with (go_at_call 16; refine hRc.out.mono ?_; rintro e w2 ⟨⟨k, Y, za, zn, zc, rfl⟩, hb2⟩; have H2 : Hid (Below w.heap.size w w2) := HW.out.trans (hb2.mono HW.out.size); clear hb2)
        go_ret3
        exact ReQ.bad hbad.out.1 hbad.out.2 (H2.out.alloc H2.out.size _)
    · have i1 : ¬ (i : Int) < (ng : Int) := by omega
      have hfin : Hid (R = (rs, 0, 0)) := by
        obtain ⟨h1, h2, _⟩ := hM.out
        rw [List.drop_eq_nil_of_le (by rw [hng'.out]; omega)] at h1 h2
        have h3 : rdG E false [] = ([], 0, 0) := rfl
        rw [h3] at h1 h2
        rw [List.append_nil] at h2
        unfold Hid
        rw [← h2, ← show R.2 = (0, 0) from h1]
      clear hM hlt hi
      go_wp2_with fail
      go_ret3
      unfold ReQ
      rw [hfin.out]
      refine ⟨⟨oa, on, oc, rfl, fun _ => ⟨Rs, hL.out.1, own_base hL.out.2.1 H1.out.size, fun r hr => own_base (hL.out.2.2 r hr) H1.out.size⟩⟩, HW.out⟩
/-- read. -/
theorem rread_any (s : ByteArray) (hs : s.size ≤ 1048576) (w : World) :
    Calls Tryz.prog 9 #[.string s] w fun e w' => ReQ (rdT s.data.toList) w e w' := by
  cases hfe : ferr [] (phys s.data.toList) with
  | some p =>
    have h70 := ferr_val _ _ _ hfe
    have hR : (rdT s.data.toList).2 = (p.1, p.2) := by unfold rdT; rw [hfe]
    refine read_bad s w _ p.1 p.2 hR (by omega) ?_
    refine (groups_err s hs w p hfe).mono ?_
    rintro e w' ⟨rfl, hb⟩
    exact ⟨⟨_, rfl⟩, hb⟩
  | none =>
    have hA := rdT_A s.data.toList hfe
    have hg := groups_ok s hs w hfe
    obtain ⟨E, hE⟩ : ∃ E, (phys s.data.toList).length + 1 = E := ⟨_, rfl⟩
    obtain ⟨F, hF⟩ : ∃ F, (joinS (phys s.data.toList)).filter noC = F := ⟨_, rfl⟩
    have hFz : ∀ p ∈ F, p.2.length ≤ 1048576 := fun p hp => by
      rw [← hF] at hp
      have h1 := (joinS_sizes (phys s.data.toList)).2 p (List.mem_filter.1 hp).1
      have h2 := phys_tot s.data.toList
      rw [size_l] at h2
      omega
    have hFl : F.length ≤ 1048577 := by
      rw [← hF]
      have h1 := (joinS_sizes (phys s.data.toList)).1
      have h2 := phys_len s.data.toList
      rw [size_l] at h2
      have h3 := List.length_filter_le noC (joinS (phys s.data.toList))
      omega
    rw [hE, hF] at hA hg
    rw [hA]
    unfold rdA
    by_cases hf : (grA E F).2.1 = 0
    · rw [if_neg (fun h => h hf)]
      have hin : ∀ g ∈ (grA E F).1, g ≠ [] ∧ g.Sublist F := fun g hg' => by
        unfold grA at hg' hf
        have hsub : (F.dropWhile (fun p => !(nbl p))).Sublist F := List.dropWhile_sublist _
        cases hd : F.dropWhile (fun p => !(nbl p)) with
        | nil => rw [hd] at hf; simp at hf
        | cons x l =>
          obtain ⟨n, t⟩ := x
          rw [hd] at hg' hf hsub
          dsimp only at hg' hf
          by_cases hv : isV t = false
          · rw [if_pos hv] at hf; simp at hf
          · rw [if_neg hv] at hg' hf
            by_cases hG : G l = []
            · rw [if_pos hG] at hf; simp at hf
            · rw [if_neg hG] at hg'
              obtain ⟨h1, h2⟩ := G_in _ l g hg'
              exact ⟨h1, (h2.cons _).trans hsub⟩
      have hlen : (grA E F).1.length ≤ 8388608 := by
        have := grA_len E F
        omega
      have h0 : (grA E F).2 = (0, 0) := grA_zero E F hf
      refine read_ok s w E (grA E F).1 hlen (fun g hg' => ?_) ?_
      · obtain ⟨h1, h2⟩ := hin g hg'
        refine ⟨h1, fun p hp => ?_, ?_⟩
        · have := hFz p (h2.subset hp)
          omega
        · have := h2.length_le
          omega
      · refine hg.mono ?_
        rintro e w' ⟨⟨v, rfl, h2⟩, hb⟩
        exact ⟨⟨v, by rw [h0]; rfl, h2 hf⟩, hb⟩
    · rw [if_pos hf]
      refine read_bad s w _ (grA E F).2.1 (grA E F).2.2 rfl hf ?_
      refine hg.mono ?_
      rintro e w' ⟨⟨v, rfl, _⟩, hb⟩
      exact ⟨⟨v, rfl⟩, hb⟩
set_option maxHeartbeats 4000000 in
/-- Load. -/
theorem rload_any (s : ByteArray) (hs : s.size ≤ 1048576) (w : World) (n : Nat) (hn : (ldR s.data.toList).length = n) :
    Calls Tryz.prog 5 #[.string s] w fun e w' => ∃ a c Rs, e = .returned (.tuple #[.slice a n c, .int .i64 ((rdT s.data.toList).2.1 : Int), .int .i64 ((rdT s.data.toList).2.2 : Int)]) ∧ LdRw w' (ldR s.data.toList) a Rs ∧ Below w.heap.size w w' := by
  have hr := rread_any s hs w
  have h00 : (rdT s.data.toList).2.1 = 0 → (rdT s.data.toList).2.2 = 0 := fun h => rdT_zero h
  have hL : ldR s.data.toList = if (rdT s.data.toList).2.1 = 0 then (rdT s.data.toList).1 else [] := rfl
  generalize rdT s.data.toList = R at *
  by_cases hf : R.2.1 = 0
  · rw [if_pos hf] at hL
    have hr' : Hid (Calls Tryz.prog 9 #[.string s] w fun e w' => ∃ a m c, e = .returned (.tuple #[.slice a m c, .int .i64 0, .int .i64 0]) ∧ Hid (∃ Rs, LdIs w.heap.size R.1 (.slice a m c) Rs w') ∧ Below w.heap.size w w') := by
      refine hr.mono ?_
      rintro e w' ⟨⟨a, m, c, rfl, h0⟩, hb⟩
      exact ⟨a, m, c, by rw [hf, h00 hf]; rfl, h0 hf, hb⟩
    have hfin : Hid (∀ a m c w', (∃ Rs, LdIs w.heap.size R.1 (.slice a m c) Rs w') → ∃ a' c' Rs, Ending.returned (.tuple #[.slice a m c, .int .i64 0, .int .i64 0]) = .returned (.tuple #[.slice a' n c', .int .i64 (R.2.1 : Int), .int .i64 (R.2.2 : Int)]) ∧ LdRw w' (ldR s.data.toList) a' Rs) := fun a m c w' ⟨Rs, h⟩ => by
      obtain ⟨a', c', hv, h3⟩ := ldRw_of h
      refine ⟨a', c', Rs, ?_, by rw [hL]; exact h3⟩
      rw [hv, hf, h00 hf, ← hn, hL]
      rfl
    clear hr h00 hL hf hn hs
    go_enter Tryz.func5, Tryz.ntmps5
    go_wp2_with (go_at_call 9; refine hr'.out.mono ?_; rintro e w1 ⟨a1, m1, c1, rfl, hI, hb1⟩; have H1 : Hid (Below w.heap.size w w1) := hb1; clear hb1)
    go_ret3
    obtain ⟨a', c', Rs, e1, e2⟩ := hfin.out _ _ _ _ hI.out
    exact ⟨a', c', Rs, e1, e2, H1.out⟩
  · rw [if_neg hf] at hL
    have hq : ((R.2.1 : Int) != 0) = true := by simp only [bne_iff_ne, ne_eq]; omega
    have hr' : Hid (Calls Tryz.prog 9 #[.string s] w fun e w' => ∃ a m c, e = .returned (.tuple #[.slice a m c, .int .i64 (R.2.1 : Int), .int .i64 (R.2.2 : Int)]) ∧ Below w.heap.size w w') := by
      refine hr.mono ?_
      rintro e w' ⟨⟨a, m, c, rfl, h0⟩, hb⟩
      exact ⟨a, m, c, rfl, hb⟩
    have hn0 : n = 0 := by rw [← hn, hL]; rfl
    have hL' : Hid (ldR s.data.toList = []) := hL
    obtain ⟨f, hff⟩ : ∃ f, R.2.1 = f := ⟨_, rfl⟩
    obtain ⟨k, hk⟩ : ∃ k, R.2.2 = k := ⟨_, rfl⟩
    rw [hff, hk] at hr' ⊢
    rw [hff] at hq
    subst hn0
    clear hr h00 hL hf hn hs hff hk
    go_enter Tryz.func5, Tryz.ntmps5
    go_wp2_with (go_at_call 9; refine hr'.out.mono ?_; rintro e w1 ⟨a1, m1, c1, rfl, hb1⟩; have H1 : Hid (Below w.heap.size w w1) := hb1; clear hb1)
    go_ret3
    refine ⟨none, 0, [], rfl, ?_, H1.out⟩
    rw [hL'.out]
    exact ⟨⟨GRow.nil _ _ _ _, fun r hr => by simp at hr⟩, rfl, fun i h => by simp at h⟩
end Rd
end Go.Proofs.YtoomoicjoockjaaGreatDoor

namespace Go.Proofs.YtoomoicjoockjaaGreatDoor
namespace Rd
open Go.RowKit
open LdMath
open Lr (PR RC pf chg okD dnB ChgTab GOwn GRow pV pV_len Kd PX RX rV rV_len append_gen RRow PRow said rrow_at prow_at drewN_below)
set_option linter.unusedVariables false
set_option maxRecDepth 100000

set_option maxHeartbeats 4000000 in
theorem ldifLoads_walk (s : ByteArray) (hs : s.size ≤ 1048576) (w : World) (hWt : WTab w) (hCt : ChgTab w) :
    Calls Tryz.prog 3 #[.string s] w fun e w' => e = .returned (.bool true) ∧ Below w.heap.size w w' := by
  obtain ⟨n, hn⟩ : ∃ n, (ldR s.data.toList).length = n := ⟨_, rfl⟩
  have hL1 : Hid (Calls Tryz.prog 4 #[.string s] w fun e w' => ∃ a c Rs, e = .returned (.tuple #[.slice a n c, .int .i64 ((rdT s.data.toList).2.1 : Int), .int .i64 ((rdT s.data.toList).2.2 : Int)]) ∧ LdRw w' (ldR s.data.toList) a Rs ∧ Below w.heap.size w w') := loads_any s (by omega) w hWt hCt n hn
  have hL2 : Hid (∀ W, Calls Tryz.prog 5 #[.string s] W fun e w' => ∃ a c Rs, e = .returned (.tuple #[.slice a n c, .int .i64 ((rdT s.data.toList).2.1 : Int), .int .i64 ((rdT s.data.toList).2.2 : Int)]) ∧ LdRw w' (ldR s.data.toList) a Rs ∧ Below W.heap.size W w') := fun W => rload_any s hs W n hn
  have z1 := ldR_size s.data.toList
  have z3 := rdT_size s.data.toList
  rw [size_l] at z1 z3
  have nb : (n : Int) ≤ 1048578 := by omega
  obtain ⟨er, her⟩ : ∃ er, (rdT s.data.toList).2.1 = er := ⟨_, rfl⟩
  obtain ⟨at1, hat1⟩ : ∃ x, (rdT s.data.toList).2.2 = x := ⟨_, rfl⟩
  rw [her, hat1] at hL1 hL2
  have hsame : Hid (∀ W a b c d Rs Qs, LdRw W (ldR s.data.toList) a Rs → LdRw W (ldR s.data.toList) b Qs → Calls Tryz.prog 7 #[.slice a n c, .slice b n d, .bool true] W fun e w' => e = .returned (.bool true) ∧ Below W.heap.size W w') := fun W a b c d Rs Qs h1 h2 => by
    refine Lr.sameRecords_any a b c d Rs Qs n W (by rw [h1.2.1, hn]) (by rw [h2.2.1, hn]) (by omega) h1.1 h2.1 (fun i hi hi' => ?_) (fun r hr => ?_)
    · have hi1 : i < (ldR s.data.toList).length := by rw [← h1.2.1]; exact hi
      rw [(h1.2.2 i hi hi1).2, (h2.2.2 i hi' hi1).2, (h1.2.2 i hi hi1).1, (h2.2.2 i hi' hi1).1]
      exact ⟨rfl, rfl⟩
    · obtain ⟨i, hi, rfl⟩ := List.getElem_of_mem hr
      have hi1 : i < (ldR s.data.toList).length := by rw [← h1.2.1]; exact hi
      have h3 := (h1.2.2 i hi hi1).2
      have h4 := (z1.2 _ (List.getElem_mem hi1)).2
      have h5 : Rs[i].2.2.2.2 = (ldR s.data.toList)[i].2.2 := congrArg Prod.snd h3
      rw [h5]
      omega
  clear hn hWt hCt hs z1 z3 her hat1
  go_enter Tryz.func3, Tryz.ntmps3
  go_wp2_with (first
    | (go_at_call 4; refine hL1.out.mono ?_; rintro e w1 ⟨a1, c1, R1, rfl, hR1, hb1⟩; have H1 : Hid (LdRw w1 (ldR s.data.toList) a1 R1 ∧ Below w.heap.size w w1) := ⟨hR1, hb1⟩; clear hR1 hb1 hL1)
    | (go_at_call 5; refine (hL2.out _).mono ?_; rintro e w2 ⟨a2, c2, R2, rfl, hR2, hb2⟩; have H2 : Hid (LdRw w2 (ldR s.data.toList) a1 R1 ∧ LdRw w2 (ldR s.data.toList) a2 R2 ∧ Below w.heap.size w w2) := ⟨H1.out.1.below hb2, hR2, H1.out.2.trans (hb2.mono H1.out.2.size)⟩; clear hR2 hb2 hL2)
    | (go_at_call 6; refine (num_any _ _).mono ?_; rintro e w9 ⟨rfl, rfl⟩)
    | (go_at_call 7; refine (hsame.out _ a1 a2 c1 c2 R1 R2 H2.out.1 H2.out.2.1).mono ?_; rintro e w3 ⟨rfl, hb3⟩; have H3 : Hid (Below w.heap.size w w3) := H2.out.2.2.trans (hb3.mono H2.out.2.2.size); clear hb3))
  go_ret
  exact ⟨rfl, H3.out⟩
end Rd
open Go.RowKit in
theorem ldifLoads_w (s : ByteArray) (w : World) (hs : s.size ≤ 1048576) (hWt : WTab w) (hCt : Lr.ChgTab w) :
    Calls Tryz.prog 3 #[.string s] w fun e w' => e = .returned (.bool true) ∧ Below w.heap.size w w' := Rd.ldifLoads_walk s hs w hWt hCt
end Go.Proofs.YtoomoicjoockjaaGreatDoor
