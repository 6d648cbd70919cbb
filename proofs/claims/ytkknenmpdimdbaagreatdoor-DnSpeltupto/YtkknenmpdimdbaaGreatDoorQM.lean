import Derived.Test.YtkknenmpdimdbaaGreatDoorQG
import Derived.Lib.AppendZeros
namespace Go.Proofs.YtkknenmpdimdbaaGreatDoor
namespace Du
open Go.RowKit
set_option linter.unusedVariables false
set_option maxRecDepth 100000

theorem ne_ava (c s : ByteArray) (W : World) :
    (binOp .neq 64 (.agg #[.string c, .string s]) (.agg #[.string c, .string s])).run Tryz.prog W = .ok (.bool false) W := by
  have hS : Tryz.prog.underlying 64 = some (.struct (Tryz.prog.fieldsOf 64)) := by kernel_rfl
  have hp : Tryz.prog.stoodInHeld 64 = false := by kernel_rfl
  rw [run_neq_struct, run_equalIn_struct _ _ _ _ _ hS hp]
  simp only [Program.fieldsOf, Tryz.underlying64]
  simp [Op.eqFields, go_sem]

set_option maxHeartbeats 1000000 in
theorem sameRDN_any (l : List PR) (n : Nat) (hn : l.length = n) (a b : Option Addr) (c d : Nat) (w : World) (hl : n ≤ 5864062014634) (h1 : PRow w a l) (h2 : PRow w b l) :
    Calls Tryz.prog 31 #[.slice a n c, .slice b n d] w fun e w' => e = .returned (.bool true) ∧ ∃ q, w' = w.drewN q := by
  have h1' : Hid (PRow w a l) := h1
  have h2' : Hid (PRow w b l) := h2
  have hn' : Hid (l.length = n) := hn
  have nb : (n : Int) ≤ 5864062014634 := by omega
  clear h1 h2 hn hl
  go_enter Tryz.func31, Tryz.ntmps31
  go_wp2_with fail
  go_loopw [5] (fun iv wr => ∃ i q : Nat, i ≤ n ∧ iv = .int .i64 (i : Int) ∧ Hid (wr = w.drewN q)) (fun iv _ => n - (intOf iv).toNat)
  case atStart => exact ⟨0, 0, Nat.zero_le _, rfl, rfl⟩
  case round =>
    obtain ⟨i, q, hi, rfl, hw⟩ := hrel
    have i0 : (0 : Int) ≤ (i : Int) := Int.natCast_nonneg _
    by_cases hlt : i < n
    · have hil : i < l.length := by rw [hn'.out]; exact hlt
      obtain ⟨b1, o1, rfl, p1, p2⟩ := prow_at h1'.out i hil
      obtain ⟨b2, o2, rfl, q1, q2⟩ := prow_at h2'.out i hil
      have hE : ∀ a, wr.cell? a = w.cell? a := fun a => by rw [hw.out]; rfl
      rw [← hE] at p1 p2 q1 q2
      have i1 : (i : Int) < (n : Int) := Int.ofNat_lt.2 hlt
      generalize S l[i].1 = X at *
      generalize S l[i].2 = Y at *
      have hne := ne_ava X Y
      have hlt' : Hid (i < n) := hlt
      clear hE hil hlt hi
      go_wp2_with fail
      go_quiet (fail)
      go_wp2_with fail
      go_roundw
      case rel => exact ⟨i + 1, _, hlt'.out, by simp, by unfold Hid; rw [hw.out, World.drewN_drewN]⟩
      case measure => have := hlt'.out; simp [intOf]; omega
    · have e : n = i := by omega
      subst e
      have k1 : ¬ (n : Int) < (n : Int) := by omega
      clear hlt hi
      go_wp2_with fail
      go_ret
      exact ⟨rfl, _, hw.out⟩

set_option maxHeartbeats 2000000 in
theorem sameDN_any (a b : Option Addr) (c d : Nat) (L M : List PX) (n : Nat) (w : World) (hL : L.length = n) (hM : M.length = n) (hl : n ≤ 5864062014634) (h1 : DRow w a L) (h2 : DRow w b M) (hs : sd L = sd M) (hz : ∀ r ∈ L, r.2.2.length ≤ 4398046510976) :
    Calls Tryz.prog 11 #[.slice a n c, .slice b n d] w fun e w' => e = .returned (.bool true) ∧ ∃ q, w' = w.drewN q := by
  have h1' : Hid (DRow w a L) := h1
  have h2' : Hid (DRow w b M) := h2
  have hs' : Hid (∀ i (h : i < L.length) (h' : i < M.length), L[i].2.2 = M[i].2.2) := fun i h h' => by
    have := congrArg (fun l => l[i]?) hs
    simpa [sd, h, h'] using this
  have hz' : Hid (∀ r ∈ L, r.2.2.length ≤ 4398046510976) := hz
  have hLM : Hid (L.length = n ∧ M.length = n) := ⟨hL, hM⟩
  have nb : (n : Int) ≤ 5864062014634 := by omega
  clear h1 h2 hs hz hL hM hl
  go_enter Tryz.func11, Tryz.ntmps11
  go_wp2_with fail
  go_loopw [5] (fun iv wr => ∃ i q : Nat, i ≤ n ∧ iv = .int .i64 (i : Int) ∧ Hid (wr = w.drewN q)) (fun iv _ => n - (intOf iv).toNat)
  case atStart => exact ⟨0, 0, Nat.zero_le _, rfl, rfl⟩
  case round =>
    obtain ⟨i, q, hi, rfl, hw⟩ := hrel
    have i0 : (0 : Int) ≤ (i : Int) := Int.natCast_nonneg _
    by_cases hlt : i < n
    · have i1 : (i : Int) < (n : Int) := Int.ofNat_lt.2 hlt
      have hiL : i < L.length := by rw [hLM.out.1]; exact hlt
      have hiM : i < M.length := by rw [hLM.out.2]; exact hlt
      obtain ⟨b1, o1, rfl, c0⟩ := drow_at h1'.out i hiL
      obtain ⟨b2, o2, rfl, d0⟩ := drow_at h2'.out i hiM
      have r1 := (h1'.out.2 _ (List.getElem_mem hiL)).1
      have r2 := (h2'.out.2 _ (List.getElem_mem hiM)).1
      have hsi := hs'.out i hiL hiM
      have hzi := hz'.out _ (List.getElem_mem hiL)
      obtain ⟨⟨pa, pc, ps⟩, hx⟩ : ∃ x, L[i] = x := ⟨_, rfl⟩
      obtain ⟨⟨pa', pc', ps'⟩, hy⟩ : ∃ y, M[i] = y := ⟨_, rfl⟩
      rw [hx] at c0 r1 hsi hzi
      rw [hy] at d0 r2 hsi
      dsimp only at c0 r1 d0 r2 hsi hzi
      subst hsi
      have hE : ∀ a, wr.cell? a = w.cell? a := fun a => by rw [hw.out]; rfl
      obtain ⟨m, hm⟩ : ∃ m, ps.length = m := ⟨_, rfl⟩
      have hS : ∀ k, Hid (Calls Tryz.prog 31 #[.slice pa m pc, .slice pa' m pc'] (wr.drewN k) fun e w' => e = .returned (.bool true) ∧ ∃ m, w' = (wr.drewN k).drewN m) := fun k => by
        have hb : Below w.heap.size w (wr.drewN k) := by rw [hw.out]; exact drewN_below _ _ _ |>.trans (drewN_below _ _ _)
        exact sameRDN_any ps m hm pa pa' pc pc' _ (by omega) (r1.below pV_len hb) (r2.below pV_len hb)
      rw [← hE] at c0 d0
      rw [hm] at c0 d0
      have hlt' : Hid (i < n) := hlt
      clear hE hx hy hm r1 r2 hzi hiL hiM hlt hi
      go_upto_region 6 with fail
      go_quiet ((go_at_call 31; exact Calls.quiet_of (hS _).out))
      go_wp2_with fail
      go_roundw
      case rel => exact ⟨i + 1, _, hlt'.out, by simp, by unfold Hid; rw [hw.out, World.drewN_drewN]⟩
      case measure => have := hlt'.out; simp [intOf]; omega
    · have e : n = i := by omega
      subst e
      have i1 : ¬ (n : Int) < (n : Int) := by omega
      clear hi hlt
      go_wp2_with fail
      go_ret
      exact ⟨rfl, _, hw.out⟩
end Du
end Go.Proofs.YtkknenmpdimdbaaGreatDoor

namespace Go.Proofs.YtkknenmpdimdbaaGreatDoor
namespace Du
open Go.RowKit
set_option linter.unusedVariables false
set_option maxRecDepth 100000

def sprB : List UInt8 := [115, 112, 97, 114, 101, 32, 114, 111, 111, 109]
theorem info_ava : (Tryz.prog.info? 64).map (fun i => (i.zero, i.size, i.bytes)) = some (some (.agg #[.string ⟨#[]⟩, .string ⟨#[]⟩]), 2, 32) := by kernel_rfl
theorem info_rdn : (Tryz.prog.info? 57).map (fun i => (i.zero, i.size, i.bytes)) = some (some (.slice none 0 0), 1, 24) := by kernel_rfl
theorem KDp : Kd 64 57 2 32 pV := by
  obtain ⟨i0, hi, hz0, hz1, hz2⟩ := info_parts info_ava
  exact ⟨Tryz.underlying57, ⟨i0, _, hi, hz0, hz1, hz2, rfl⟩, by decide, by decide, pV_len, fun x u hu => by simp [pV] at hu; rcases hu with rfl | rfl <;> rfl⟩
theorem KDx : Kd 57 23 1 24 xV := by
  obtain ⟨i0, hi, hz0, hz1, hz2⟩ := info_parts info_rdn
  exact ⟨Tryz.underlying23, ⟨i0, _, hi, hz0, hz1, hz2, rfl⟩, by decide, by decide, xV_len, fun x u hu => by simp [xV] at hu; rcases hu with rfl; rfl⟩
theorem elP : Tryz.prog.underlying 57 = some (.slice (Tryz.prog.elem 57)) := by kernel_rfl
theorem szP (W : World) : (Go.sizeOf (Tryz.prog.elem 57)).run Tryz.prog W = .ok 2 W := by kernel_rfl
theorem elD : Tryz.prog.underlying 23 = some (.slice (Tryz.prog.elem 23)) := by kernel_rfl
theorem szD (W : World) : (Go.sizeOf (Tryz.prog.elem 23)).run Tryz.prog W = .ok 1 W := by kernel_rfl
theorem halfP (a : Option Addr) (n c k : Nat) (z : Int) (hz : z = (k : Int)) (hk : k ≤ c) (W : World) : (Instr.sliceAt 57 (.slice a n c) none (some (.int .i64 z)) none).run Tryz.prog W = .ok (.slice a k c) W := by
  subst hz
  rw [run_sliceAt_slice _ _ _ _ _ _ elP, run_slice_h _ _ _ _ _ elP _ _ (Int.natCast_nonneg _) (Int.ofNat_le.2 hk), szP]
  simp [Result.andThen, sliced]
  intro h
  cases a with
  | none => rfl
  | some x => simp [Addr.add]
theorem halfD (a : Option Addr) (n c k : Nat) (z : Int) (hz : z = (k : Int)) (hk : k ≤ c) (W : World) : (Instr.sliceAt 23 (.slice a n c) none (some (.int .i64 z)) none).run Tryz.prog W = .ok (.slice a k c) W := by
  subst hz
  rw [run_sliceAt_slice _ _ _ _ _ _ elD, run_slice_h _ _ _ _ _ elD _ _ (Int.natCast_nonneg _) (Int.ofNat_le.2 hk), szD]
  simp [Result.andThen, sliced]
  intro h
  cases a with
  | none => rfl
  | some x => simp [Addr.add]
/-- A part of the copy, of the copy's own, the mark behind it. -/
def PO (B : Nat) (r : PX) (W : World) : Prop := ∃ g, r.1 = some ⟨g, 0, none⟩ ∧ GOwn 64 2 pV W B (.slice (some ⟨g, 0, none⟩) (r.2.2.length + 1) r.2.1) (r.2.2 ++ [(sprB, [])])
theorem PO.below {B : Nat} {r : PX} {W W' : World} (h : PO B r W) (hb : Below W.heap.size W W') : PO B r W' := by
  obtain ⟨g, e, h1⟩ := h
  exact ⟨g, e, h1.below hb⟩
theorem PO.grown {B C : Nat} {r : PX} {W W' : World} {v : Value} {Os : List PX} (h : PO B r W) (ho : GOwn 57 1 xV W C v Os) (hg : W.grownBy W' v.ownBlock) : PO B r W' := by
  obtain ⟨g, e, h1⟩ := h
  refine ⟨g, e, owns_same h1 (fun g' hg' => hg.block g' (World.ownsRow.lt h1 g' hg').2 (fun e' => ?_))⟩
  exact owns_apart (show W.ownsRow B 64 2 _ _ _ from h1) (show W.ownsRow C 57 1 _ _ _ from ho) (by decide) hg' e'.symm
theorem own_empty (w : World) : GOwn 64 2 pV (w.alloc (.cells #[] 64)) w.heap.size (.slice (some ⟨w.heap.size, 0, none⟩) 0 0) ([] : List PR) :=
  ⟨rfl, Or.inr ⟨w.heap.size, 0, #[], rfl, Nat.le_refl _, heap_alloc_new w _, Nat.le_refl _, by unfold maxLen; omega, rfl, rfl⟩⟩
/-- What the loop of copyDN has laid. -/
def CpI (w : World) (L : List PX) (v : Value) (Os : List PX) (W : World) : Prop :=
  GOwn 57 1 xV W w.heap.size v Os ∧ Os.length ≤ L.length ∧ (∀ i (h : i < Os.length) (h' : i < L.length), Os[i].2.2 = L[i].2.2) ∧ (∀ r ∈ Os, PO w.heap.size r W) ∧ (∀ i j (hi : i < Os.length) (hj : j < Os.length), i < j → Os[i].1 ≠ Os[j].1) ∧ Below w.heap.size w W
/-- One round of it. -/
def CpR (w : World) (L : List PX) (pa : Option Addr) (pc m j b off : Nat) (oa : Option Addr) (on oc : Nat) (W : World) : Prop :=
  ∃ W1 va vn vc w1 g2 cap2 w2 a3 n3 c3 w3 Os',
    W.alloc (.cells #[] 64) = W1 ∧
    W1.cell? ⟨b, off + j, none⟩ = some (.slice pa m pc) ∧
    (Builtin.append_ #[57, 57] 57 #[.slice (some ⟨W.heap.size, 0, none⟩) 0 0, .slice pa m pc]).run Tryz.prog W1 = .ok (.slice va vn vc) w1 ∧
    (Builtin.append_ #[57, 57] 57 #[.slice va vn vc, .slice (some ⟨w1.heap.size, 0, none⟩) 1 1]).run Tryz.prog (w1.alloc (.cells #[.string (S sprB), .string ⟨#[]⟩] 64)) = .ok (.slice (some ⟨g2, 0, none⟩) (m + 1) cap2) w2 ∧
    w2.cell? ⟨b, off + j, none⟩ = some (.slice pa m pc) ∧
    (∀ X, (Instr.sliceAt 57 (.slice (some ⟨g2, 0, none⟩) (m + 1) cap2) none (some (.int .i64 (m : Int))) none).run Tryz.prog X = .ok (.slice (some ⟨g2, 0, none⟩) m cap2) X) ∧
    (Builtin.append_ #[23, 23] 23 #[.slice oa on oc, .slice (some ⟨w2.heap.size, 0, none⟩) 1 1]).run Tryz.prog (w2.alloc (.cells #[.slice (some ⟨g2, 0, none⟩) m cap2] 57)) = .ok (.slice a3 n3 c3) w3 ∧
    List.length Os' = j + 1 ∧ CpI w L (.slice a3 n3 c3) Os' w3
theorem cp_round {w W : World} {L Os : List PX} {sa oa : Option Addr} {on oc j : Nat} (hr : DRow w sa L) (hz : ∀ r ∈ L, r.2.2.length ≤ 4398046510976) (hLl : L.length ≤ 5864062014634) (hQ : Os.length = j ∧ CpI w L (.slice oa on oc) Os W) (hj : j < L.length) :
    ∃ b off, sa = some ⟨b, off, none⟩ ∧ W.cell? ⟨b, off + j, none⟩ = some (.slice L[j].1 L[j].2.2.length L[j].2.1) ∧ CpR w L L[j].1 L[j].2.1 L[j].2.2.length j b off oa on oc W := by
  obtain ⟨q1, i1, i2, i3, i4, i6, i5⟩ := hQ
  have hRw := hr.below i5
  obtain ⟨b, off, rfl, c1⟩ := drow_at hRw j hj
  refine ⟨b, off, rfl, c1, ?_⟩
  have hpr := (hRw.2 _ (List.getElem_mem hj)).1
  have hml := hz _ (List.getElem_mem hj)
  generalize hLj : L[j] = r at *
  obtain ⟨pa, pc, ps⟩ := r
  dsimp only at c1 hpr hml
  obtain ⟨W1, hW1⟩ : ∃ W1, W.alloc (.cells #[] 64) = W1 := ⟨_, rfl⟩
  have b01 : Below W.heap.size W W1 := by rw [← hW1]; exact (Below.refl _ _).alloc (Nat.le_refl _) _
  have oE : GOwn 64 2 pV W1 W.heap.size (.slice (some ⟨W.heap.size, 0, none⟩) 0 0) ([] : List PR) := by rw [← hW1]; exact own_empty W
  obtain ⟨v1, w1, e1, o1, g1, b1⟩ := append_gen KDp W1 W.heap.size (.slice (some ⟨W.heap.size, 0, none⟩) 0 0) [] ps pa ps.length pc oE (hpr.below pV_len b01) rfl b01.size (by simp; omega)
  rw [List.nil_append] at o1
  obtain ⟨va, vc, rfl, _, _, _⟩ := o1.row pV_len
  have ba : Below W.heap.size w1 (w1.alloc (.cells #[.string (S sprB), .string ⟨#[]⟩] 64)) := (Below.refl _ _).alloc (b01.trans b1).size _
  have o1a : GOwn 64 2 pV (w1.alloc (.cells #[.string (S sprB), .string ⟨#[]⟩] 64)) W.heap.size (.slice va ps.length vc) ps := o1.below ((Below.refl _ _).alloc (Nat.le_refl _) _)
  obtain ⟨v2, w2, e2, o2, g2', b2⟩ := append_gen KDp (w1.alloc (.cells #[.string (S sprB), .string ⟨#[]⟩] 64)) W.heap.size (.slice va ps.length vc) ps [(sprB, [])] (some ⟨w1.heap.size, 0, none⟩) 1 1 o1a (GRow.one pV w1 64 (sprB, [])) rfl (by have := (b01.trans b1).size; simp; omega) (by simp; omega)
  obtain ⟨g2, cap2, hv2, hc2, hm2, hg2, hgs2⟩ : ∃ g cap, v2 = .slice (some ⟨g, 0, none⟩) (ps.length + 1) cap ∧ ps.length + 1 ≤ cap ∧ cap ≤ maxLen ∧ W.heap.size ≤ g ∧ g < w2.heap.size := by
    rcases owns_form o2 with ⟨_, h0⟩ | ⟨g, cap, e, h1, h2, h3, h4⟩
    · simp at h0
    · exact ⟨g, cap, by rw [e]; simp, by simpa using h1, h2, h3, h4⟩
  subst hv2
  have b02 : Below W.heap.size W w2 := b01.trans (b1.trans (ba.trans b2))
  have hws : w.heap.size ≤ W.heap.size := i5.size
  have hO3 : GOwn 57 1 xV w2 w.heap.size (.slice oa on oc) Os := i1.below b02
  have ba3 : Below w2.heap.size w2 (w2.alloc (.cells #[.slice (some ⟨g2, 0, none⟩) ps.length cap2] 57)) := (Below.refl _ _).alloc (Nat.le_refl _) _
  have hO3a : GOwn 57 1 xV (w2.alloc (.cells #[.slice (some ⟨g2, 0, none⟩) ps.length cap2] 57)) w.heap.size (.slice oa on oc) Os := hO3.below ba3
  obtain ⟨v3, w3, e3, o3, g3, b3⟩ := append_gen KDx (w2.alloc (.cells #[.slice (some ⟨g2, 0, none⟩) ps.length cap2] 57)) w.heap.size (.slice oa on oc) Os [((some ⟨g2, 0, none⟩, cap2, ps) : PX)] (some ⟨w2.heap.size, 0, none⟩) 1 1 hO3a (GRow.one xV w2 57 (some ⟨g2, 0, none⟩, cap2, ps)) rfl (by have := b02.size; simp; omega) (by simp; omega)
  obtain ⟨a3, c3', hv3, _, _, _⟩ := o3.row xV_len
  subst hv3
  refine ⟨W1, va, _, vc, w1, g2, cap2, w2, a3, _, c3', w3, Os ++ [(some ⟨g2, 0, none⟩, cap2, ps)], hW1, ?_, e1, e2, ?_, fun X => halfP (some ⟨g2, 0, none⟩) (ps.length + 1) cap2 ps.length _ rfl (by omega) X, e3, by simp [q1], o3, by simp; omega, ?_, fun x hx => ?_, fun i k hi hk hik => ?_, ?_⟩
  · rw [b01.cell (World.block_lt_of_cell? W _ c1)]; exact c1
  · rw [b02.cell (World.block_lt_of_cell? W _ c1)]; exact c1
  · intro i hi hi'
    by_cases e : i < Os.length
    · rw [List.getElem_append_left e]
      exact i3 i e hi'
    · have e2 : i = j := by simp at hi; omega
      subst e2
      rw [List.getElem_append_right (by omega)]
      have e3 : i - Os.length = 0 := by omega
      simp only [e3, List.getElem_cons_zero, hLj]
  · rcases List.mem_append.1 hx with hx | hx
    · exact (((i4 x hx).below b02).below ba3).grown hO3a g3
    · rw [List.mem_singleton] at hx
      subst hx
      have p2 : PO w.heap.size (some ⟨g2, 0, none⟩, cap2, ps) w2 := ⟨g2, rfl, owns_base o2 hws⟩
      exact (p2.below ba3).grown hO3a g3
  · rw [List.length_append] at hi hk
    simp only [List.length_cons, List.length_nil] at hi hk
    by_cases e : k < Os.length
    · rw [List.getElem_append_left e, List.getElem_append_left (by omega)]
      exact i6 i k (by omega) e hik
    · have hiO : i < Os.length := by omega
      rw [List.getElem_append_left hiO, List.getElem_append_right (by omega)]
      have e3 : k - Os.length = 0 := by omega
      simp only [e3, List.getElem_cons_zero]
      obtain ⟨g, eg, hg⟩ := i4 _ (List.getElem_mem hiO)
      rw [eg]
      have hlt : g < W.heap.size := (World.ownsRow.lt (show W.ownsRow w.heap.size 64 2 _ _ _ from hg) g rfl).2
      intro he
      injection he with he
      injection he with he
      omega
  · exact ((i5.trans (b02.mono hws)).trans (ba3.mono (by have := b02.size; omega))).trans b3

/-- What copyDN answers. -/
def CpQ (w : World) (L : List PX) (n : Nat) (a : Option Addr) (c : Nat) (Os : List PX) (w' : World) : Prop := Os.length = n ∧ n + 1 ≤ c ∧ c ≤ maxLen ∧ (∃ g zg, a = some ⟨g, 0, none⟩ ∧ GOwn 57 1 xV w' w.heap.size (.slice a (n + 1) c) (Os ++ [((some ⟨zg, 0, none⟩, 1, [(sprB, [])]) : PX)]) ∧ PRow w' (some ⟨zg, 0, none⟩) [(sprB, [])]) ∧ (∀ i (h : i < Os.length) (h' : i < L.length), Os[i].2.2 = L[i].2.2) ∧ (∀ r ∈ Os, PO w.heap.size r w') ∧ Below w.heap.size w w' ∧ (∀ i j (hi : i < Os.length) (hj : j < Os.length), i < j → Os[i].1 ≠ Os[j].1)
set_option maxHeartbeats 2000000 in
theorem copyDN_any (sa : Option Addr) (sc : Nat) (L : List PX) (n : Nat) (w : World) (hn : L.length = n) (hr : DRow w sa L) (hz : ∀ r ∈ L, r.2.2.length ≤ 4398046510976) (hl : n ≤ 5864062014634) :
    Calls Tryz.prog 14 #[.slice sa n sc] w fun e w' => ∃ a c Os, e = .returned (.slice a n c) ∧ CpQ w L n a c Os w' := by
  have nb : (n : Int) ≤ 5864062014634 := by omega
  have hH : Hid (DRow w sa L ∧ (∀ r ∈ L, r.2.2.length ≤ 4398046510976) ∧ L.length ≤ 5864062014634) := ⟨hr, hz, by omega⟩
  have hn' : Hid (L.length = n) := hn
  clear hr hz hn hl
  go_enter Tryz.func14, Tryz.ntmps14
  go_wp2_with fail
  go_loopw [3, 4] (fun v iv wr => ∃ (j : Nat) (Os : List PX) (oa : Option Addr) (on oc : Nat), iv = .int .i64 (j : Int) ∧ v = .slice oa on oc ∧ j ≤ n ∧ Hid (Os.length = j ∧ CpI w L (.slice oa on oc) Os wr)) (fun _ iv _ => n - (intOf iv).toNat)
  case atStart => exact ⟨0, [], none, 0, 0, rfl, rfl, Nat.zero_le _, rfl, GOwn.nil _ _ _ _ _, Nat.zero_le _, fun i h => by simp at h, fun r hr => by simp at hr, fun i j hi => by simp at hi, Below.refl _ _⟩
  case round =>
    obtain ⟨j, Os, oa, on, oc, rfl, rfl, hj, hQ⟩ := hrel
    have j0 : (0 : Int) ≤ (j : Int) := Int.natCast_nonneg _
    by_cases hlt : j < n
    · have j1 : (j : Int) < (n : Int) := Int.ofNat_lt.2 hlt
      have hjL : j < L.length := by rw [hn'.out]; exact hlt
      obtain ⟨b, off, rfl, c1, W1, va, vn, vc, w1, g2, cap2, w2, a3, n3, c3', w3, Os', hW1, d1, e1, e2, d2, hsl, e3, l3, s3⟩ := cp_round hH.out.1 hH.out.2.1 hH.out.2.2 hQ.out hjL
      have hfin : Hid (Os'.length = j + 1 ∧ CpI w L (.slice a3 n3 c3') Os' w3) := ⟨l3, s3⟩
      have hlt' : Hid (j < n) := hlt
      have hsp : S sprB = { data := #[115, 112, 97, 114, 101, 32, 114, 111, 111, 109] } := rfl
      rw [hsp] at e2
      generalize hxx : L[j] = r at *
      obtain ⟨pa, pc, ps⟩ := r
      dsimp only at c1 d1 e1 e2 d2 hsl e3
      generalize ps.length = m at *
      clear l3 s3 hxx hjL hlt hj hQ hsp c1
      go_wp2_with (first
        | (at_builtin; refine Lib.wpList_append_run _ rfl _ _ _ _ rfl _ _ rfl rfl _ _ e1 ?_; clear e1)
        | (at_builtin; refine Lib.wpList_append_run _ rfl _ _ _ _ rfl _ _ rfl rfl _ _ e2 ?_; clear e2)
        | (at_builtin; refine Lib.wpList_append_run _ rfl _ _ _ _ rfl _ _ rfl rfl _ _ e3 ?_; clear e3))
      go_roundw
      case rel => exact ⟨j + 1, Os', _, _, _, by simp, rfl, hlt'.out, hfin⟩
      case measure => have := hlt'.out; simp [intOf]; omega
    · have e : n = j := by omega
      subst e
      have j1 : ¬ (n : Int) < (n : Int) := by omega
      obtain ⟨q1, i1, i2, i3, i4, i6, i5⟩ := hQ.out
      obtain ⟨W1, hW1⟩ : ∃ W1, wr.alloc (.cells #[.string (S sprB), .string ⟨#[]⟩] 64) = W1 := ⟨_, rfl⟩
      have b01 : Below wr.heap.size wr W1 := by rw [← hW1]; exact (Below.refl _ _).alloc (Nat.le_refl _) _
      have hz1 : PRow W1 (some ⟨wr.heap.size, 0, none⟩) [(sprB, [])] := by rw [← hW1]; exact GRow.one pV wr 64 (sprB, [])
      have ba : Below W1.heap.size W1 (W1.alloc (.cells #[.slice (some ⟨wr.heap.size, 0, none⟩) 1 1] 57)) := (Below.refl _ _).alloc (Nat.le_refl _) _
      have i1a : GOwn 57 1 xV (W1.alloc (.cells #[.slice (some ⟨wr.heap.size, 0, none⟩) 1 1] 57)) w.heap.size (.slice oa on oc) Os := (i1.below b01).below ba
      obtain ⟨v4, w4, e4, o4, g4, b4⟩ := append_gen KDx (W1.alloc (.cells #[.slice (some ⟨wr.heap.size, 0, none⟩) 1 1] 57)) w.heap.size (.slice oa on oc) Os [((some ⟨wr.heap.size, 0, none⟩, 1, [(sprB, [])]) : PX)] (some ⟨W1.heap.size, 0, none⟩) 1 1 i1a (GRow.one xV W1 57 (some ⟨wr.heap.size, 0, none⟩, 1, [(sprB, [])])) rfl (by have := i5.size; have := b01.size; simp; omega) (by simp; omega)
      have hl4 : (Os ++ [((some ⟨wr.heap.size, 0, none⟩, 1, [(sprB, [])]) : PX)]).length = n + 1 := by simp [q1]
      obtain ⟨g4', c4, hv4, hc4, hm4⟩ : ∃ g cap, v4 = .slice (some ⟨g, 0, none⟩) (n + 1) cap ∧ n + 1 ≤ cap ∧ cap ≤ maxLen := by
        rcases owns_form o4 with ⟨_, h0⟩ | ⟨g, cap, e, h1, h2, h3, h4⟩
        · simp at h0
        · exact ⟨g, cap, by rw [e, hl4], by rw [← hl4]; exact h1, h2⟩
      subst hv4
      have hsl : ∀ X, (Instr.sliceAt 23 (.slice (some ⟨g4', 0, none⟩) (n + 1) c4) none (some (.int .i64 (n : Int))) none).run Tryz.prog X = .ok (.slice (some ⟨g4', 0, none⟩) n c4) X := fun X => halfD _ (n + 1) c4 n _ rfl (by omega) X
      have hz4 : PRow w4 (some ⟨wr.heap.size, 0, none⟩) [(sprB, [])] := by
        intro i hi
        obtain ⟨b', o', e', h'⟩ := (hz1.below pV_len ba) i hi
        refine ⟨b', o', e', fun j hj => ?_⟩
        rw [← h' j hj]
        injection e' with e'
        injection e' with e1 e2
        subst e1 e2
        have hne : (Value.slice oa on oc).ownBlock ≠ some wr.heap.size := fun e => by
          have := (World.ownsRow.lt (show wr.ownsRow w.heap.size 57 1 _ _ _ from i1) _ e).2
          omega
        have hlt2 : wr.heap.size < (W1.alloc (.cells #[.slice (some ⟨wr.heap.size, 0, none⟩) 1 1] 57)).heap.size := by rw [← hW1]; simp; omega
        have hh := g4.block wr.heap.size hlt2 (fun e => hne e.symm)
        unfold World.cell?
        rw [hh]
      have hfin : Hid (CpQ w L n (some ⟨g4', 0, none⟩) c4 Os w4) :=
        ⟨q1, hc4, hm4, ⟨g4', wr.heap.size, rfl, o4, hz4⟩, i3, fun r hr => (((i4 r hr).below b01).below ba).grown i1a g4, ((i5.trans (b01.mono i5.size)).trans (ba.mono (Nat.le_trans i5.size b01.size))).trans b4, i6⟩
      have hsp : S sprB = { data := #[115, 112, 97, 114, 101, 32, 114, 111, 111, 109] } := rfl
      rw [hsp] at hW1
      clear q1 i1 i2 i3 i4 i5 i6 i1a ba o4 g4 b4 hc4 hm4 hl4 hQ hlt hj hz1 hz4 b01 hsp
      go_wp2_with (at_builtin; refine Lib.wpList_append_run _ rfl _ _ _ _ rfl _ _ rfl rfl _ _ e4 ?_; clear e4)
      go_ret
      exact ⟨_, c4, rfl, Os, hfin.out⟩
end Du
end Go.Proofs.YtkknenmpdimdbaaGreatDoor
