import Derived.Test.YtkknenmpdimdbaaGreatDoorFW24
import Derived.Lib.AppendZeros
namespace Go.Proofs.YtkknenmpdimdbaaGreatDoor
namespace Du
open Go.RowKit
set_option linter.unusedVariables false
set_option maxRecDepth 100000
def sprB : List UInt8 := [115, 112, 97, 114, 101, 32, 114, 111, 111, 109]
theorem info_ava : (Tryz.prog.info? 64).map (fun i => (i.zero, i.size, i.bytes)) = some (some (.agg #[.string ⟨#[]⟩, .string ⟨#[]⟩]), 2, 32) := by kernel_rfl
theorem info_rdn : (Tryz.prog.info? 57).map (fun i => (i.zero, i.size, i.bytes)) = some (some (.slice none 0 0), 1, 24) := by kernel_rfl
theorem KDp : Kd 64 57 2 32 pV := by
 obtain ⟨i0, hi, hz0, hz1, hz2⟩ := info_parts info_ava
 exact ⟨Tryz.underlying57, ⟨i0, _, hi, hz0, hz1, hz2, rfl⟩, by decide, by decide, pV_len, fun x u hu => by simp [pV] at hu; rcases hu with rfl | rfl <;> rfl⟩
theorem KDx : Kd 57 23 1 24 xV := by
 obtain ⟨i0, hi, hz0, hz1, hz2⟩ := info_parts info_rdn
 exact ⟨Tryz.underlying23, ⟨i0, _, hi, hz0, hz1, hz2, rfl⟩, by decide, by decide, xV_len, fun x u hu => by simp [xV] at hu; rcases hu with rfl; rfl⟩
theorem elP : Tryz.prog.underlying 57 = some (.slice (Tryz.prog.elem 57)) := by kernel_rfl
theorem szP (W : World) : (Go.sizeOf (Tryz.prog.elem 57)).run Tryz.prog W = .ok 2 W := by kernel_rfl
theorem elD : Tryz.prog.underlying 23 = some (.slice (Tryz.prog.elem 23)) := by kernel_rfl
theorem szD (W : World) : (Go.sizeOf (Tryz.prog.elem 23)).run Tryz.prog W = .ok 1 W := by kernel_rfl
theorem halfP (a : Option Addr) (n c k : Nat) (z : Int) (hz : z = (k : Int)) (hk : k ≤ c) (W : World) : (Instr.sliceAt 57 (.slice a n c) none (some (.int .i64 z)) none).run Tryz.prog W = .ok (.slice a k c) W := by
 subst hz
 rw [run_sliceAt_slice _ _ _ _ _ _ elP, run_slice_h _ _ _ _ _ elP _ _ (Int.natCast_nonneg _) (Int.ofNat_le.2 hk), szP]
 simp [Result.andThen, sliced]
 intro h
 cases a with
 | none => rfl
 | some x => simp [Addr.add]
theorem halfD (a : Option Addr) (n c k : Nat) (z : Int) (hz : z = (k : Int)) (hk : k ≤ c) (W : World) : (Instr.sliceAt 23 (.slice a n c) none (some (.int .i64 z)) none).run Tryz.prog W = .ok (.slice a k c) W := by
 subst hz
 rw [run_sliceAt_slice _ _ _ _ _ _ elD, run_slice_h _ _ _ _ _ elD _ _ (Int.natCast_nonneg _) (Int.ofNat_le.2 hk), szD]
 simp [Result.andThen, sliced]
 intro h
 cases a with
 | none => rfl
 | some x => simp [Addr.add]
def PO (B : Nat) (r : PX) (W : World) : Prop := ∃ g, r.1 = some ⟨g, 0, none⟩ ∧ GOwn 64 2 pV W B (.slice (some ⟨g, 0, none⟩) (r.2.2.length + 1) r.2.1) (r.2.2 ++ [(sprB, [])])
theorem PO.below {B : Nat} {r : PX} {W W' : World} (h : PO B r W) (hb : Below W.heap.size W W') : PO B r W' := by
 obtain ⟨g, e, h1⟩ := h
 exact ⟨g, e, h1.below hb⟩
theorem PO.grown {B C : Nat} {r : PX} {W W' : World} {v : Value} {Os : List PX} (h : PO B r W) (ho : GOwn 57 1 xV W C v Os) (hg : W.grownBy W' v.ownBlock) : PO B r W' := by
 obtain ⟨g, e, h1⟩ := h
 refine ⟨g, e, owns_same h1 (fun g' hg' => hg.block g' (World.ownsRow.lt h1 g' hg').2 (fun e' => ?_))⟩
 exact owns_apart (show W.ownsRow B 64 2 _ _ _ from h1) (show W.ownsRow C 57 1 _ _ _ from ho) (by decide) hg' e'.symm
theorem own_empty (w : World) : GOwn 64 2 pV (w.alloc (.cells #[] 64)) w.heap.size (.slice (some ⟨w.heap.size, 0, none⟩) 0 0) ([] : List PR) :=
 ⟨rfl, Or.inr ⟨w.heap.size, 0, #[], rfl, Nat.le_refl _, heap_alloc_new w _, Nat.le_refl _, by unfold maxLen; omega, rfl, rfl⟩⟩
def CpI (w : World) (L : List PX) (v : Value) (Os : List PX) (W : World) : Prop :=
 GOwn 57 1 xV W w.heap.size v Os ∧ Os.length ≤ L.length ∧ (∀ i (h : i < Os.length) (h' : i < L.length), Os[i].2.2 = L[i].2.2) ∧ (∀ r ∈ Os, PO w.heap.size r W) ∧ (∀ i j (hi : i < Os.length) (hj : j < Os.length), i < j → Os[i].1 ≠ Os[j].1) ∧ Below w.heap.size w W
def CpR (w : World) (L : List PX) (pa : Option Addr) (pc m j b off : Nat) (oa : Option Addr) (on oc : Nat) (W : World) : Prop :=
 ∃ W1 va vn vc w1 g2 cap2 w2 a3 n3 c3 w3 Os',
  W.alloc (.cells #[] 64) = W1 ∧
  W1.cell? ⟨b, off + j, none⟩ = some (.slice pa m pc) ∧
  (Builtin.append_ #[57, 57] 57 #[.slice (some ⟨W.heap.size, 0, none⟩) 0 0, .slice pa m pc]).run Tryz.prog W1 = .ok (.slice va vn vc) w1 ∧
  (Builtin.append_ #[57, 57] 57 #[.slice va vn vc, .slice (some ⟨w1.heap.size, 0, none⟩) 1 1]).run Tryz.prog (w1.alloc (.cells #[.string (S sprB), .string ⟨#[]⟩] 64)) = .ok (.slice (some ⟨g2, 0, none⟩) (m + 1) cap2) w2 ∧
  w2.cell? ⟨b, off + j, none⟩ = some (.slice pa m pc) ∧
  (∀ X, (Instr.sliceAt 57 (.slice (some ⟨g2, 0, none⟩) (m + 1) cap2) none (some (.int .i64 (m : Int))) none).run Tryz.prog X = .ok (.slice (some ⟨g2, 0, none⟩) m cap2) X) ∧
  (Builtin.append_ #[23, 23] 23 #[.slice oa on oc, .slice (some ⟨w2.heap.size, 0, none⟩) 1 1]).run Tryz.prog (w2.alloc (.cells #[.slice (some ⟨g2, 0, none⟩) m cap2] 57)) = .ok (.slice a3 n3 c3) w3 ∧
  List.length Os' = j + 1 ∧ CpI w L (.slice a3 n3 c3) Os' w3
theorem cp_round {w W : World} {L Os : List PX} {sa oa : Option Addr} {on oc j : Nat} (hr : DRow w sa L) (hz : ∀ r ∈ L, r.2.2.length ≤ 4398046510976) (hLl : L.length ≤ 5864062014634) (hQ : Os.length = j ∧ CpI w L (.slice oa on oc) Os W) (hj : j < L.length) :
  ∃ b off, sa = some ⟨b, off, none⟩ ∧ W.cell? ⟨b, off + j, none⟩ = some (.slice L[j].1 L[j].2.2.length L[j].2.1) ∧ CpR w L L[j].1 L[j].2.1 L[j].2.2.length j b off oa on oc W := by
 obtain ⟨q1, i1, i2, i3, i4, i6, i5⟩ := hQ
 have hRw := hr.below i5
 obtain ⟨b, off, rfl, c1⟩ := drow_at hRw j hj
 refine ⟨b, off, rfl, c1, ?_⟩
 have hpr := (hRw.2 _ (List.getElem_mem hj)).1
 have hml := hz _ (List.getElem_mem hj)
 generalize hLj : L[j] = r at *
 obtain ⟨pa, pc, ps⟩ := r
 dsimp only at c1 hpr hml
 obtain ⟨W1, hW1⟩ : ∃ W1, W.alloc (.cells #[] 64) = W1 := ⟨_, rfl⟩
 have b01 : Below W.heap.size W W1 := by rw [← hW1]; exact (Below.refl _ _).alloc (Nat.le_refl _) _
 have oE : GOwn 64 2 pV W1 W.heap.size (.slice (some ⟨W.heap.size, 0, none⟩) 0 0) ([] : List PR) := by rw [← hW1]; exact own_empty W
 obtain ⟨v1, w1, e1, o1, g1, b1⟩ := append_gen KDp W1 W.heap.size (.slice (some ⟨W.heap.size, 0, none⟩) 0 0) [] ps pa ps.length pc oE (hpr.below pV_len b01) rfl b01.size (by simp; omega)
 rw [List.nil_append] at o1
 obtain ⟨va, vc, rfl, _, _, _⟩ := o1.row pV_len
 have ba : Below W.heap.size w1 (w1.alloc (.cells #[.string (S sprB), .string ⟨#[]⟩] 64)) := (Below.refl _ _).alloc (b01.trans b1).size _
 have o1a : GOwn 64 2 pV (w1.alloc (.cells #[.string (S sprB), .string ⟨#[]⟩] 64)) W.heap.size (.slice va ps.length vc) ps := o1.below ((Below.refl _ _).alloc (Nat.le_refl _) _)
 obtain ⟨v2, w2, e2, o2, g2', b2⟩ := append_gen KDp (w1.alloc (.cells #[.string (S sprB), .string ⟨#[]⟩] 64)) W.heap.size (.slice va ps.length vc) ps [(sprB, [])] (some ⟨w1.heap.size, 0, none⟩) 1 1 o1a (GRow.one pV w1 64 (sprB, [])) rfl (by have := (b01.trans b1).size; simp; omega) (by simp; omega)
 obtain ⟨g2, cap2, hv2, hc2, hm2, hg2, hgs2⟩ : ∃ g cap, v2 = .slice (some ⟨g, 0, none⟩) (ps.length + 1) cap ∧ ps.length + 1 ≤ cap ∧ cap ≤ maxLen ∧ W.heap.size ≤ g ∧ g < w2.heap.size := by
  rcases owns_form o2 with ⟨_, h0⟩ | ⟨g, cap, e, h1, h2, h3, h4⟩
  ·simp at h0
  ·exact ⟨g, cap, by rw [e]; simp, by simpa using h1, h2, h3, h4⟩
 subst hv2
 have b02 : Below W.heap.size W w2 := b01.trans (b1.trans (ba.trans b2))
 have hws : w.heap.size ≤ W.heap.size := i5.size
 have hO3 : GOwn 57 1 xV w2 w.heap.size (.slice oa on oc) Os := i1.below b02
 have ba3 : Below w2.heap.size w2 (w2.alloc (.cells #[.slice (some ⟨g2, 0, none⟩) ps.length cap2] 57)) := (Below.refl _ _).alloc (Nat.le_refl _) _
 have hO3a : GOwn 57 1 xV (w2.alloc (.cells #[.slice (some ⟨g2, 0, none⟩) ps.length cap2] 57)) w.heap.size (.slice oa on oc) Os := hO3.below ba3
 obtain ⟨v3, w3, e3, o3, g3, b3⟩ := append_gen KDx (w2.alloc (.cells #[.slice (some ⟨g2, 0, none⟩) ps.length cap2] 57)) w.heap.size (.slice oa on oc) Os [((some ⟨g2, 0, none⟩, cap2, ps) : PX)] (some ⟨w2.heap.size, 0, none⟩) 1 1 hO3a (GRow.one xV w2 57 (some ⟨g2, 0, none⟩, cap2, ps)) rfl (by have := b02.size; simp; omega) (by simp; omega)
 obtain ⟨a3, c3', hv3, _, _, _⟩ := o3.row xV_len
 subst hv3
 refine ⟨W1, va, _, vc, w1, g2, cap2, w2, a3, _, c3', w3, Os ++ [(some ⟨g2, 0, none⟩, cap2, ps)], hW1, ?_, e1, e2, ?_, fun X => halfP (some ⟨g2, 0, none⟩) (ps.length + 1) cap2 ps.length _ rfl (by omega) X, e3, by simp [q1], o3, by simp; omega, ?_, fun x hx => ?_, fun i k hi hk hik => ?_, ?_⟩
 ·rw [b01.cell (World.block_lt_of_cell? W _ c1)]; exact c1
 ·rw [b02.cell (World.block_lt_of_cell? W _ c1)]; exact c1
 ·intro i hi hi'
  by_cases e : i < Os.length
  ·rw [List.getElem_append_left e]
   exact i3 i e hi'
  ·have e2 : i = j := by simp at hi; omega
   subst e2
   rw [List.getElem_append_right (by omega)]
   have e3 : i - Os.length = 0 := by omega
   simp only [e3, List.getElem_cons_zero, hLj]
 ·rcases List.mem_append.1 hx with hx | hx
  ·exact (((i4 x hx).below b02).below ba3).grown hO3a g3
  ·rw [List.mem_singleton] at hx
   subst hx
   have p2 : PO w.heap.size (some ⟨g2, 0, none⟩, cap2, ps) w2 := ⟨g2, rfl, owns_base o2 hws⟩
   exact (p2.below ba3).grown hO3a g3
 ·rw [List.length_append] at hi hk
  simp only [List.length_cons, List.length_nil] at hi hk
  by_cases e : k < Os.length
  ·rw [List.getElem_append_left e, List.getElem_append_left (by omega)]
   exact i6 i k (by omega) e hik
  ·have hiO : i < Os.length := by omega
   rw [List.getElem_append_left hiO, List.getElem_append_right (by omega)]
   have e3 : k - Os.length = 0 := by omega
   simp only [e3, List.getElem_cons_zero]
   obtain ⟨g, eg, hg⟩ := i4 _ (List.getElem_mem hiO)
   rw [eg]
   have hlt : g < W.heap.size := (World.ownsRow.lt (show W.ownsRow w.heap.size 64 2 _ _ _ from hg) g rfl).2
   intro he
   injection he with he
   injection he with he
   omega
 ·exact ((i5.trans (b02.mono hws)).trans (ba3.mono (by have := b02.size; omega))).trans b3
def CpQ (w : World) (L : List PX) (n : Nat) (a : Option Addr) (c : Nat) (Os : List PX) (w' : World) : Prop := Os.length = n ∧ n + 1 ≤ c ∧ c ≤ maxLen ∧ (∃ g zg, a = some ⟨g, 0, none⟩ ∧ GOwn 57 1 xV w' w.heap.size (.slice a (n + 1) c) (Os ++ [((some ⟨zg, 0, none⟩, 1, [(sprB, [])]) : PX)]) ∧ PRow w' (some ⟨zg, 0, none⟩) [(sprB, [])]) ∧ (∀ i (h : i < Os.length) (h' : i < L.length), Os[i].2.2 = L[i].2.2) ∧ (∀ r ∈ Os, PO w.heap.size r w') ∧ Below w.heap.size w w' ∧ (∀ i j (hi : i < Os.length) (hj : j < Os.length), i < j → Os[i].1 ≠ Os[j].1)
set_option maxHeartbeats 2000000 in
theorem copyDN_any (sa : Option Addr) (sc : Nat) (L : List PX) (n : Nat) (w : World) (hn : L.length = n) (hr : DRow w sa L) (hz : ∀ r ∈ L, r.2.2.length ≤ 4398046510976) (hl : n ≤ 5864062014634) :
  Calls Tryz.prog 14 #[.slice sa n sc] w fun e w' => ∃ a c Os, e = .returned (.slice a n c) ∧ CpQ w L n a c Os w' := by
 have nb : (n : Int) ≤ 5864062014634 := by omega
 have hH : Hid (DRow w sa L ∧ (∀ r ∈ L, r.2.2.length ≤ 4398046510976) ∧ L.length ≤ 5864062014634) := ⟨hr, hz, by omega⟩
 have hn' : Hid (L.length = n) := hn
 clear hr hz hn hl
 go_enter Tryz.func14, Tryz.ntmps14
 go_wp2_with fail
 go_loopw [3, 4] (fun v iv wr => ∃ (j : Nat) (Os : List PX) (oa : Option Addr) (on oc : Nat), iv = .int .i64 (j : Int) ∧ v = .slice oa on oc ∧ j ≤ n ∧ Hid (Os.length = j ∧ CpI w L (.slice oa on oc) Os wr)) (fun _ iv _ => n - (intOf iv).toNat)
 case atStart => exact ⟨0, [], none, 0, 0, rfl, rfl, Nat.zero_le _, rfl, GOwn.nil _ _ _ _ _, Nat.zero_le _, fun i h => by simp at h, fun r hr => by simp at hr, fun i j hi => by simp at hi, Below.refl _ _⟩
 case round =>
  obtain ⟨j, Os, oa, on, oc, rfl, rfl, hj, hQ⟩ := hrel
  have j0 : (0 : Int) ≤ (j : Int) := Int.natCast_nonneg _
  by_cases hlt : j < n
  ·have j1 : (j : Int) < (n : Int) := Int.ofNat_lt.2 hlt
   have hjL : j < L.length := by rw [hn'.out]; exact hlt
   obtain ⟨b, off, rfl, c1, W1, va, vn, vc, w1, g2, cap2, w2, a3, n3, c3', w3, Os', hW1, d1, e1, e2, d2, hsl, e3, l3, s3⟩ := cp_round hH.out.1 hH.out.2.1 hH.out.2.2 hQ.out hjL
   have hfin : Hid (Os'.length = j + 1 ∧ CpI w L (.slice a3 n3 c3') Os' w3) := ⟨l3, s3⟩
   have hlt' : Hid (j < n) := hlt
   have hsp : S sprB = { data := #[115, 112, 97, 114, 101, 32, 114, 111, 111, 109] } := rfl
   rw [hsp] at e2
   generalize hxx : L[j] = r at *
   obtain ⟨pa, pc, ps⟩ := r
   dsimp only at c1 d1 e1 e2 d2 hsl e3
   generalize ps.length = m at *
   clear l3 s3 hxx hjL hlt hj hQ hsp c1
   go_wp2_with (first
    | (at_builtin; refine Lib.wpList_append_run _ rfl _ _ _ _ rfl _ _ rfl rfl _ _ e1 ?_; clear e1)
    | (at_builtin; refine Lib.wpList_append_run _ rfl _ _ _ _ rfl _ _ rfl rfl _ _ e2 ?_; clear e2)
    | (at_builtin; refine Lib.wpList_append_run _ rfl _ _ _ _ rfl _ _ rfl rfl _ _ e3 ?_; clear e3))
   go_roundw
   case rel => exact ⟨j + 1, Os', _, _, _, by simp, rfl, hlt'.out, hfin⟩
   case measure => have := hlt'.out; simp [intOf]; omega
  ·have e : n = j := by omega
   subst e
   have j1 : ¬ (n : Int) < (n : Int) := by omega
   obtain ⟨q1, i1, i2, i3, i4, i6, i5⟩ := hQ.out
   obtain ⟨W1, hW1⟩ : ∃ W1, wr.alloc (.cells #[.string (S sprB), .string ⟨#[]⟩] 64) = W1 := ⟨_, rfl⟩
   have b01 : Below wr.heap.size wr W1 := by rw [← hW1]; exact (Below.refl _ _).alloc (Nat.le_refl _) _
   have hz1 : PRow W1 (some ⟨wr.heap.size, 0, none⟩) [(sprB, [])] := by rw [← hW1]; exact GRow.one pV wr 64 (sprB, [])
   have ba : Below W1.heap.size W1 (W1.alloc (.cells #[.slice (some ⟨wr.heap.size, 0, none⟩) 1 1] 57)) := (Below.refl _ _).alloc (Nat.le_refl _) _
   have i1a : GOwn 57 1 xV (W1.alloc (.cells #[.slice (some ⟨wr.heap.size, 0, none⟩) 1 1] 57)) w.heap.size (.slice oa on oc) Os := (i1.below b01).below ba
   obtain ⟨v4, w4, e4, o4, g4, b4⟩ := append_gen KDx (W1.alloc (.cells #[.slice (some ⟨wr.heap.size, 0, none⟩) 1 1] 57)) w.heap.size (.slice oa on oc) Os [((some ⟨wr.heap.size, 0, none⟩, 1, [(sprB, [])]) : PX)] (some ⟨W1.heap.size, 0, none⟩) 1 1 i1a (GRow.one xV W1 57 (some ⟨wr.heap.size, 0, none⟩, 1, [(sprB, [])])) rfl (by have := i5.size; have := b01.size; simp; omega) (by simp; omega)
   have hl4 : (Os ++ [((some ⟨wr.heap.size, 0, none⟩, 1, [(sprB, [])]) : PX)]).length = n + 1 := by simp [q1]
   obtain ⟨g4', c4, hv4, hc4, hm4⟩ : ∃ g cap, v4 = .slice (some ⟨g, 0, none⟩) (n + 1) cap ∧ n + 1 ≤ cap ∧ cap ≤ maxLen := by
    rcases owns_form o4 with ⟨_, h0⟩ | ⟨g, cap, e, h1, h2, h3, h4⟩
    ·simp at h0
    ·exact ⟨g, cap, by rw [e, hl4], by rw [← hl4]; exact h1, h2⟩
   subst hv4
   have hsl : ∀ X, (Instr.sliceAt 23 (.slice (some ⟨g4', 0, none⟩) (n + 1) c4) none (some (.int .i64 (n : Int))) none).run Tryz.prog X = .ok (.slice (some ⟨g4', 0, none⟩) n c4) X := fun X => halfD _ (n + 1) c4 n _ rfl (by omega) X
   have hz4 : PRow w4 (some ⟨wr.heap.size, 0, none⟩) [(sprB, [])] := by
    intro i hi
    obtain ⟨b', o', e', h'⟩ := (hz1.below pV_len ba) i hi
    refine ⟨b', o', e', fun j hj => ?_⟩
    rw [← h' j hj]
    injection e' with e'
    injection e' with e1 e2
    subst e1 e2
    have hne : (Value.slice oa on oc).ownBlock ≠ some wr.heap.size := fun e => by
     have := (World.ownsRow.lt (show wr.ownsRow w.heap.size 57 1 _ _ _ from i1) _ e).2
     omega
    have hlt2 : wr.heap.size < (W1.alloc (.cells #[.slice (some ⟨wr.heap.size, 0, none⟩) 1 1] 57)).heap.size := by rw [← hW1]; simp; omega
    have hh := g4.block wr.heap.size hlt2 (fun e => hne e.symm)
    unfold World.cell?
    rw [hh]
   have hfin : Hid (CpQ w L n (some ⟨g4', 0, none⟩) c4 Os w4) :=
    ⟨q1, hc4, hm4, ⟨g4', wr.heap.size, rfl, o4, hz4⟩, i3, fun r hr => (((i4 r hr).below b01).below ba).grown i1a g4, ((i5.trans (b01.mono i5.size)).trans (ba.mono (Nat.le_trans i5.size b01.size))).trans b4, i6⟩
   have hsp : S sprB = { data := #[115, 112, 97, 114, 101, 32, 114, 111, 111, 109] } := rfl
   rw [hsp] at hW1
   clear q1 i1 i2 i3 i4 i5 i6 i1a ba o4 g4 b4 hc4 hm4 hl4 hQ hlt hj hz1 hz4 b01 hsp
   go_wp2_with (at_builtin; refine Lib.wpList_append_run _ rfl _ _ _ _ rfl _ _ rfl rfl _ _ e4 ?_; clear e4)
   go_ret
   exact ⟨_, c4, rfl, Os, hfin.out⟩
end Du
end Go.Proofs.YtkknenmpdimdbaaGreatDoor

namespace Go.Proofs.YtkknenmpdimdbaaGreatDoor
namespace Pa
open Go.RowKit
open TextMath (fold lo normal check wo unhex)
open Ke (refV tyOk tyC utf PR)
open Du (GOwn GRow Kd append_gen KDp KDx pV pV_len xV xV_len owns_same owns_apart PX)
set_option linter.unusedVariables false
set_option linter.unusedSimpArgs false
set_option maxRecDepth 100000
theorem prt_inv {hx : List UInt8 → Option VR} {m num : Nat} {ps : List PR} {l : List UInt8} {R : PRs} (h : prt hx (m + 1) num ps l = some R) :
  ((
   num = 64 ∨ ps.length = 8) ∧ R = .error (58, (sp l).length)) ∨ (¬ (num = 64 ∨ ps.length = 8) ∧
   ((∃ e, pt (ps.map fun p => tyC p.1) (sp l) = .error e ∧ R = .error e) ∨
   (∃ x, pt (ps.map fun p => tyC p.1) (sp l) = .ok x ∧ ((∃ e, pv hx x.2 = some (.error e) ∧ R = .error e) ∨
    (∃ y, pv hx x.2 = some (.ok y) ∧ ((y.2.head? = some 43 ∧ prt hx m num (ps ++ [(x.1, y.1)]) (y.2.drop 1) = some R) ∨ (y.2.head? ≠ some 43 ∧ R = .ok (ps ++ [(x.1, y.1)], y.2))))))) ) := by
 unfold prt at h
 by_cases hw : num = 64 ∨ ps.length = 8
 ·rw [if_pos hw] at h
  injection h with h
  exact Or.inl ⟨hw, h.symm⟩
 ·rw [if_neg hw] at h
  refine Or.inr ⟨hw, ?_⟩
  cases hp : pt (ps.map fun p => tyC p.1) (sp l) with
  | error e =>
   rw [hp] at h
   injection h with h
   exact Or.inl ⟨e, rfl, h.symm⟩
  | ok x =>
   rw [hp] at h
   dsimp only at h
   refine Or.inr ⟨x, rfl, ?_⟩
   cases hv : pv hx x.2 with
   | none => rw [hv] at h; cases h
   | some v =>
    rw [hv] at h
    cases v with
    | error e => injection h with h; exact Or.inl ⟨e, rfl, h.symm⟩
    | ok y =>
     dsimp only at h
     refine Or.inr ⟨y, rfl, ?_⟩
     by_cases hh : y.2.head? = some 43
     ·rw [if_pos hh] at h
      exact Or.inl ⟨hh, h⟩
     ·rw [if_neg hh] at h
      injection h with h
      exact Or.inr ⟨hh, h.symm⟩
def PI (b : Nat) (s : ByteArray) (q : Nat) (v6 v7 : Value) (ps : List PR) (w W : World) : Prop :=
 GOwn 64 2 pV W w.heap.size v6 ps ∧ OwnS W w.heap.size v7 (ps.map fun p => tyC p.1) ∧ Rd W b s q ∧ Wb b w W ∧ b < w.heap.size
variable {b q q' : Nat} {s : ByteArray} {v6 v7 : Value} {ps : List PR} {w W W' : World}
theorem owns_wb {B k n : Nat} {e : TypeId} {v : Value} {xs : List Value} (h : W.ownsRow B e k v n xs) (hw : Wb b W W') (hb : b < B) : W'.ownsRow B e k v n xs :=
 owns_same h (fun g hg => by
  obtain ⟨h1, h2⟩ := World.ownsRow.lt h g hg
  exact hw.2 g h2 (by omega))
theorem PI.wb (h : PI b s q v6 v7 ps w W) (hw : Wb b W W') (hr : Rd W' b s q') : PI b s q' v6 v7 ps w W' :=
 ⟨owns_wb (show W.ownsRow _ _ _ _ _ _ from h.1) hw h.2.2.2.2, owns_wb (show W.ownsRow _ _ _ _ _ _ from h.2.1) hw h.2.2.2.2, hr, h.2.2.2.1.trans hw, h.2.2.2.2⟩
theorem PI.rows (h : PI b s q v6 v7 ps w W) {ta : Option Addr} {tn tc : Nat} (hv : v7 = .slice ta tn tc) : ∀ W', Wb b W W' → Row W' ta (ps.map fun p => tyC p.1) := fun W' hw => by
 subst hv
 exact (ownS_row (show OwnS W' w.heap.size _ _ from owns_wb (show W.ownsRow _ _ _ _ _ _ from h.2.1) hw h.2.2.2.2)).1
theorem PI.forms (h : PI b s q v6 v7 ps w W) : (∃ va c, v6 = .slice va ps.length c) ∧ (∃ ta tc, v7 = .slice ta ps.length tc) := by
 obtain ⟨va, c, e, _⟩ := h.1.row pV_len
 refine ⟨⟨va, c, e⟩, ?_⟩
 rcases ownS_formD h.2.1 with ⟨e, h0⟩ | ⟨g, cap, e, _⟩
 ·have : ps.length = 0 := by simpa using h0
  exact ⟨none, 0, by rw [e, this]⟩
 ·exact ⟨some ⟨g, 0, none⟩, cap, by rw [e, List.length_map]⟩
def sV (x : List UInt8) : List Value := [.string (S x)]
theorem sV_len (x : List UInt8) : (sV x).length = 1 := rfl
theorem sV_flat (l : List (List UInt8)) : l.flatMap sV = sv l := by
 induction l with
 | nil => rfl
 | cons c l ih => rw [List.flatMap_cons, ih]; rfl
theorem KDs : Kd 9 36 1 16 sV := by
 obtain ⟨i0, hi, hz0, hz1, hz2⟩ := info_parts info_str
 exact ⟨Tryz.underlying36, ⟨i0, _, hi, hz0, hz1, hz2, rfl⟩, by decide, by decide, sV_len, fun x u hu => by simp [sV] at hu; subst hu; rfl⟩
theorem owns_g {W : World} {B : Nat} {v : Value} {l : List (List UInt8)} : OwnS W B v l ↔ GOwn 9 1 sV W B v l := by
 unfold OwnS GOwn
 rw [sV_flat]
theorem PI.pair (h : PI b s q v6 v7 ps w W) (t v : List UInt8) (hl : ps.length ≤ 8) :
  ∃ va n c w', (Builtin.append_ #[57, 57] 57 #[v6, .slice (some ⟨W.heap.size, 0, none⟩) 1 1]).run Tryz.prog (W.alloc (.cells #[.string (S t), .string (S v)] 64)) = .ok (.slice va n c) w' ∧
  ∃ ta m d w'', (Builtin.append_ #[36, 36] 36 #[v7, .slice (some ⟨w'.heap.size, 0, none⟩) 1 1]).run Tryz.prog (w'.alloc (.cells #[.string (S (tyC t))] 9)) = .ok (.slice ta m d) w'' ∧ PI b s q (.slice va n c) (.slice ta m d) (ps ++ [(t, v)]) w w'' ∧ n = ps.length + 1 := by
 obtain ⟨h1, h2, h3, h4, h5⟩ := h
 have hsz : w.heap.size ≤ W.heap.size := h4.size
 have ba : Below W.heap.size W (W.alloc (.cells #[.string (S t), .string (S v)] 64)) := (Below.refl _ _).alloc (Nat.le_refl _) _
 obtain ⟨v1, w1, e1, o1, g1, b1⟩ := append_gen KDp (W.alloc (.cells #[.string (S t), .string (S v)] 64)) w.heap.size v6 ps [(t, v)] (some ⟨W.heap.size, 0, none⟩) 1 1 (h1.below ba) (GRow.one pV W 64 (t, v)) rfl (Nat.le_trans hsz ba.size) (by simp; omega)
 obtain ⟨va, c, rfl, _⟩ := o1.row pV_len
 have o7a : OwnS (W.alloc (.cells #[.string (S t), .string (S v)] 64)) w.heap.size v7 (ps.map fun p => tyC p.1) := ownS_below h2 ba
 have o7 : OwnS w1 w.heap.size v7 (ps.map fun p => tyC p.1) := owns_same (show World.ownsRow _ _ _ _ _ _ _ from o7a) (fun g hg => g1.block g (World.ownsRow.lt (show World.ownsRow _ _ _ _ _ _ _ from o7a) g hg).2 (fun e => owns_apart (show World.ownsRow _ _ 9 _ _ _ _ from o7a) (show World.ownsRow _ _ 64 _ _ _ _ from h1.below ba) (by decide) hg e.symm))
 have bw1 : Below w.heap.size W w1 := (ba.mono hsz).trans b1
 have ba2 : Below w1.heap.size w1 (w1.alloc (.cells #[.string (S (tyC t))] 9)) := (Below.refl _ _).alloc (Nat.le_refl _) _
 obtain ⟨v2, w2, e2, o2, g2, b2⟩ := append_gen KDs (w1.alloc (.cells #[.string (S (tyC t))] 9)) w.heap.size v7 (ps.map fun p => tyC p.1) [tyC t] (some ⟨w1.heap.size, 0, none⟩) 1 1 (owns_g.1 (ownS_below o7 ba2)) (GRow.one sV w1 9 (tyC t)) rfl (Nat.le_trans (Nat.le_trans hsz bw1.size) ba2.size) (by simp; omega)
 have e7 : (ps.map fun p => tyC p.1) ++ [tyC t] = (ps ++ [(t, v)]).map fun p => tyC p.1 := by simp
 rw [e7] at o2
 obtain ⟨ta, d, rfl, _⟩ := o2.row sV_len
 have o6a := o1.below ba2
 have o6 : GOwn 64 2 pV w2 w.heap.size (.slice va (ps ++ [(t, v)]).length c) (ps ++ [(t, v)]) := owns_same (show World.ownsRow _ _ _ _ _ _ _ from o6a) (fun g hg => g2.block g (World.ownsRow.lt (show World.ownsRow _ _ _ _ _ _ _ from o6a) g hg).2 (fun e => owns_apart (show World.ownsRow _ _ 64 _ _ _ _ from o6a) (show World.ownsRow _ _ 9 _ _ _ _ from ownS_below o7 ba2) (by decide) hg e.symm))
 have bw2 : Below w.heap.size W w2 := bw1.trans ((ba2.mono (Nat.le_trans hsz bw1.size)).trans b2)
 refine ⟨va, _, c, w1, e1, ta, _, d, w2, e2, ⟨o6, owns_g.2 o2, h3.of (bw2.block b h5), ⟨h4.1.trans (bw2.mono (Nat.le_of_lt h5)), fun k hk hkb => by rw [bw2.block k hk]; exact h4.2 k hk hkb⟩, h5⟩, by simp⟩
end Pa
end Go.Proofs.YtkknenmpdimdbaaGreatDoor

namespace Go.Proofs.YtkknenmpdimdbaaGreatDoor
namespace Pa
open Go.RowKit
open TextMath (fold lo normal check wo unhex)
open Ke (refV tyOk tyC utf PR)
open Du (GOwn GRow Kd append_gen KDp KDx pV pV_len xV xV_len owns_same owns_apart PX)
set_option linter.unusedVariables false
set_option linter.unusedSimpArgs false
set_option maxRecDepth 100000
def PrQ (ev : Nat → TypeId × Value) (s : ByteArray) (b p : Nat) (w : World) (R : PRs) (e : Ending) (w' : World) : Prop :=
 (∃ ps r p' va c v7, R = .ok (ps, r) ∧ e = .returned (.tuple #[.slice va ps.length c, .nilIface]) ∧ PI b s p' (.slice va ps.length c) v7 ps w w' ∧ lf s p' = r ∧ p ≤ p' ∧ p' ≤ s.size ∧ ps.length ≤ 8) ∨
 (∃ k m p', R = .error (k, m) ∧ e = .returned (.tuple #[.slice none 0 0, refV ev k ((s.size - m : Nat) : Int)]) ∧ p' ≤ s.size ∧ Rd w' b s p' ∧ Wb b w w')
theorem PrQ.err {ev : Nat → TypeId × Value} {s : ByteArray} {b p : Nat} {w : World} {k m p' : Nat} {w' : World} (h1 : p' ≤ s.size) (h2 : Rd w' b s p') (h3 : Wb b w w') (n : Nat) : PrQ ev s b p w (.error (k, m)) (.returned (.tuple #[.slice none 0 0, refV ev k ((s.size - m : Nat) : Int)])) (w'.drewN n) := Or.inr ⟨k, m, p', rfl, rfl, h1, h2, h3.trans wb_drew⟩
set_option maxHeartbeats 8000000 in
theorem part_any (hx : List UInt8 → Option VR) (ev : Nat → TypeId × Value) (s : ByteArray) (p b num k0 : Nat) (w : World) (R : PRs) (h : Rd w b s p) (hp : p ≤ s.size) (hs : s.size ≤ 4096) (hE : EvA ev w) (hH : HxOk hx ev s b) (hR : prt hx k0 num [] (lf s p) = some R) (hnum : num ≤ 64) :
  Calls Tryz.prog 57 #[.pointer (some ⟨b, 0, none⟩), .int .i64 (num : Int)] w fun e w' => PrQ ev s b p w R e w' := by
 have h' : Hid (Rd w b s p ∧ s.size ≤ 4096 ∧ EvA ev w ∧ HxOk hx ev s b) := ⟨h, hs, hE, hH⟩
 have h0 : Hid (PI b s p (.slice none 0 0) (.slice none 0 0) [] w w ∧ prt hx k0 num [] (lf s p) = some R ∧ p ≤ s.size) := ⟨⟨GOwn.nil _ _ _ _ _, ownS_nil _ _, h, Wb.refl _ _, h.lt⟩, hR, hp⟩
 have m0 : (0 : Int) ≤ (num : Int) := Int.natCast_nonneg _
 have m64 : (num : Int) ≤ 64 := by omega
 clear h hp hs hE hH hR
 go_enter Tryz.func57, Tryz.ntmps57
 go_wp2_with fail
 go_loopw [6, 7] (fun xv yv wr => ∃ (q k n c m d : Nat) (va ta : Option Addr) (ps : List PR), xv = .slice va n c ∧ yv = .slice ta m d ∧ Hid (PI b s q (.slice va n c) (.slice ta m d) ps w wr ∧ n = ps.length ∧ m = ps.length ∧ n ≤ 8 ∧ p ≤ q ∧ q ≤ s.size ∧ prt hx k num ps (lf s q) = some R)) (fun _ _ wr => s.size - plc b wr)
 case atStart => exact ⟨p, k0, 0, 0, 0, 0, none, none, [], rfl, rfl, h0.out.1, rfl, rfl, by omega, Nat.le_refl _, h0.out.2.2, h0.out.2.1⟩
 case round =>
  obtain ⟨q, k, n, c, m, d, va, ta, ps, rfl, rfl, hQ⟩ := hrel
  clear h0
  have n0 : (0 : Int) ≤ (n : Int) := Int.natCast_nonneg _
  have n8 : (n : Int) ≤ 8 := by have := hQ.out.2.2.2.1; omega
  obtain ⟨f, rfl⟩ : ∃ f, k = f + 1 := by
   cases k with
   | zero => have := hQ.out.2.2.2.2.2.2; cases this
   | succ f => exact ⟨f, rfl⟩
  have hinv := prt_inv hQ.out.2.2.2.2.2.2
  have hplc : Hid (plc b wr = q) := plc_eq hQ.out.1.2.2.1
  have hSk : Hid (Calls Tryz.prog 87 #[.pointer (some ⟨b, 0, none⟩)] wr fun e w' => e = .returned (.tuple #[]) ∧ SkQ s q b wr w') := skip_any s q b wr hQ.out.1.2.2.1 hQ.out.2.2.2.2.2.1 h'.out.2.1
  have hinv' : Hid (((num = 64 ∨ ps.length = 8) ∧ R = .error (58, (sp (lf s q)).length)) ∨ (¬ (num = 64 ∨ ps.length = 8) ∧
   ((∃ e, pt (ps.map fun p : PR => tyC p.1) (sp (lf s q)) = .error e ∧ R = .error e) ∨
   (∃ x, pt (ps.map fun p : PR => tyC p.1) (sp (lf s q)) = .ok x ∧ ((∃ e, pv hx x.2 = some (.error e) ∧ R = .error e) ∨
    (∃ y, pv hx x.2 = some (.ok y) ∧ ((y.2.head? = some 43 ∧ prt hx f num (ps ++ [(x.1, y.1)]) (y.2.drop 1) = some R) ∨ (y.2.head? ≠ some 43 ∧ R = .ok (ps ++ [(x.1, y.1)], y.2)))))))) ) := hinv
  clear hinv
  go_wp2_with fail
  refine hSk.out.mono ?_
  rintro e w1 ⟨rfl, q1, hl1, hq1, hq1s, hr1, hw1⟩
  have hI1 : Hid (PI b s q1 (.slice va n c) (.slice ta m d) ps w w1 ∧ q ≤ q1 ∧ q1 ≤ s.size ∧ lf s q1 = sp (lf s q)) := ⟨hQ.out.1.wb hw1 hr1, hq1, hq1s, hl1⟩
  have hnl : Hid (n = ps.length ∧ m = ps.length ∧ n ≤ 8 ∧ p ≤ q) := ⟨hQ.out.2.1, hQ.out.2.2.1, hQ.out.2.2.2.1, hQ.out.2.2.2.2.1⟩
  clear hSk hl1 hq1 hq1s hr1 hw1 hQ
  rw [← hI1.out.2.2.2] at hinv'
  rcases hinv'.out with ⟨hw, hRe⟩ | ⟨hw, hrest⟩
  ·
   obtain ⟨d0, d1, d2⟩ := hI1.out.1.2.2.1.cells
   obtain ⟨et, het⟩ : ∃ et, ev 58 = et := ⟨_, rfl⟩
   have hgc : w1.cell? ⟨8, 0, none⟩ = some (.iface et.1 et.2) := by
    have h1 := (h'.out.2.2.1.wb h'.out.1 hI1.out.1.2.2.2.1) (58, 8) (by decide)
    rw [het] at h1
    exact h1
   have hql : (((s.size - (lf s q1).length : Nat) : Int)) = (q1 : Int) := by rw [lf_len]; have := hI1.out.2.2.1; omega
   have hfin : Hid (∀ i, PrQ ev s b p w R (.returned (.tuple #[.slice none 0 0, .iface 69 (.agg #[.iface et.1 et.2, .int .i64 (q1 : Int)])])) (w1.drewN i)) := fun i => by
    have h1 := PrQ.err (ev := ev) (p := p) (w := w) (k := 58) (m := (lf s q1).length) hI1.out.2.2.1 hI1.out.1.2.2.1 hI1.out.1.2.2.2.1 i
    rw [hql] at h1
    rw [hRe, ← het]
    exact h1
   have hw' : Hid (num = 64 ∨ n = 8) := by unfold Hid; rw [hnl.out.1]; exact hw
   clear hinv' hRe het hql hw hI1 hplc
   by_cases h64 : num = 64
   ·have g1 : ((num : Int) == 64) = true := by rw [h64]; rfl
    clear h64 hw'
    go_wp2_with fail
    go_quiet (fail)
    go_wp2_with fail
    go_ret2
    exact hfin.out _
   ·have g1 : ((num : Int) == 64) = false := by rw [beq_eq_false_iff_ne]; omega
    have g2 : ((n : Int) == 8) = true := by rw [hw'.out.resolve_left h64]; rfl
    clear h64 hw'
    go_wp2_with fail
    go_quiet (fail)
    go_wp2_with fail
    go_ret2
    exact hfin.out _
  ·have g1 : ((num : Int) == 64) = false := by rw [beq_eq_false_iff_ne]; have : num ≠ 64 := fun e => hw (Or.inl e); omega
   have g2 : ((n : Int) == 8) = false := by rw [beq_eq_false_iff_ne]; have : ps.length ≠ 8 := fun e => hw (Or.inr e); have := hnl.out.1; omega
   have hpT : Hid (Calls Tryz.prog 88 #[.pointer (some ⟨b, 0, none⟩), .slice ta m d] w1 fun e w' => PQ ev s b q1 w1 (pt (ps.map fun p : PR => tyC p.1) (lf s q1)) e w') :=
    pairType_any ev s q1 b ta m d (ps.map fun p : PR => tyC p.1) w1 hI1.out.1.2.2.1 hI1.out.2.2.1 h'.out.2.1 (h'.out.2.2.1.wb h'.out.1 hI1.out.1.2.2.2.1) (hI1.out.1.rows rfl) (by rw [List.length_map]; exact hnl.out.2.1.symm) (by have := hnl.out.2.1; have := hnl.out.1; have := hnl.out.2.2.1; omega)
   have hw' : Hid (¬ (num = 64 ∨ ps.length = 8)) := hw
   have hrest' : Hid ((∃ e, pt (ps.map fun p : PR => tyC p.1) (lf s q1) = .error e ∧ R = .error e) ∨
   (∃ x, pt (ps.map fun p : PR => tyC p.1) (lf s q1) = .ok x ∧ ((∃ e, pv hx x.2 = some (.error e) ∧ R = .error e) ∨
    (∃ y, pv hx x.2 = some (.ok y) ∧ ((y.2.head? = some 43 ∧ prt hx f num (ps ++ [(x.1, y.1)]) (y.2.drop 1) = some R) ∨ (y.2.head? ≠ some 43 ∧ R = .ok (ps ++ [(x.1, y.1)], y.2))))))) := hrest
   clear hinv' hrest hw
   go_wp2_with fail
   refine hpT.out.mono ?_
   rintro e w2 hp2
   rcases hp2 with ⟨t, r2, q2, hpt, rfl, hl2, hq2, hq2s, htl, htok, hr2, hw2⟩ | ⟨k2, m2, q2, hpt, rfl, hq2s, hr2, hw2⟩
   ·have hcase : (∃ V : VR, pv hx r2 = some V ∧ ((∃ e, V = .error e ∧ R = .error e) ∨ (∃ y : List UInt8 × List UInt8, V = .ok y ∧ ((y.2.head? = some 43 ∧ prt hx f num (ps ++ [(t, y.1)]) (y.2.drop 1) = some R) ∨ (y.2.head? ≠ some 43 ∧ R = .ok (ps ++ [(t, y.1)], y.2)))))) := by
     rcases hrest'.out with ⟨e, h1, h2⟩ | ⟨x, h1, h2⟩
     ·rw [hpt] at h1; cases h1
     ·rw [hpt] at h1
      injection h1 with h1
      subst h1
      rcases h2 with ⟨e, h3, h4⟩ | ⟨y, h3, h4⟩
      ·exact ⟨_, h3, Or.inl ⟨e, rfl, h4⟩⟩
      ·exact ⟨_, h3, Or.inr ⟨y, rfl, h4⟩⟩
    obtain ⟨V, hpv, hVc⟩ := hcase
    have hVc' : Hid ((∃ e, V = .error e ∧ R = .error e) ∨ (∃ y : List UInt8 × List UInt8, V = .ok y ∧ ((y.2.head? = some 43 ∧ prt hx f num (ps ++ [(t, y.1)]) (y.2.drop 1) = some R) ∨ (y.2.head? ≠ some 43 ∧ R = .ok (ps ++ [(t, y.1)], y.2))))) := hVc
    have hI2 : Hid (PI b s q2 (.slice va n c) (.slice ta m d) ps w w2 ∧ q1 ≤ q2 ∧ q2 ≤ s.size ∧ q ≤ q1) := ⟨hI1.out.1.wb hw2 hr2, hq2, hq2s, hI1.out.2.1⟩
    have hpV : Hid (Calls Tryz.prog 89 #[.pointer (some ⟨b, 0, none⟩)] w2 fun e w' => VQ ev s b q2 w2 V e w') := pairValue_any hx ev s q2 b w2 V hr2 hq2s h'.out.2.1 (h'.out.2.2.1.wb h'.out.1 hI2.out.1.2.2.2.1) h'.out.2.2.2 (by rw [hl2]; exact hpv)
    obtain ⟨st, hst⟩ : ∃ st, S t = st := ⟨_, rfl⟩
    obtain ⟨sc, hsc⟩ : ∃ sc, S (tyC t) = sc := ⟨_, rfl⟩
    have hss : Hid (S t = st ∧ S (tyC t) = sc) := ⟨hst, hsc⟩
    rw [hst, hsc]
    clear hVc hpv hl2 hq2 hq2s hr2 hw2 hI1 hrest' hpt hpT htl htok hst hsc
    go_wp2_with fail
    refine hpV.out.mono ?_
    rintro e w3 hv
    rcases hv with ⟨v, r3, q3, hVe, rfl, hl3, hq3, hq3s, hvl, hr3, hw3⟩ | ⟨k3, m3, q3, hVe, rfl, hq3s, hr3, hw3⟩
    ·have hmore : (r3.head? = some 43 ∧ prt hx f num (ps ++ [(t, v)]) (r3.drop 1) = some R) ∨ (r3.head? ≠ some 43 ∧ R = .ok (ps ++ [(t, v)], r3)) := by
      rcases hVc'.out with ⟨e, h1, h2⟩ | ⟨y, h1, h2⟩
      ·rw [hVe] at h1; cases h1
      ·rw [hVe] at h1
       injection h1 with h1
       subst h1
       exact h2
     have hmore' : Hid ((r3.head? = some 43 ∧ prt hx f num (ps ++ [(t, v)]) (r3.drop 1) = some R) ∨ (r3.head? ≠ some 43 ∧ R = .ok (ps ++ [(t, v)], r3))) := hmore
     have hps8 : Hid (ps.length < 8) := by
      have h1 := hw'.out
      have h2 := hnl.out.1
      have h3 := hnl.out.2.2.1
      unfold Hid
      rcases Nat.lt_or_ge ps.length 8 with h | h
      ·exact h
      ·exact absurd (Or.inr (by omega)) h1
     obtain ⟨xa, xn, xc, w4, e4, ya, ym, yd, w5, e5, hI5, hxn⟩ := (hI2.out.1.wb hw3 hr3).pair t v (by have := hps8.out; omega)
     have hI5' : Hid (PI b s q3 (.slice xa xn xc) (.slice ya ym yd) (ps ++ [(t, v)]) w w5 ∧ xn = ps.length + 1 ∧ q2 ≤ q3 ∧ q3 ≤ s.size ∧ lf s q3 = r3) := ⟨hI5, hxn, hq3, hq3s, hl3⟩
     rw [hss.out.1] at e4
     rw [hss.out.2] at e5
     obtain ⟨sx, hsx⟩ : ∃ sx, S v = sx := ⟨_, rfl⟩
     rw [hsx] at e4 ⊢
     have hTk : Hid (Calls Tryz.prog 58 #[.pointer (some ⟨b, 0, none⟩), .int .u8 43] w5 fun e w' => TkQ 43 s q3 b w5 e w') := take_any 43 s q3 b w5 hI5.2.2.1 hq3s h'.out.2.1
     clear hmore hVe hl3 hq3 hq3s hvl hr3 hw3 hI5 hxn hsx hpV hVc'
     go_wp2_with (first
      | (at_builtin; refine Lib.wpList_append_run _ rfl _ _ _ _ rfl _ _ rfl rfl _ _ e4 ?_; clear e4)
      | (at_builtin; refine Lib.wpList_append_run _ rfl _ _ _ _ rfl _ _ rfl rfl _ _ e5 ?_; clear e5))
     refine hTk.out.mono ?_
     rintro e w6 hq6
     rcases hq6 with ⟨hh, hlt, rfl, hr6, hw6⟩ | ⟨hh, rfl, hr6, hw6⟩
     ·have hfin : Hid (PI b s (q3 + 1) (.slice xa xn xc) (.slice ya ym yd) (ps ++ [(t, v)]) w w6 ∧ xn = (ps ++ [(t, v)]).length ∧ ym = (ps ++ [(t, v)]).length ∧ xn ≤ 8 ∧ p ≤ q3 + 1 ∧ q3 + 1 ≤ s.size ∧ prt hx f num (ps ++ [(t, v)]) (lf s (q3 + 1)) = some R) := by
       have hI6 := hI5'.out.1.wb hw6 hr6
       have hym : ym = (ps ++ [(t, v)]).length := by
        obtain ⟨_, ta', tc', e⟩ := hI6.forms
        injection e
       refine ⟨hI6, by rw [hI5'.out.2.1]; simp, hym, by rw [hI5'.out.2.1]; have := hps8.out; omega, by have := hnl.out.2.2.2; have := hI2.out.2; have := hI5'.out.2.2.1; omega, hlt, ?_⟩
       rcases hmore'.out with ⟨_, h2⟩ | ⟨h2, _⟩
       ·rw [← hI5'.out.2.2.2.2, lf_drop] at h2
        exact h2
       ·rw [← hI5'.out.2.2.2.2] at h2
        exact absurd hh h2
      have hms : Hid (s.size - plc b w6 < s.size - plc b wr) := by
       have e1 := plc_eq hfin.out.1.2.2.1
       have e2 := hplc.out
       have e3 := hI2.out.2
       have e4 := hI5'.out.2.2.1
       unfold Hid
       rw [e1, e2]
       omega
      clear hTk hh hlt hr6 hw6 hmore' hI5'
      go_wp2_with fail
      go_roundw
      case rel => exact ⟨q3 + 1, f, xn, xc, ym, yd, xa, ya, ps ++ [(t, v)], rfl, rfl, hfin⟩
      case measure => exact hms.out
     ·have hfin : Hid (PrQ ev s b p w R (.returned (.tuple #[.slice xa xn xc, .nilIface])) w6) := by
       have hI6 := hI5'.out.1.wb hw6 hr6
       have hxn : xn = (ps ++ [(t, v)]).length := by rw [hI5'.out.2.1]; simp
       rcases hmore'.out with ⟨h2, _⟩ | ⟨_, h2⟩
       ·rw [← hI5'.out.2.2.2.2] at h2
        exact absurd h2 hh
       ·subst hxn
        exact Or.inl ⟨ps ++ [(t, v)], r3, q3, xa, xc, _, h2, rfl, hI6, hI5'.out.2.2.2.2, by have := hnl.out.2.2.2; have := hI2.out.2; have := hI5'.out.2.2.1; omega, hI5'.out.2.2.2.1, by rw [List.length_append]; have := hps8.out; simp; omega⟩
      clear hTk hh hr6 hw6 hmore' hI5'
      go_wp2_with fail
      go_ret2
      exact hfin.out
    ·have hfin : Hid (PrQ ev s b p w R (.returned (.tuple #[.slice none 0 0, refV ev k3 ((s.size - m3 : Nat) : Int)])) w3) := by
      rcases hVc'.out with ⟨e, h1, h2⟩ | ⟨y, h1, _⟩
      ·rw [hVe] at h1
       injection h1 with h1
       rw [h2, ← h1]
       exact Or.inr ⟨k3, m3, q3, rfl, rfl, hq3s, hr3, hI2.out.1.2.2.2.1.trans hw3⟩
      ·rw [hVe] at h1; cases h1
     obtain ⟨tt, u, hrv⟩ : ∃ t u, refV ev k3 ((s.size - m3 : Nat) : Int) = .iface t u := ⟨_, _, rfl⟩
     rw [hrv] at hfin ⊢
     clear hVe hq3s hr3 hw3 hrv hpV hVc'
     go_wp2_with fail
     go_ret2
     exact hfin.out
   ·have hfin : Hid (PrQ ev s b p w R (.returned (.tuple #[.slice none 0 0, refV ev k2 ((s.size - m2 : Nat) : Int)])) w2) := by
     rcases hrest'.out with ⟨e, h1, h2⟩ | ⟨x, h1, _⟩
     ·rw [hpt] at h1
      injection h1 with h1
      rw [h2, ← h1]
      exact Or.inr ⟨k2, m2, q2, rfl, rfl, hq2s, hr2, hI1.out.1.2.2.2.1.trans hw2⟩
     ·rw [hpt] at h1; cases h1
    obtain ⟨t, u, hrv⟩ : ∃ t u, refV ev k2 ((s.size - m2 : Nat) : Int) = .iface t u := ⟨_, _, rfl⟩
    rw [hrv] at hfin ⊢
    clear hpt hq2s hr2 hw2 hrv hpT hrest' hI1
    go_wp2_with fail
    go_ret2
    exact hfin.out
end Pa
end Go.Proofs.YtkknenmpdimdbaaGreatDoor
