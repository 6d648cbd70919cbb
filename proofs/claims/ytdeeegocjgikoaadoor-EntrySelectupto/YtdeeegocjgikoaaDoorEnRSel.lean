import Derived.Test.YtdeeegocjgikoaaDoorEnRAsk
namespace Go.Proofs.YtdeeegocjgikoaaDoor
open Go.RowKit
open TextMath (fold lo)
set_option linter.unusedVariables false

theorem step_append_run {ops : Array Oper} {o : Oper} {a : Act} {K : Act → World → Prop} {Q : Exit → Act → World → Prop} {E : Prop} (w : World) (hgd : o.guard = none) (s x : Operand) (t tn : TypeId)
    (ho : o.op = .call { callee := .builtin .append, args := #[s, x], argTypes := #[t, tn] }) (vs vx : Value) (hs : a.eval s = vs) (hx : a.eval x = vx)
    (v' : Value) (w' : World) (hr : (Builtin.append_ #[t, tn] o.type #[vs, vx]).run Tryd.prog w = .ok v' w') (h : K (a.put o.dst v') w') :
    if Region.wanted o (yielded ops a.tmps) = true then Oper.wp Tryd.prog o a w K Q else E := by
  have hw : Region.wanted o (yielded ops a.tmps) = true := by simp [Region.wanted, hgd]
  rw [if_pos hw]
  exact Lib.wp_append_run w s x t tn ho vs vx hs hx v' w' hr h

set_option maxRecDepth 100000 in
set_option maxHeartbeats 8000000 in
theorem rselect_any (ty : Bool) (l : List (List UInt8)) (wa : Option Addr) (wcp : Nat) (ln : Int) (nm : ByteArray) (ka : Option Addr) (kn kc : Nat) (xs : List Atr) (a : Option Addr) (c : Nat) (w : World) (hl : l.length ≤ 1048576) (hlz : ∀ t ∈ l, t.length ≤ 1048576) (hw : Row w wa l) (hn : xs.length ≤ 1048576) (hx : ∀ x ∈ xs, x.c.length ≤ 1048576) (hxl : ∀ x ∈ xs, x.l.length ≤ 1048576) (h : ARow w a xs) (hK : KndTab w) (hT : NumTab w) :
    Calls Tryd.prog 21 #[.agg #[.int .i64 ln, .string nm, .slice ka kn kc, .slice a xs.length c], .slice wa l.length wcp, .bool ty] w fun e w' => (∃ v zs, e = .returned v ∧ MadeA w' w.heap.size v zs ∧ zs.map pl = selL (wants l) ty xs) ∧ Below w.heap.size w w' := by
  have h' : Hid (ARow w a xs ∧ (∀ x ∈ xs, x.c.length ≤ 1048576) ∧ (∀ x ∈ xs, x.l.length ≤ 1048576) ∧ KndTab w ∧ NumTab w) := ⟨h, hx, hxl, hK, hT⟩
  obtain ⟨Wa, hWa⟩ : ∃ W, w.alloc (.cells #[.int .i64 ln, .string nm, .slice ka kn kc, .slice a xs.length c] 25) = W := ⟨_, rfl⟩
  have pa : Box Wa w.heap.size 25 #[.int .i64 ln, .string nm, .slice ka kn kc, .slice a xs.length c] := by rw [← hWa]; exact Box.new _ _ _
  have hB : Below w.heap.size w Wa := by rw [← hWa]; exact (Below.refl _ _).alloc (Nat.le_refl _) _
  have hPa : Hid (Box Wa w.heap.size 25 #[.int .i64 ln, .string nm, .slice ka kn kc, .slice a xs.length c] ∧ Below w.heap.size w Wa ∧ Row Wa wa l ∧ (∀ t ∈ l, t.length ≤ 1048576)) := ⟨pa, hB, hw.below hB, hlz⟩
  clear h hx hxl hK hT pa hB hw hlz
  go_enter Tryd.func21, Tryd.ntmps21
  go_upto_if 15 with fail
  go_cut [1] (fun t1 wx => ∃ (a' : Option Addr) (c' : Nat), t1 = .slice a' (wishT l).length c' ∧ Hid (Row wx a' (wishT l) ∧ Box wx w.heap.size 25 #[.int .i64 ln, .string nm, .slice ka kn kc, .slice a xs.length c] ∧ Below w.heap.size w wx ∧ ((wishT l).length ≤ 1048576 ∧ ∀ t ∈ wishT l, t.length ≤ 1048576)))
  case first =>
    by_cases hl0 : l = []
    · subst hl0
      have hd : (((([] : List (List UInt8)).length : Nat) : Int) == 0) = true := rfl
      have hfin : Hid (Row (Wa.alloc (.cells #[.string ⟨#[42]⟩] 9)) (some ⟨Wa.heap.size, 0, none⟩) (wishT []) ∧ Box (Wa.alloc (.cells #[.string ⟨#[42]⟩] 9)) w.heap.size 25 #[.int .i64 ln, .string nm, .slice ka kn kc, .slice a xs.length c] ∧ Below w.heap.size w (Wa.alloc (.cells #[.string ⟨#[42]⟩] 9)) ∧ ((wishT []).length ≤ 1048576 ∧ ∀ t ∈ wishT [], t.length ≤ 1048576)) := by
        refine ⟨fun i hi => ?_, hPa.out.1.past _, hPa.out.2.1.alloc hPa.out.2.1.size _, by simp [wishT], fun t ht => ?_⟩
        · have e : i = 0 := by simp [wishT] at hi; omega
          subst e
          refine ⟨_, 0, rfl, ?_⟩
          exact ((Box.new Wa 9 #[.string ⟨#[42]⟩]).cell 0 (by simp)).1
        · have e : t = starT := by simpa [wishT] using ht
          rw [e]
          decide
      clear hPa
      go_wp2_with fail
      go_meet
      case rel => exact ⟨some ⟨Wa.heap.size, 0, none⟩, 1, rfl, hfin⟩
    · have hw0 : wishT l = l := if_neg hl0
      have hd : ((l.length : Int) == 0) = false := by
        rw [beq_eq_false_iff_ne]
        intro e
        exact hl0 (List.eq_nil_of_length_eq_zero (by omega))
      rw [hd]
      have hfin : Hid (Row Wa wa l ∧ Box Wa w.heap.size 25 #[.int .i64 ln, .string nm, .slice ka kn kc, .slice a xs.length c] ∧ Below w.heap.size w Wa ∧ (l.length ≤ 1048576 ∧ ∀ t ∈ l, t.length ≤ 1048576)) := ⟨hPa.out.2.2.1, hPa.out.1, hPa.out.2.1, hl, hPa.out.2.2.2⟩
      clear hPa
      go_wp2_with fail
      go_meet
      case rel => exact ⟨wa, wcp, by rw [hw0], by rw [hw0]; exact hfin⟩
  case rest =>
    obtain ⟨a', c', rfl, hP⟩ := hcut
    obtain ⟨m, hm⟩ : ∃ m, wishT l = m := ⟨_, rfl⟩
    rw [hm] at hP
    rw [hm]
    have hwm : Hid (∀ d, wants l d = m.any fun t => askQ t d) := fun d => by rw [← hm]; rfl
    have hml : m.length ≤ 1048576 := hP.out.2.2.2.1
    clear hPa hWa hm hl
    have hAsk : Hid (∀ W, Below wc.heap.size wc W → ∀ t ∈ m, ∀ d : List UInt8, d.length ≤ 1048576 → Calls Tryd.prog 33 #[.string (S t), .string (S d)] W fun e w' => e = .returned (.bool (askQ t d)) ∧ Below W.heap.size W w') := fun W hW t ht d hd => by
      have hz : Below w.heap.size w W := hP.out.2.2.1.trans (hW.mono hP.out.2.2.1.size)
      exact asked_any t d W (hP.out.2.2.2.2 t ht) hd (h'.out.2.2.2.2.below hz) (h'.out.2.2.2.1.below hz)
    go_wp2_with fail
    go_loopw [7, 8] (fun v iv wr => ∃ (i : Nat) (zs : List Atr), i ≤ xs.length ∧ iv = .int .i64 (i : Int) ∧ Hid (MadeA wr wc.heap.size v zs ∧ zs.map pl = selL (wants l) ty (xs.take i) ∧ Below wc.heap.size wc wr)) (fun _ iv _ => xs.length - (intOf iv).toNat)
    case atStart => exact ⟨0, [], Nat.zero_le _, rfl, MadeA.nil _ _, rfl, Below.refl _ _⟩
    case round =>
      obtain ⟨i, zs, hi, rfl, hI⟩ := hrel
      have hzl : Hid (zs.length ≤ i) := by
        have := congrArg List.length hI.out.2.1
        rw [List.length_map] at this
        have h2 := selL_le (wants l) ty (xs.take i)
        rw [List.length_take] at h2
        unfold Hid
        omega
      obtain ⟨va, vc, hv, _⟩ := owns_slice (show World.ownsRow _ _ 32 3 _ _ _ from hI.out.1.1)
      subst hv
      have c3 : wr.cell? ⟨w.heap.size, 3, none⟩ = some (.slice a xs.length c) := ((hP.out.2.1.below hI.out.2.2).cell 3 (by simp)).1
      by_cases hlt : i < xs.length
      · have i0 : (0 : Int) ≤ (i : Int) := Int.natCast_nonneg _
        have i1 : (i : Int) < (xs.length : Int) := Int.ofNat_lt.2 hlt
        obtain ⟨⟨b, off, rfl, D0, D1, D2⟩, R0⟩ := (h'.out.1.below hP.out.2.2.1) i hlt
        have htk : Hid (selL (wants l) ty (xs.take (i + 1)) = selL (wants l) ty (xs.take i) ++ (if wants l xs[i].c then [(xs[i].d, [], if ty then [] else xs[i].l)] else [])) := by
          unfold Hid
          rw [List.take_succ_eq_append_getElem hlt, selL_snoc]
        have hxc := h'.out.2.1 _ (List.getElem_mem hlt)
        have hxl := h'.out.2.2.1 _ (List.getElem_mem hlt)
        obtain ⟨⟨xd, xc, xa, xn, xl⟩, hx⟩ : ∃ x, xs[i] = x := ⟨_, rfl⟩
        rw [hx] at D0 D1 D2 R0 htk hxc hxl
        dsimp only at D0 D1 D2 R0 htk hxc hxl
        have hlt' : Hid (i < xs.length) := hlt
        have hcell : Hid (∀ W, Below wc.heap.size wc W → W.cell? ⟨w.heap.size, 3, none⟩ = some (.slice (some ⟨b, off, none⟩) xs.length c) ∧ W.cell? ⟨b, off + i * 3, none⟩ = some (.string (S xd)) ∧ W.cell? ⟨b, off + i * 3 + 1, none⟩ = some (.string (S xc)) ∧ W.cell? ⟨b, off + i * 3 + 2, none⟩ = some (.slice xa xl.length xn) ∧ Row W xa xl) := fun W hW =>
          ⟨((hP.out.2.1.below hW).cell 3 (by simp)).1, by rw [hW.cell (World.block_lt_of_cell? wc _ D0)]; exact D0, by rw [hW.cell (World.block_lt_of_cell? wc _ D1)]; exact D1, by rw [hW.cell (World.block_lt_of_cell? wc _ D2)]; exact D2, R0.below hW⟩
        have hxl' : Hid (xl.length ≤ 1048576 ∧ xc.length ≤ 1048576) := ⟨hxl, hxc⟩
        have hI' : Hid (MadeA wr wc.heap.size (.slice va zs.length vc) zs ∧ zs.map pl = selL (wants l) ty (xs.take i) ∧ Below wc.heap.size wc wr) := hI
        obtain ⟨w2, hw2⟩ : ∃ W, W = wr := ⟨_, rfl⟩
        subst hw2
        clear hx hlt hI D0 D1 D2 R0 hxc hxl
        go_wp2_with fail
        clear c3
        go_loopw [9, 10] (fun sv jv wr => ∃ (j : Nat), j ≤ m.length ∧ jv = .int .i64 (j : Int) ∧ sv = .bool ((m.take j).any fun t => askQ t xc) ∧ Hid (Below w2.heap.size w2 wr)) (fun _ jv _ => m.length - (intOf jv).toNat)
        case atStart => exact ⟨0, Nat.zero_le _, rfl, rfl, Below.refl _ _⟩
        case round =>
          obtain ⟨j, hj, rfl, rfl, hJ⟩ := hrel
          have hBr : Below wc.heap.size wc wr := hI'.out.2.2.trans (hJ.out.mono hI'.out.2.2.size)
          by_cases hjt : j < m.length
          · have j0 : (0 : Int) ≤ (j : Int) := Int.natCast_nonneg _
            have j1 : (j : Int) < (m.length : Int) := Int.ofNat_lt.2 hjt
            obtain ⟨b2, off2, rfl, CV⟩ := hP.out.1 j hjt
            have hjk : Hid (((m.take (j + 1)).any fun t => askQ t xc) = (((m.take j).any fun t => askQ t xc) || askQ m[j] xc)) := by
              unfold Hid
              rw [List.take_succ_eq_append_getElem hjt, List.any_append]
              simp
            have hmem : m[j] ∈ m := List.getElem_mem hjt
            obtain ⟨t, ht⟩ : ∃ t, m[j] = t := ⟨_, rfl⟩
            rw [ht] at CV hjk hmem
            have hjt' : Hid (j < m.length) := hjt
            have HS : ∀ W, Below wc.heap.size wc W → W.cell? ⟨b2, off2 + j, none⟩ = some (.string (S t)) ∧ W.cell? ⟨w.heap.size, 3, none⟩ = some (.slice (some ⟨b, off, none⟩) xs.length c) ∧ W.cell? ⟨b, off + i * 3 + 1, none⟩ = some (.string (S xc)) := fun W hW => ⟨by rw [hW.cell (World.block_lt_of_cell? wc _ CV)]; exact CV, (hcell.out W hW).1, (hcell.out W hW).2.2.1⟩
            have hA : Hid (∀ W, Below wc.heap.size wc W → Calls Tryd.prog 33 #[.string (S t), .string (S xc)] W fun e w' => e = .returned (.bool (askQ t xc)) ∧ Below W.heap.size W w') := fun W hW => hAsk.out W hW t hmem xc hxl'.out.2
            obtain ⟨c0, c1, c2⟩ := HS wr hBr
            obtain ⟨aq, haq⟩ : ∃ aq, askQ t xc = aq := ⟨_, rfl⟩
            obtain ⟨sb, hsb⟩ : ∃ sb, ((m.take j).any fun t => askQ t xc) = sb := ⟨_, rfl⟩
            rw [haq, hsb] at hjk
            rw [haq] at hA
            rw [hsb]
            clear CV ht hjt haq hsb hmem
            generalize S t = X at *
            generalize S xc = Y at *
            go_wp2_with fail
            go_region_held3 (fun w' => w'.cell? ⟨b2, off2 + j, none⟩ = some (.string X) ∧ w'.cell? ⟨w.heap.size, 3, none⟩ = some (.slice (some ⟨b, off, none⟩) xs.length c) ∧ w'.cell? ⟨b, off + i * 3 + 1, none⟩ = some (.string Y))
              (first | exact HS _ hBr.drew | exact HS _ HB3)
              (first | (go_at_call 33; refine (hA.out _ hBr.drew).mono ?_; rintro e w3 ⟨rfl, hb3⟩; have HB3 : Below wc.heap.size wc w3 := hBr.drew.trans (hb3.mono hBr.drew.size)))
            have hJ3 : Hid (Below w2.heap.size w2 w3) := hJ.out.drew.trans (hb3.mono hJ.out.drew.size)
            clear HS hA c0 c1 c2 hb3 HB3
            cases sb with
            | true =>
              go_wp2_with fail
              go_roundw
              case rel => exact ⟨j + 1, hjt'.out, by simp, by rw [hjk.out]; rfl, hJ3⟩
              case measure => have := hjt'.out; simp [intOf]; omega
            | false =>
              go_wp2_with fail
              go_roundw
              case rel => exact ⟨j + 1, hjt'.out, by simp, by rw [hjk.out]; rfl, hJ3⟩
              case measure => have := hjt'.out; simp [intOf]; omega
          · have hje : j = m.length := by omega
            subst hje
            rw [List.take_length, ← hwm.out]
            have k1 : ¬ (m.length : Int) < (m.length : Int) := by omega
            have HI : Hid (MadeA wr wc.heap.size (.slice va zs.length vc) zs ∧ zs.map pl = selL (wants l) ty (xs.take i) ∧ Below wc.heap.size wc wr) := ⟨hI'.out.1.below hJ.out, hI'.out.2.1, hBr⟩
            clear hI' hJ hBr
            have hzl2 : zs.length ≤ 2097152 := by have := hzl.out; omega
            cases hq : wants l xc with
            | false =>
              rw [hq] at htk
              go_wp2_with fail
              go_roundw
              case rel =>
                refine ⟨i + 1, zs, hlt'.out, by simp, HI.out.1, ?_, HI.out.2.2⟩
                rw [htk.out, HI.out.2.1]
                simp
              case measure => have := hlt'.out; simp [intOf]; omega
            | true =>
              rw [hq] at htk
              obtain ⟨e3, e0, _, e2, _⟩ := hcell.out wr HI.out.2.2
              go_upto_region 15 with fail
              clear e3 e0 e2
              obtain ⟨w3, hw3⟩ : ∃ W, wr.alloc (.cells #[.string (S xd), .string ⟨#[]⟩, .slice none 0 0] 32) = W := ⟨_, rfl⟩
              rw [hw3]
              have b3 : Box w3 wr.heap.size 32 #[.string (S xd), .string ⟨#[]⟩, .slice none 0 0] := by rw [← hw3]; exact Box.new _ _ _
              have hb3 : Below wr.heap.size wr w3 := by rw [← hw3]; exact (Below.refl _ _).alloc (Nat.le_refl _) _
              have H3 : Hid (MadeA w3 wc.heap.size (.slice va zs.length vc) zs ∧ zs.map pl = selL (wants l) ty (xs.take i) ∧ Below wc.heap.size wc w3 ∧ Box w3 wr.heap.size 32 #[.string (S xd), .string ⟨#[]⟩, .slice none 0 0] ∧ wc.heap.size ≤ wr.heap.size ∧ MadeA wr wc.heap.size (.slice va zs.length vc) zs ∧ Below wr.heap.size wr w3) := ⟨HI.out.1.below hb3, HI.out.2.1, HI.out.2.2.trans (hb3.mono HI.out.2.2.size), b3, HI.out.2.2.size, HI.out.1, hb3⟩
              clear hw3 HI hb3 b3
              cases ty with
              | true =>
                obtain ⟨f0, _⟩ := H3.out.2.2.2.1.cell 0 (by simp)
                obtain ⟨f1, _⟩ := H3.out.2.2.2.1.cell 1 (by simp)
                obtain ⟨f2, _⟩ := H3.out.2.2.2.1.cell 2 (by simp)
                simp only [List.getElem_toArray, List.getElem_cons_zero, List.getElem_cons_succ] at f0 f1 f2
                obtain ⟨z, hz⟩ : ∃ z : Atr, z = ⟨xd, [], none, 0, []⟩ := ⟨_, rfl⟩
                obtain ⟨w4, hw4⟩ : ∃ W, w3.alloc (.cells #[.string (S xd), .string ⟨#[]⟩, .slice none 0 0] 32) = W := ⟨_, rfl⟩
                have b4 : Box w4 w3.heap.size 32 #[.string (S z.d), .string (S z.c), .slice z.a z.l.length z.n] := by rw [hz, ← hw4]; exact Box.new _ _ _
                have hb4 : Below w3.heap.size w3 w4 := by rw [← hw4]; exact (Below.refl _ _).alloc (Nat.le_refl _) _
                have hM4 : MadeA w4 wc.heap.size (.slice va zs.length vc) zs := H3.out.1.below hb4
                have hs4 : wc.heap.size ≤ w4.heap.size := Nat.le_trans H3.out.2.2.1.size hb4.size
                have hM4' : Hid (MadeA w4 wc.heap.size (.slice va zs.length vc) zs ∧ OwnS w4 wc.heap.size (.slice z.a z.l.length z.n) z.l ∧ Below wc.heap.size wc w4) := ⟨hM4, by rw [hz]; exact ownS_nil _ _, H3.out.2.2.1.trans (hb4.mono H3.out.2.2.1.size)⟩
                have hO4 := hM4.1
                have hfz : Hid (zs.map pl ++ [pl z] = selL (wants l) true (xs.take (i + 1))) := by
                  unfold Hid
                  rw [htk.out, H3.out.2.1, hz]
                  rfl
                clear hM4 hz hb4
                go_wp2_with (at_builtin; refine push_attr _ rfl _ _ rfl wc.heap.size _ zs z w3.heap.size rfl rfl hO4 b4 hs4 hzl2 ?_; intro g' cap' w5 hO5 hk5 hb5; clear hw4 b4)
                have hfin : Hid (MadeA w5 wc.heap.size (.slice (some ⟨g', 0, none⟩) (zs.length + 1) cap') (zs ++ [z]) ∧ (zs ++ [z]).map pl = selL (wants l) true (xs.take (i + 1)) ∧ Below wc.heap.size wc w5) := ⟨hM4'.out.1.push hM4'.out.2.1 hO5 hk5, by rw [List.map_append]; exact hfz.out, hM4'.out.2.2.trans hb5⟩
                go_roundw
                case rel => exact ⟨i + 1, zs ++ [z], hlt'.out, by simp, hfin⟩
                case measure => have := hlt'.out; simp [intOf]; omega
              | false =>
                go_upto_region 16 with fail
                have hBd : Below wc.heap.size wc w3.drew := H3.out.2.2.1.drew
                obtain ⟨e3, _, _, e2, R3⟩ := hcell.out w3.drew hBd
                have hSW : w3.drew.cell? ⟨w.heap.size, 3, none⟩ = some (.slice (some ⟨b, off, none⟩) xs.length c) ∧ w3.drew.cell? ⟨b, off + i * 3 + 2, none⟩ = some (.slice xa xl.length xn) := ⟨e3, e2⟩
                have bx : Box w3.drew wr.heap.size 32 #[.string (S xd), .string ⟨#[]⟩, .slice none 0 0] := H3.out.2.2.2.1
                have hwz : wc.heap.size ≤ wr.heap.size := H3.out.2.2.2.2.1
                have hMd : MadeA wr wc.heap.size (.slice va zs.length vc) zs := H3.out.2.2.2.2.2.1
                have hBw : Below wr.heap.size wr w3.drew := H3.out.2.2.2.2.2.2.drew
                have hzz : Hid (zs.map pl = selL (wants l) false (xs.take i)) := H3.out.2.1
                clear e3 e2 H3
                refine wp_region_noPanic ?_
                refine wp_region_held_drew (S := fun W => W.cell? ⟨w.heap.size, 3, none⟩ = some (.slice (some ⟨b, off, none⟩) xs.length c) ∧ W.cell? ⟨b, off + i * 3 + 2, none⟩ = some (.slice xa xl.length xn)) (by kernel_rfl) hSW (fun _ => ?_)
                generalize w3.drew = W0 at *
                have glW : W0.cell? ⟨wr.heap.size, 2, none⟩ = some (.slice none 0 0) := (bx.cell 2 (by simp)).1
                obtain ⟨v4, w4, hr4, hO4, hb4⟩ := append_row W0 W0.heap.size (.slice none 0 0) [] xl xa xl.length xn (ownS_nil _ _) R3 rfl (Nat.le_refl _) (by have := hxl'.out.1; simp; omega)
                rw [List.nil_append] at hO4
                obtain ⟨ca, cc, rfl, _⟩ := owns_slice (show World.ownsRow _ _ 9 1 _ _ _ from hO4)
                have hBc4 : Below wc.heap.size wc w4 := hBd.trans (hb4.mono hBd.size)
                have b4 : Box w4 wr.heap.size 32 #[.string (S xd), .string ⟨#[]⟩, .slice none 0 0] := bx.below hb4
                have hS4 : w4.cell? ⟨w.heap.size, 3, none⟩ = some (.slice (some ⟨b, off, none⟩) xs.length c) ∧ w4.cell? ⟨b, off + i * 3 + 2, none⟩ = some (.slice xa xl.length xn) := ⟨(hcell.out w4 hBc4).1, (hcell.out w4 hBc4).2.2.2.1⟩
                have r2 : w4.cell? ⟨wr.heap.size, 2, none⟩ = some (.slice none 0 0) := (b4.cell 2 (by simp)).1
                have y2 : w4.frozen? ⟨wr.heap.size, 2, none⟩ = false := (b4.cell 2 (by simp)).2
                obtain ⟨w5, hw5⟩ : ∃ W, w4.setCell ⟨wr.heap.size, 2, none⟩ (.slice ca xl.length cc) = W := ⟨_, rfl⟩
                have hB5 : Below wr.heap.size wr w5 := by rw [← hw5]; exact (hBw.trans (hb4.mono hBw.size)).setCell (p := ⟨wr.heap.size, 2, none⟩) (Nat.le_refl _) _
                have hBc5 : Below wc.heap.size wc w5 := by rw [← hw5]; exact hBc4.setCell (p := ⟨wr.heap.size, 2, none⟩) hwz _
                have hS5 : w5.cell? ⟨w.heap.size, 3, none⟩ = some (.slice (some ⟨b, off, none⟩) xs.length c) ∧ w5.cell? ⟨b, off + i * 3 + 2, none⟩ = some (.slice xa xl.length xn) := ⟨(hcell.out w5 hBc5).1, (hcell.out w5 hBc5).2.2.2.1⟩
                refine wpAnyH_take (i := 0) (v := ?va1) (by simp only [List.getElem?_toArray, List.getElem?_cons_zero]; exact rfl) (by kernel_rfl) (by kernel_rfl) (by kernel_rfl) (fun _ _ _ h => h) (Or.inl ⟨by rfl, ?ya1⟩) hSW ?ra1
                case ya1 =>
                  intro w' hS
                  obtain ⟨s0, s1⟩ := hS
                  go_simp
                  try with_reducible rfl
                case ra1 =>
                simp only [Act.put, List.setIfInBounds_toArray, List.set_cons_zero, List.set_cons_succ]
                refine wpAnyH_take (i := 2) (v := ?va2) (by simp only [List.getElem?_toArray, List.getElem?_cons_zero, List.getElem?_cons_succ]; exact rfl) (by kernel_rfl) (by kernel_rfl) (by kernel_rfl) (fun _ _ _ h => h) (Or.inl ⟨by rfl, ?ya2⟩) hSW ?ra2
                case ya2 =>
                  intro w' hS
                  obtain ⟨s0, s1⟩ := hS
                  go_simp
                  try with_reducible rfl
                case ra2 =>
                simp only [Act.put, List.setIfInBounds_toArray, List.set_cons_zero, List.set_cons_succ]
                refine wpAnyH_take (i := 3) (v := ?va3) (by simp only [List.getElem?_toArray, List.getElem?_cons_zero, List.getElem?_cons_succ]; exact rfl) (by kernel_rfl) (by kernel_rfl) (by kernel_rfl) (fun _ _ _ h => h) (Or.inl ⟨by rfl, ?ya3⟩) hSW ?ra3
                case ya3 =>
                  intro w' hS
                  obtain ⟨s0, s1⟩ := hS
                  go_simp
                  try with_reducible rfl
                case ra3 =>
                simp only [Act.put, List.setIfInBounds_toArray, List.set_cons_zero, List.set_cons_succ]
                refine wpAnyH_take (i := 4) (v := ?va4) (by simp only [List.getElem?_toArray, List.getElem?_cons_zero, List.getElem?_cons_succ]; exact rfl) (by kernel_rfl) (by kernel_rfl) (by kernel_rfl) (fun _ _ _ h => h) (Or.inl ⟨by rfl, ?ya4⟩) hSW ?ra4
                case ya4 =>
                  intro w' hS
                  obtain ⟨s0, s1⟩ := hS
                  go_simp
                  try with_reducible rfl
                case ra4 =>
                simp only [Act.put, List.setIfInBounds_toArray, List.set_cons_zero, List.set_cons_succ]
                refine wpAnyH_take (i := 5) (v := ?va5) (by simp only [List.getElem?_toArray, List.getElem?_cons_zero, List.getElem?_cons_succ]; exact rfl) (by kernel_rfl) (by kernel_rfl) (by kernel_rfl) (fun _ _ _ h => h) (Or.inl ⟨by rfl, ?ya5⟩) hSW ?ra5
                case ya5 =>
                  intro w' hS
                  obtain ⟨s0, s1⟩ := hS
                  go_simp
                  try with_reducible rfl
                case ra5 =>
                simp only [Act.put, List.setIfInBounds_toArray, List.set_cons_zero, List.set_cons_succ]
                refine wpAnyH_take (i := 6) (v := ?va6) (by simp only [List.getElem?_toArray, List.getElem?_cons_zero, List.getElem?_cons_succ]; exact rfl) (by kernel_rfl) (by kernel_rfl) (by kernel_rfl) (fun _ _ _ h => h) (Or.inl ⟨by rfl, ?ya6⟩) hSW ?ra6
                case ya6 =>
                  intro w' hS
                  obtain ⟨s0, s1⟩ := hS
                  go_simp
                  try with_reducible rfl
                case ra6 =>
                simp only [Act.put, List.setIfInBounds_toArray, List.set_cons_zero, List.set_cons_succ]
                refine wpAnyH_take (i := 7) (v := ?va7) (by simp only [List.getElem?_toArray, List.getElem?_cons_zero, List.getElem?_cons_succ]; exact rfl) (by kernel_rfl) (by kernel_rfl) (by kernel_rfl) (fun _ _ _ h => h) (Or.inl ⟨by rfl, ?ya7⟩) hSW ?ra7
                case ya7 =>
                  intro w' hS
                  obtain ⟨s0, s1⟩ := hS
                  go_simp
                  try with_reducible rfl
                case ra7 =>
                simp only [Act.put, List.setIfInBounds_toArray, List.set_cons_zero, List.set_cons_succ]
                refine wpAnyH_ready (rs := [1]) (by kernel_rfl) (by simp) ?_
                refine AllReadyH.cons (by simp only [List.getElem?_toArray, List.getElem?_cons_zero, List.getElem?_cons_succ]; exact rfl) (fun K hK => ?_) AllReadyH.nil
                go_simp
                refine hK.out _ _ hSW (fun _ => ?_)
                clear hK K
                refine wpAnyH_ready (rs := [8]) (by kernel_rfl) (by simp) ?_
                refine AllReadyH.cons (by simp only [List.getElem?_toArray, List.getElem?_cons_zero, List.getElem?_cons_succ]; exact rfl) (fun K hK => ?_) AllReadyH.nil
                refine step_append_run _ (by rfl) _ _ _ _ (by rfl) _ _ (by rfl) (by rfl) _ _ hr4 ?_
                refine hK.out _ _ hS4 (fun _ => ?_)
                clear hK K
                refine wpAnyH_take (i := 9) (v := ?va8) (by simp only [List.getElem?_toArray, List.getElem?_cons_zero, List.getElem?_cons_succ]; exact rfl) (by kernel_rfl) (by kernel_rfl) (by kernel_rfl) (fun _ _ _ h => h) (Or.inl ⟨by rfl, ?ya8⟩) hS4 ?ra8
                case ya8 =>
                  intro w' hS
                  obtain ⟨s0, s1⟩ := hS
                  go_simp
                  try with_reducible rfl
                case ra8 =>
                simp only [Act.put, List.setIfInBounds_toArray, List.set_cons_zero, List.set_cons_succ]
                refine wpAnyH_ready (rs := [10]) (by kernel_rfl) (by simp) ?_
                refine AllReadyH.cons (by simp only [List.getElem?_toArray, List.getElem?_cons_zero, List.getElem?_cons_succ]; exact rfl) (fun K hK => ?_) AllReadyH.nil
                go_simp
                try rw [hw5]
                refine hK.out _ _ hS5 (fun _ => ?_)
                clear hK K
                refine wpAnyH_done (by kernel_rfl) ?_ _
                refine NoPanic.normal ?_
                have b5 : Box w5 wr.heap.size 32 #[.string (S xd), .string ⟨#[]⟩, .slice ca xl.length cc] := by rw [← hw5]; exact b4.set 2 _
                have hO5 : OwnS w5 wc.heap.size (.slice ca xl.length cc) xl := by
                  rw [← hw5]
                  refine owns_base (owns_same (show World.ownsRow _ _ 9 1 _ _ _ from hO4) (fun k hk => Below.heap_setCell _ _ _ _ ?_)) (by have := hBw.size; omega)
                  have := (World.ownsRow.lt (show World.ownsRow _ _ 9 1 _ _ _ from hO4) k hk).1
                  have := bx.lt
                  show k ≠ wr.heap.size
                  omega
                have hM5 : MadeA w5 wc.heap.size (.slice va zs.length vc) zs := hMd.below hB5
                clear hw5 b4 r2 y2 hO4 hb4 hr4 hS4 hS5 hSW glW bx hMd hBw hBc4 hBd R3
                obtain ⟨f0, _⟩ := b5.cell 0 (by simp)
                obtain ⟨f1, _⟩ := b5.cell 1 (by simp)
                obtain ⟨f2, _⟩ := b5.cell 2 (by simp)
                simp only [List.getElem_toArray, List.getElem_cons_zero, List.getElem_cons_succ] at f0 f1 f2
                obtain ⟨z, hz⟩ : ∃ z : Atr, z = ⟨xd, [], ca, cc, xl⟩ := ⟨_, rfl⟩
                obtain ⟨w6, hw6⟩ : ∃ W, w5.alloc (.cells #[.string (S xd), .string ⟨#[]⟩, .slice ca xl.length cc] 32) = W := ⟨_, rfl⟩
                have b6 : Box w6 w5.heap.size 32 #[.string (S z.d), .string (S z.c), .slice z.a z.l.length z.n] := by rw [hz, ← hw6]; exact Box.new _ _ _
                have hb6 : Below w5.heap.size w5 w6 := by rw [← hw6]; exact (Below.refl _ _).alloc (Nat.le_refl _) _
                have hM6 : MadeA w6 wc.heap.size (.slice va zs.length vc) zs := hM5.below hb6
                have hs6 : wc.heap.size ≤ w6.heap.size := Nat.le_trans hBc5.size hb6.size
                have hM6' : Hid (MadeA w6 wc.heap.size (.slice va zs.length vc) zs ∧ OwnS w6 wc.heap.size (.slice z.a z.l.length z.n) z.l ∧ Below wc.heap.size wc w6) := ⟨hM6, by rw [hz]; exact ownS_below hO5 hb6, hBc5.trans (hb6.mono hBc5.size)⟩
                have hO6 := hM6.1
                have hfz : Hid (zs.map pl ++ [pl z] = selL (wants l) false (xs.take (i + 1))) := by
                  unfold Hid
                  rw [htk.out, hzz.out, hz]
                  rfl
                clear hM6 hM5 hz hb6 hO5 hB5 hBc5
                go_wp2_with (at_builtin; refine push_attr _ rfl _ _ rfl wc.heap.size _ zs z w5.heap.size rfl rfl hO6 b6 hs6 hzl2 ?_; intro g' cap' w7 hO7 hk7 hb7; clear hw6 b6)
                have hfin : Hid (MadeA w7 wc.heap.size (.slice (some ⟨g', 0, none⟩) (zs.length + 1) cap') (zs ++ [z]) ∧ (zs ++ [z]).map pl = selL (wants l) false (xs.take (i + 1)) ∧ Below wc.heap.size wc w7) := ⟨hM6'.out.1.push hM6'.out.2.1 hO7 hk7, by rw [List.map_append]; exact hfz.out, hM6'.out.2.2.trans hb7⟩
                go_roundw
                case rel => exact ⟨i + 1, zs ++ [z], hlt'.out, by simp, hfin⟩
                case measure => have := hlt'.out; simp [intOf]; omega
      · have hie : i = xs.length := by omega
        subst hie
        rw [List.take_length] at hI
        have k1 : ¬ (xs.length : Int) < (xs.length : Int) := by omega
        go_wp2_with fail
        go_ret
        exact ⟨⟨_, rfl, zs, hI.out.1.base hP.out.2.2.1.size, hI.out.2.1⟩, hP.out.2.2.1.trans (hI.out.2.2.mono hP.out.2.2.1.size)⟩
end Go.Proofs.YtdeeegocjgikoaaDoor
