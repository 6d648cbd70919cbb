import Derived.Test.YthaonpmmfennhaaWsM
namespace Go.Proofs.Ythaonpmmfennhaa
open Go.RowKit
open BerMath (lo enc sz be)
set_option linter.unusedVariables false

/-- A row of bytes behind one byte. -/
theorem push_row (w : World) {ops : Array Oper} {rest : List Oper} {o : Oper} {a : Act} {Q : Exit → Act → World → Prop} (hgd : o.guard = none) (s x : Operand)
    (ho : o.op = .call { callee := .builtin .append, args := #[s, x], argTypes := #[32, 32] }) (B B' : Nat) (v xv : Value) (l k : List UInt8)
    (hs : a.eval s = v) (hx : a.eval x = xv) (hown : FOwn w B v l) (hxo : FOwn w B' xv k) (hB : B ≤ w.heap.size) (hl : l.length + k.length ≤ 134217728)
    (h : ∀ v' w', FOwn w' B v' (l ++ k) → Below B w w' → wpList Try.prog ops Q rest (a.put o.dst v') w') :
    wpList Try.prog ops Q (o :: rest) a w := by
  obtain ⟨i0, hi, hz0, hz1, hz2⟩ := info_parts info_u8
  by_cases h0 : k.length = 0
  · have hk : k = [] := List.eq_nil_of_length_eq_zero h0
    subst hk
    obtain ⟨xa, xc, rfl⟩ : ∃ a c, xv = .slice a 0 c := by
      rcases hxo.2 with ⟨rfl, hn⟩ | ⟨g, cap, cur, rfl, _⟩
      · exact ⟨_, _, rfl⟩
      · exact ⟨_, _, rfl⟩
    obtain ⟨va, n, c, hv, hnc⟩ : ∃ va n c, v = .slice va n c ∧ n ≤ c := by
      rcases hown with ⟨_, ⟨rfl, h2⟩ | ⟨g, cap, cur, rfl, _, _, h5, _⟩⟩
      · exact ⟨_, _, _, rfl, Nat.le_refl _⟩
      · exact ⟨_, _, _, rfl, h5⟩
    have hf : (Builtin.firstCells i0.size 0 (.slice xa 0 xc)).run Try.prog w = .ok #[] w := by
      cases xa with
      | none => exact run_firstCells_none w i0.size 0 0 xc
      | some d => exact run_firstCells_some w i0.size 0 d 0 xc [] (by simp) (fun j v hj => by simp at hj)
    have hrun : ∀ ty, (Builtin.append_ #[32, 32] ty #[.slice va n c, .slice xa 0 xc]).run Try.prog w = .ok (.slice va n c) w := fun ty => by
      cases va with
      | none => simp [Builtin.append_, run_underlying Try.underlying32, sizeOf, typeInfo, hi, Builtin.lenOf, hnc, hf]
      | some d => simp [Builtin.append_, run_underlying Try.underlying32, sizeOf, typeInfo, hi, Builtin.lenOf, hnc, hf, storeCells]
    refine Lib.wpList_append_run w hgd s x _ _ ho _ _ (hs.trans hv) hx _ _ (hrun _) ?_
    rw [← hv]
    exact h v w (by rw [List.append_nil]; exact hown) (Below.refl _ _)
  · rcases hxo.2 with ⟨rfl, hn⟩ | ⟨g, cap, cur, rfl, _⟩
    · exact absurd hn h0
    · refine wpList_append_lies w hgd s x 32 ho B 5 i0 _ 1 1 Try.underlying32 hi hz0 hz1 hz2 rfl (by decide) v l.length (bv l) hs hown ⟨g, 0, none⟩ k.length cap (bv k) hx (by rw [bv_len]; omega) ?_ ?_ (by omega) (by unfold maxLen; omega) (by omega) hB w.heap.size rfl ?_
      · intro j u hj
        exact World.ownsRow.cells (show w.ownsRow B' 5 1 (.slice (some ⟨g, 0, none⟩) k.length cap) k.length (bv k) from hxo) rfl j u hj
      · intro u hu
        simp only [bv, List.mem_map] at hu
        obtain ⟨m, _, rfl⟩ := hu
        rfl
      · intro g' cap' w' h1 h2 h3 _
        refine h _ w' ?_ ?_
        · unfold FOwn
          rw [bv_app, List.length_append]
          exact h1
        · refine (Below.refl _ _).grown h2 hB ?_
          intro k hk
          exact (hown.lt _ hk).1
theorem own_new1 (W : World) (B : Nat) (f : UInt8) (x : Int) (hB : B ≤ W.heap.size) (hx : x = (f.toNat : Int)) : FOwn (W.alloc (.cells #[.int .u8 x] 5)) B (.slice (some ⟨W.heap.size, 0, none⟩) 1 1) [f] := by
  subst hx
  exact ⟨rfl, Or.inr ⟨W.heap.size, 1, #[.int .u8 (f.toNat : Int)], rfl, hB, heap_alloc_new W _, Nat.le_refl _, by unfold maxLen; omega, rfl, rfl⟩⟩
theorem own_nil0 (W : World) (B : Nat) : FOwn W B (.slice none 0 0) [] := ⟨rfl, Or.inl ⟨rfl, rfl⟩⟩
theorem ws_div (k : Nat) (h0 : 0 < k) (h : k < 4294967296) : ∃ (m q : Nat) (c : UInt8), (k : Int).tmod 256 = (m : Int) ∧ IntKind.u8.wrap (m : Int) = (c.toNat : Int) ∧ (k : Int).tdiv 256 = (q : Int) ∧ wrap64 (q : Int) = (q : Int) ∧ wrap64 (m : Int) = (m : Int) ∧ lo (k : Int) = c ∧ k / 256 = q ∧ q < 4294967296 ∧ q < k := by
  refine ⟨k % 256, k / 256, lo (k : Int), ?_, ?_, ?_, ?_, ?_, rfl, rfl, by omega, by omega⟩
  · rw [Int.tmod_eq_emod_of_nonneg (by omega)]; omega
  · rw [lo_wrap, BerMath.lo_n, BerMath.lo_n]; omega
  · rw [Int.tdiv_eq_ediv_of_nonneg (by omega)]; omega
  · unfold wrap64; omega
  · unfold wrap64; omega
theorem ws_add (l : Nat) (h : l ≤ 4) : wrap64 ((128 : Int) + (l : Int)) = (128 : Int) + (l : Int) := by unfold wrap64; omega
theorem ws_zero (k : Nat) (h : ¬ 0 < k) : k = 0 := by omega
theorem ws_pos (k : Nat) (h : 0 < k) : (0 : Int) < (k : Int) := by omega
theorem ws_five (l : Nat) (h : l ≤ 4) (c : UInt8) : [c].length + l ≤ 134217728 := by simp; omega
theorem ws_suffix {a b c : List UInt8} (h : a = b ++ c) (ha : a.length ≤ 4) : c.length ≤ 4 := by
  have := congrArg List.length h
  rw [List.length_append] at this
  omega
theorem ws_three {a l : List UInt8} {k : Nat} (h : a = mb k ++ l) (ha : a.length ≤ 4) (hk : 0 < k) : l.length ≤ 3 := by
  have := congrArg List.length h
  rw [List.length_append] at this
  have : 1 ≤ (mb k).length := by rcases mb_cases k with ⟨a, e⟩ | ⟨a, b, e⟩ | ⟨a, b, e⟩ | ⟨a, b, e⟩ | ⟨a, e⟩ <;> first | omega | (rw [e]; simp)
  omega
theorem ws_grow {w w' : World} {B B' : Nat} {v v' : Value} {l : List UInt8} {c : UInt8} (h : FOwn w B v l) (h' : FOwn w' B' v' ([c] ++ l)) (hl : l.length ≤ 3) : 5 - lenV v' < 5 - lenV v := by
  obtain ⟨a, n, c1, rfl⟩ := own_slice h
  obtain ⟨a', n', c2, rfl⟩ := own_slice h'
  have e1 := (own_size h).1
  have e2 := (own_size h').1
  rw [List.length_append, List.length_singleton] at e2
  show 5 - n' < 5 - n
  omega

set_option maxRecDepth 100000 in
set_option maxHeartbeats 2000000 in
theorem lengthBytes_any (n : Nat) (w : World) (h : n < 4294967296) :
    Calls Try.prog 32 #[.int .i64 (n : Int)] w fun e w' => e = .returned (.string (S (lenB n))) ∧ Below w.heap.size w w' := by
  by_cases hn : n < 128
  · have d1 : decide ((n : Int) < 128) = true := decide_eq_true (by omega)
    have hb := lo_wrap (n : Int)
    have hc := own_conv (own_new1 w w.heap.size (lo (n : Int)) _ (Nat.le_refl _) rfl)
    rw [← lenB_short n hn] at hc
    clear h hn
    go_enter Try.func32, Try.ntmps32
    go_wp2_with fail
    go_ret
    exact ⟨rfl, (Below.refl _ _).alloc (Nat.le_refl _) _⟩
  · have d1 : decide ((n : Int) < 128) = false := decide_eq_false (by omega)
    have hfin := lenB_mb n hn
    have hml := mb_len n
    clear hn
    go_enter Try.func32, Try.ntmps32
    go_wp2_with fail
    go_loopw [3, 4] (fun lv kv wr => ∃ (k : Nat) (l : List UInt8), kv = .int .i64 (k : Int) ∧ k < 4294967296 ∧ Hid (FOwn wr w.heap.size lv l) ∧ Hid (mb n = mb k ++ l) ∧ Below w.heap.size w wr) (fun lv _ _ => 5 - lenV lv)
    case atStart => exact ⟨n, [], rfl, h, own_nil0 _ _, by unfold Hid; rw [List.append_nil], Below.refl _ _⟩
    case round =>
      obtain ⟨k, l, rfl, hk, hown, hmb, HB⟩ := hrel
      obtain ⟨la, ln, lc, rfl⟩ := own_slice hown.out
      have hBs : w.heap.size ≤ wr.heap.size := HB.size
      have hll : Hid (l.length ≤ 4) := ws_suffix hmb.out hml
      by_cases hk0 : 0 < k
      · have hstep := mb_step k hk0 hk
        obtain ⟨m, q, c, r1, r2, r3, r4, r5, r6, r7, r8, r9⟩ := ws_div k hk0 hk
        rw [r6, r7] at hstep
        have hmb' : Hid (mb n = mb q ++ ([c] ++ l)) := by unfold Hid; rw [hmb.out, hstep, List.append_assoc]
        have k1 : (0 : Int) < (k : Int) := ws_pos k hk0
        have hl3 : Hid (l.length ≤ 3) := ws_three hmb.out hml hk0
        have hkq : Hid (q < 4294967296 ∧ q < k) := ⟨r8, r9⟩
        clear hstep hmb hk h hfin hml r6 r7 r8 r9
        go_wp2_with (at_builtin; refine push_row _ rfl _ _ rfl w.heap.size w.heap.size _ _ [c] l rfl rfl ?_ ?_ ?_ ?_ ?_; (exact own_new1 wr w.heap.size c _ hBs rfl); (exact World.ownsRow.alloc hown.out _); (exact Nat.le_trans hBs (by rw [World.size_alloc]; exact Nat.le_succ _)); (exact ws_five _ hll.out _); intro v6 w6 hown6 hb6)
        refine ⟨⟨q, [c] ++ l, congrArg (Value.int .i64) r4, hkq.out.1, hown6, hmb', (HB.alloc HB.size _).trans hb6⟩, ?_⟩
        exact ws_grow hown.out hown6 hl3.out
      · have hk1 : k = 0 := ws_zero k hk0
        subst hk1
        have hl : mb n = l := hmb.out
        rw [hl] at hfin hml
        obtain ⟨hsz, hsc⟩ := own_size hown.out
        subst hsz
        have hb := lo_wrap ((128 : Int) + (l.length : Int))
        have hw : wrap64 ((128 : Int) + (l.length : Int)) = (128 : Int) + (l.length : Int) := ws_add _ hll.out
        have hfin' : Hid (lenB n = [lo ((128 : Int) + (l.length : Int))] ++ l) := hfin
        clear hfin hmb hl hk hk0 h
        go_wp2_with (at_builtin; refine push_row _ rfl _ _ rfl w.heap.size w.heap.size _ _ [lo ((128 : Int) + (l.length : Int))] l rfl rfl ?_ ?_ ?_ ?_ ?_; (exact own_new1 wr w.heap.size (lo ((128 : Int) + (l.length : Int))) _ hBs rfl); (exact World.ownsRow.alloc hown.out _); (exact Nat.le_trans hBs (by rw [World.size_alloc]; exact Nat.le_succ _)); (exact ws_five _ hll.out _); intro v6 w6 hown6 hb6; have hc6 := own_conv hown6; rw [← hfin'.out] at hc6)
        go_ret
        exact ⟨rfl, (HB.alloc HB.size _).trans hb6⟩
end Go.Proofs.Ythaonpmmfennhaa
