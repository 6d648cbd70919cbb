import Derived.Test.YtdjfjoidmnciiaaSgB
import Derived.Test.YtdjfjoidmnciiaaSgC
namespace Go.Proofs.Ytdjfjoidmnciiaa
open Go.RowKit Go.Sort Go.Lib
open SgMath (Inc setOf srt less_iff ltT ltI gm Lst Chs above)
set_option linter.unusedVariables false
set_option maxRecDepth 100000

theorem push_t (w : World) {ops : Array Oper} {rest : List Oper} {o : Oper} {a : Act} {Q : Exit → Act → World → Prop} (hgd : o.guard = none) (s x : Operand)
    (ho : o.op = .call { callee := .builtin .append, args := #[s, x], argTypes := #[23, 23] }) (hty : o.type = 23) (B : Nat) (v : Value) (l : List (List UInt8)) (m : List UInt8) (g : Nat)
    (hs : a.eval s = v) (hx : a.eval x = .slice (some ⟨g, 0, none⟩) 1 1) (hown : OwnS w B v l) (hg : w.heap[g]? = some (.cells #[.string (S m)] 9 (0, 0))) (hB : B ≤ w.heap.size) (hl : l.length ≤ 8388608)
    (h : ∀ v' w', OwnS w' B v' (l ++ [m]) → Below B w w' → wpList Try.prog ops Q rest (a.put o.dst v') w') :
    wpList Try.prog ops Q (o :: rest) a w := by
  obtain ⟨v', w', hr, h1, h2⟩ := append_row w B v l [m] (some ⟨g, 0, none⟩) 1 1 hown (fun i hi => by
    have : i = 0 := by simpa using hi
    subst this
    refine ⟨g, 0, rfl, ?_⟩
    rw [cell_of_row w g (0 + 0) _ _ (0, 0) hg]
    rfl) rfl hB (by simp; omega)
  exact Lib.wpList_append_run w hgd s x _ _ ho _ _ hs hx _ _ (by rw [hty]; exact hr) (h v' w' h1 h2)
theorem cut3 (s : ByteArray) (k : Nat) : s.extract k (k + 3) = S ((s.data.toList.drop k).take 3) := by
  apply S_eq
  rw [Lib.extract_data]
  congr 1
  omega
def lenV : Value → Nat
  | .slice _ n _ => n
  | _ => 0
theorem grow_t {w w' : World} {B B' N : Nat} {v v' : Value} {l : List (List UInt8)} {m : List UInt8} (h : OwnS w B v l) (h' : OwnS w' B' v' (l ++ [m])) (hl : l.length < N) : N - lenV v' < N - lenV v := by
  obtain ⟨a, c, rfl⟩ := ownS_slice h
  obtain ⟨a', c', rfl⟩ := ownS_slice h'
  show N - (l ++ [m]).length < N - l.length
  rw [List.length_append, List.length_singleton]
  omega
theorem meas_w (n i : Nat) (h : i + 1 ≤ n) (hw : wrap64 ((i : Int) + 1) = ((i + 1 : Nat) : Int)) : n - (intOf (.int .i64 (wrap64 ((i : Int) + 1)))).toNat < n - (intOf (.int .i64 (i : Int))).toNat := by
  rw [hw]
  show n - (((i + 1 : Nat) : Int)).toNat < n - ((i : Nat) : Int).toNat
  rw [Int.toNat_natCast, Int.toNat_natCast]
  omega
theorem meas_w2 (n i : Nat) (h : i + 1 ≤ n) : n - (intOf (.int .i64 ((i : Int) + 1))).toNat < n - (intOf (.int .i64 (i : Int))).toNat := by
  show n - (((i + 1 : Nat) : Int)).toNat < n - ((i : Nat) : Int).toNat
  rw [Int.toNat_natCast, Int.toNat_natCast]
  omega
theorem ws3 (k : Nat) (h : k ≤ 4194304) : wrap64 ((k : Int) + 3) = ((k + 3 : Nat) : Int) ∧ wrap64 ((k : Int) + 1) = ((k + 1 : Nat) : Int) ∧ wrap64 (((k + 3 : Nat) : Int) + 1) = ((k + 1 + 3 : Nat) : Int) ∧ wrap64 (((k + 3 : Nat) : Int) - 3) = (k : Int) := by unfold wrap64; omega

set_option maxHeartbeats 1000000 in
theorem grams_any (s : ByteArray) (w : World) (hs : s.size ≤ 1048576) :
    Calls Try.prog 4 #[.string s] w fun e w' => ∃ v, e = .returned v ∧ OwnS w' w.heap.size v (setOf (gm s.data.toList (s.size - 2))) ∧ Below w.heap.size w w' := by
  have hs' : Hid (s.size ≤ 1048576) := hs
  clear hs
  go_enter Try.func4, Try.ntmps4
  go_wp2_with fail
  go_loopw [3, 4] (fun lv iv wr => ∃ k e : Nat, k ≤ s.size - 2 ∧ e = k + 3 ∧ iv = .int .i64 (e : Int) ∧ Hid (OwnS wr w.heap.size lv (gm s.data.toList k)) ∧ Below w.heap.size w wr) (fun lv _ _ => s.size + 4 - lenV lv)
  case atStart => exact ⟨0, 3, Nat.zero_le _, rfl, rfl, ownS_nil _ _, Below.refl _ _⟩
  case round =>
    obtain ⟨k, e, hk, he, rfl, hown, HB⟩ := hrel
    have hsz := hs'.out
    obtain ⟨la, lc, rfl⟩ := ownS_slice hown.out
    have hBs : w.heap.size ≤ wr.heap.size := HB.size
    have hgl : Hid ((gm s.data.toList k).length ≤ 8388608) := by unfold Hid; rw [SgMath.gm_len]; omega
    by_cases hlt : e ≤ s.size
    · obtain ⟨w1, w2, w3, w4⟩ := ws3 k (by omega)
      rw [← he] at w1 w3 w4
      obtain ⟨e2, he2⟩ : ∃ e2, e2 = k + 1 + 3 := ⟨_, rfl⟩
      rw [← he2] at w3
      have hcut := cut3 s k
      rw [← he] at hcut
      have i0 : (0 : Int) ≤ (k : Int) := Int.natCast_nonneg _
      have i1 : (k : Int) ≤ (e : Int) := by omega
      have i2 : (e : Int) ≤ (s.size : Int) := Int.ofNat_le.2 hlt
      have hgs := SgMath.gm_succ s.data.toList k
      obtain ⟨m, hm⟩ : ∃ m, (s.data.toList.drop k).take 3 = m := ⟨_, rfl⟩
      rw [hm] at hcut hgs
      have hgs' : Hid (gm s.data.toList (k + 1) = gm s.data.toList k ++ [m]) := hgs
      have hfin : Hid (k + 1 ≤ s.size - 2 ∧ e2 = k + 1 + 3 ∧ (gm s.data.toList k).length < s.size + 4) := by unfold Hid; rw [SgMath.gm_len]; omega
      obtain ⟨X, hX⟩ : ∃ X, S m = X := ⟨_, rfl⟩
      rw [hX] at hcut
      have hXm : Hid (X = S m) := hX.symm
      generalize gm s.data.toList k = L at *
      clear hgs hm hX he he2 hk hsz
      go_wp2_with (at_builtin; refine push_t _ rfl _ _ rfl rfl w.heap.size _ L m _ rfl rfl ?_ ?_ ?_ hgl.out ?_; (exact World.ownsRow.alloc hown.out _); (rw [← hXm.out]; exact hp_new _ _); (simp; omega); intro v6 w6 hown6 hb6)
      refine ⟨⟨k + 1, e2, hfin.out.1, hfin.out.2.1, congrArg (Value.int .i64) w3, ?_, (HB.alloc HB.size _).trans hb6⟩, ?_⟩
      · unfold Hid
        rw [hgs'.out]
        exact hown6
      · exact grow_t hown.out hown6 hfin.out.2.2
    · have hke : k = s.size - 2 := by omega
      have HO := of_any la (gm s.data.toList k) lc wr (ownS_row hown.out).1 (by rw [SgMath.gm_len]; omega)
      have hke' : Hid (setOf (gm s.data.toList k) = setOf (gm s.data.toList (s.size - 2))) := by unfold Hid; rw [← hke]
      have HO' : Hid (Calls Try.prog 9 #[.slice la (gm s.data.toList k).length lc] wr fun e w' => ∃ v, e = .returned v ∧ OwnS w' wr.heap.size v (setOf (gm s.data.toList k)) ∧ Below wr.heap.size wr w') := HO
      clear HO hke he hk hgl hown
      go_wp2_with fail
      refine HO'.out.mono ?_
      rintro e w1 ⟨v, rfl, h1, h2⟩
      go_wp2_with fail
      go_ret
      rw [hke'.out] at h1
      exact ⟨_, rfl, ownS_base h1 hBs, HB.trans (h2.mono hBs)⟩

set_option maxHeartbeats 2000000 in
theorem sorted_any (a : Option Addr) (l : List (List UInt8)) (c : Nat) (w : World) (hr : Row w a l) (hl : l.length ≤ 4194304) :
    Calls Try.prog 10 #[.slice a l.length c] w fun e w' => ∃ v, e = .returned v ∧ OwnS w' w.heap.size v (setOf l) ∧ Below w.heap.size w w' := by
  have hl' : Hid (l.length ≤ 4194304) := hl
  have hfin : Hid (∀ m : List (List UInt8), Inc m → (∀ x, x ∈ m ↔ x ∈ l) → m = setOf l) := fun m h1 h2 => SgMath.inc_eq _ _ h1 (SgMath.setOf_inc l) (fun x => by rw [h2, SgMath.setOf_mem])
  clear hl
  go_enter Try.func10, Try.ntmps10
  go_wp2_with fail
  go_loopw [3, 4, 5] (fun mv lv nv wr => ∃ (n : Nat) (m : List (List UInt8)) (last : List UInt8), n ≤ l.length ∧ nv = .int .i64 (n : Int) ∧ m.length = n ∧ Hid (lv = .string (S last) ∧ (0 < n → m.getLast? = some last)) ∧ Hid (Chs l m) ∧ Hid (OwnS wr w.heap.size mv m) ∧ Below w.heap.size w wr) (fun mv _ _ _ => l.length + 1 - lenV mv)
  case atStart => exact ⟨0, [], [], Nat.zero_le _, rfl, rfl, ⟨rfl, fun h => by omega⟩, SgMath.chs_start l, ownS_nil _ _, Below.refl _ _⟩
  case round =>
    obtain ⟨n, m, last, hn, rfl, hmn, hla, hchs, hown, HB⟩ := hrel
    have hsz := hl'.out
    obtain ⟨ma, mc, rfl⟩ := ownS_slice hown.out
    have hBs : w.heap.size ≤ wr.heap.size := HB.size
    obtain ⟨hlv, hlast⟩ := hla.out
    subst hlv
    obtain ⟨lo, hlo⟩ : ∃ lo, m.getLast? = lo := ⟨_, rfl⟩
    have hmn' : Hid (m.length = n) := hmn
    have hmm : Hid (m.length ≤ 8388608 ∧ m.length < l.length + 1) := by unfold Hid; omega
    by_cases hlt : n < l.length
    · have n1 : (n : Int) < (l.length : Int) := Int.ofNat_lt.2 hlt
      have hab : Hid ((((n : Int) == 0) = true ∧ (∀ x, above lo x)) ∨ (((n : Int) == 0) = false ∧ lo = some last)) := by
        unfold Hid
        by_cases h0 : n = 0
        · left
          refine ⟨by rw [h0]; rfl, fun x y e => ?_⟩
          have : m = [] := List.eq_nil_of_length_eq_zero (by omega)
          rw [← hlo, this] at e
          cases e
        · right
          exact ⟨by rw [beq_eq_false_iff_ne]; omega, by rw [← hlo]; exact hlast (by omega)⟩
      have hlt' : Hid (n < l.length) := hlt
      obtain ⟨wo, hwo⟩ : ∃ wo, wo = wr := ⟨_, rfl⟩
      clear hmn hlast hn hlt
      go_wp2_with fail
      go_loopw [6, 7, 8] (fun bv fv iv w' => ∃ (i : Nat) (best : Option (List UInt8)), i ≤ l.length ∧ iv = .int .i64 (i : Int) ∧ bv = .string (S (best.getD [])) ∧ fv = .bool best.isSome ∧ Hid (Lst l i lo best) ∧ wo = w') (fun _ _ iv _ => l.length - (intOf iv).toNat)
      case atStart => exact ⟨0, none, Nat.zero_le _, rfl, rfl, rfl, SgMath.lst_start l lo, hwo⟩
      case round =>
        obtain ⟨i, best, hi, rfl, rfl, rfl, hL, rfl⟩ := hrel
        subst hwo
        by_cases h1 : i < l.length
        · obtain ⟨rb, roff, rfl, hcell⟩ := hr.below HB i h1
          obtain ⟨x, hx⟩ : ∃ x, l[i] = x := ⟨_, rfl⟩
          rw [hx] at hcell
          obtain ⟨X, hX⟩ : ∃ X, S x = X := ⟨_, rfl⟩
          rw [hX] at hcell
          have i0 : (0 : Int) ≤ (i : Int) := Int.natCast_nonneg _
          have i1 : (i : Int) < (l.length : Int) := Int.ofNat_lt.2 h1
          have hfi : Hid (i + 1 ≤ l.length ∧ wrap64 ((i : Int) + 1) = ((i + 1 : Nat) : Int)) := ⟨h1, (ws3 i (by omega)).2.1⟩
          have hXs : Hid (X = S x) := hX.symm
          rcases hab.out with ⟨n0, habv⟩ | ⟨n0, hlo2⟩
          · cases best with
            | none =>
              have hT : Hid (Lst l (i + 1) lo (some x)) := by
                have := SgMath.lst_take hL.out h1 (by rw [hx]; exact habv x) (fun b e => by cases e)
                rw [hx] at this
                exact this
              clear hL hx
              simp only [Option.isSome_none, Option.getD_none]
              go_wp2_with fail
              refine ⟨⟨i + 1, some x, hfi.out.1, by simp, congrArg Value.string hXs.out, rfl, hT, trivial⟩, ?_⟩
              exact meas_w2 l.length i hfi.out.1
            | some b =>
              simp only [Option.isSome_some, Option.getD_some]
              by_cases hlb : x < b
              · have hT : Hid (Lst l (i + 1) lo (some x)) := by
                  have := SgMath.lst_take hL.out h1 (by rw [hx]; exact habv x) (fun b' e => by injection e with e; rw [← e, hx]; exact hlb)
                  rw [hx] at this
                  exact this
                have hB2 : Op.bytesLess X.toList (S b).toList = true := by rw [← hX, Lib.toList_data, Lib.toList_data, S_l, S_l]; exact (less_iff _ _).2 hlb
                clear hL hx hlb hX
                go_wp2_with fail
                refine ⟨⟨i + 1, some x, hfi.out.1, by simp, congrArg Value.string hXs.out, rfl, hT, trivial⟩, ?_⟩
                exact meas_w2 l.length i hfi.out.1
              · have hT : Hid (Lst l (i + 1) lo (some b)) := SgMath.lst_skip hL.out h1 (Or.inr ⟨b, rfl, by rw [hx]; exact hlb⟩)
                have hB2 : Op.bytesLess X.toList (S b).toList = false := by rw [← hX, Lib.toList_data, Lib.toList_data, S_l, S_l, Bool.eq_false_iff]; exact fun q => hlb ((less_iff _ _).1 q)
                clear hL hx hlb hX
                go_wp2_with fail
                refine ⟨⟨i + 1, some b, hfi.out.1, by simp, rfl, rfl, hT, trivial⟩, ?_⟩
                exact meas_w2 l.length i hfi.out.1
          · by_cases hlx : last < x
            · have hax : above lo x := fun y e => by rw [hlo2] at e; injection e with e; rw [← e]; exact hlx
              have hB1 : Op.bytesLess X.toList (S last).toList = false := by rw [← hX, Lib.toList_data, Lib.toList_data, S_l, S_l, Bool.eq_false_iff]; exact fun q => ltI _ (ltT hlx ((less_iff _ _).1 q))
              have hB0 : (X.toList == (S last).toList) = false := by rw [← hX, Lib.toList_data, Lib.toList_data, S_l, S_l, beq_eq_false_iff_ne]; exact fun e => ltI _ (by rw [e] at hlx; exact hlx)
              cases best with
              | none =>
                have hT : Hid (Lst l (i + 1) lo (some x)) := by
                  have := SgMath.lst_take hL.out h1 (by rw [hx]; exact hax) (fun b e => by cases e)
                  rw [hx] at this
                  exact this
                clear hL hx
                simp only [Option.isSome_none, Option.getD_none]
                go_wp2_with fail
                refine ⟨⟨i + 1, some x, hfi.out.1, by simp, congrArg Value.string hXs.out, rfl, hT, trivial⟩, ?_⟩
                exact meas_w2 l.length i hfi.out.1
              | some b =>
                simp only [Option.isSome_some, Option.getD_some]
                by_cases hlb : x < b
                · have hT : Hid (Lst l (i + 1) lo (some x)) := by
                    have := SgMath.lst_take hL.out h1 (by rw [hx]; exact hax) (fun b' e => by injection e with e; rw [← e, hx]; exact hlb)
                    rw [hx] at this
                    exact this
                  have hB2 : Op.bytesLess X.toList (S b).toList = true := by rw [← hX, Lib.toList_data, Lib.toList_data, S_l, S_l]; exact (less_iff _ _).2 hlb
                  clear hL hx hlb hX
                  go_wp2_with fail
                  refine ⟨⟨i + 1, some x, hfi.out.1, by simp, congrArg Value.string hXs.out, rfl, hT, trivial⟩, ?_⟩
                  exact meas_w2 l.length i hfi.out.1
                · have hT : Hid (Lst l (i + 1) lo (some b)) := SgMath.lst_skip hL.out h1 (Or.inr ⟨b, rfl, by rw [hx]; exact hlb⟩)
                  have hB2 : Op.bytesLess X.toList (S b).toList = false := by rw [← hX, Lib.toList_data, Lib.toList_data, S_l, S_l, Bool.eq_false_iff]; exact fun q => hlb ((less_iff _ _).1 q)
                  clear hL hx hlb hX
                  go_wp2_with fail
                  refine ⟨⟨i + 1, some b, hfi.out.1, by simp, rfl, rfl, hT, trivial⟩, ?_⟩
                  exact meas_w2 l.length i hfi.out.1
            · have hT : Hid (Lst l (i + 1) lo best) := SgMath.lst_skip hL.out h1 (Or.inl (by rw [hx]; exact fun h => hlx (h last hlo2)))
              by_cases hxl : x = last
              · have hB1 : Op.bytesLess (S last).toList (S last).toList = false := by rw [Lib.toList_data, S_l, Bool.eq_false_iff]; exact fun q => ltI _ ((less_iff _ _).1 q)
                rw [← hX, hxl] at hcell
                clear hL hx hlx hX hXs hxl
                go_wp2_with fail
                refine ⟨⟨i + 1, best, hfi.out.1, by simp, rfl, rfl, hT, trivial⟩, ?_⟩
                exact meas_w2 l.length i hfi.out.1
              · have hB1 : Op.bytesLess X.toList (S last).toList = true := by
                  rw [← hX, Lib.toList_data, Lib.toList_data, S_l, S_l]
                  exact (less_iff _ _).2 (SgMath.leL hlx hxl)
                clear hL hx hlx hX hxl
                go_wp2_with fail
                refine ⟨⟨i + 1, best, hfi.out.1, by simp, rfl, rfl, hT, trivial⟩, ?_⟩
                exact meas_w2 l.length i hfi.out.1
        · have hie : i = l.length := by omega
          subst hie
          cases best with
          | none =>
            have hmf : m = setOf l := hfin.out m hchs.out.1 (SgMath.chs_none hchs.out (by rw [hlo]; exact hL.out))
            simp only [Option.isSome_none, Option.getD_none]
            subst hmf
            go_wp2_with fail
            go_ret
            exact ⟨_, rfl, hown.out, HB⟩
          | some b =>
            simp only [Option.isSome_some, Option.getD_some]
            have hch2 : Hid (Chs l (m ++ [b])) := SgMath.chs_step hchs.out (by rw [hlo]; exact hL.out)
            have hgo : Hid (n + 1 ≤ l.length ∧ (m ++ [b]).length = n + 1 ∧ wrap64 ((n : Int) + 1) = ((n + 1 : Nat) : Int)) := ⟨hlt'.out, by rw [List.length_append, hmn'.out]; rfl, (ws3 n (by have := hlt'.out; omega)).2.1⟩
            have hla2 : Hid ((m ++ [b]).getLast? = some b) := by unfold Hid; rw [List.getLast?_concat]
            clear hchs hL hab
            go_wp2_with (at_builtin; refine push_t _ rfl _ _ rfl rfl w.heap.size _ m b _ rfl rfl ?_ ?_ ?_ hmm.out.1 ?_; (exact World.ownsRow.alloc hown.out _); (exact hp_new _ _); (simp; omega); intro v6 w6 hown6 hb6)
            refine ⟨⟨n + 1, m ++ [b], b, hgo.out.1, by simp, hgo.out.2.1, ⟨rfl, fun _ => hla2.out⟩, hch2, hown6, (HB.alloc HB.size _).trans hb6⟩, ?_⟩
            exact grow_t hown.out hown6 hmm.out.2
    · have hmf : m = setOf l := hfin.out m hchs.out.1 (SgMath.chs_full hchs.out (by omega))
      subst hmf
      clear hmn hlast
      go_wp2_with fail
      go_ret
      exact ⟨_, rfl, hown.out, HB⟩
end Go.Proofs.Ytdjfjoidmnciiaa
