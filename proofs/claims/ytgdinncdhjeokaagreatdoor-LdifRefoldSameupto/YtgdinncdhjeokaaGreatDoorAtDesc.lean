import Derived.Test.YtgdinncdhjeokaaGreatDoorAtRead2
import Derived.Test.YtgdinncdhjeokaaGreatDoorAtOwn
namespace Go.Proofs.YtgdinncdhjeokaaGreatDoor
open Go.RowKit

/-- The options from e on, behind those that were read: the options, the place, whether all is whole. -/
def dscE (s : ByteArray) : Nat → Nat → List (List UInt8) → List (List UInt8) × Nat × Bool
  | 0, e, _ => ([], e, false)
  | n + 1, e, acc =>
    if e < s.size then
      if (s.data.toList.getD e 0).toNat = 59 then
        if runE isK s.data.toList (e + 1) = e + 1 then ([], e + 1, false)
        else dscE s n (runE isK s.data.toList (e + 1)) (acc ++ [(s.extract (e + 1) (runE isK s.data.toList (e + 1))).data.toList])
      else ([], e, false)
    else (acc, e, true)
theorem results_tmp4 {fn : Func} {t u v x : Tmp} (h : fn.results = #[.tmp t, .tmp u, .tmp v, .tmp x]) (tmps : Array Value) (P : Program) (w : World) :
    (results fn tmps).run P w = .ok (.tuple #[tmps.getD t undef, tmps.getD u undef, tmps.getD v undef, tmps.getD x undef]) w := by
  simp [results, h]
/-- What readDesc answers. -/
def DescIs (W : World) (B : Nat) (s : ByteArray) (p : Nat) (r : List (List UInt8) × Nat × Bool) (e : Ending) : Prop :=
  (r.2.2 = true ∧ ∃ v, e = .returned (.tuple #[.string (s.extract 0 p), v, .int .i64 (r.2.1 : Int), .bool true]) ∧ OwnS W B v r.1) ∨
  (r.2.2 = false ∧ e = .returned (.tuple #[.string ⟨#[]⟩, .slice none 0 0, .int .i64 (r.2.1 : Int), .bool false]))
set_option maxRecDepth 100000 in
set_option maxHeartbeats 1000000 in
theorem readDesc_any (s : ByteArray) (w : World) (hs : s.size ≤ 4194304) :
    Calls Tryz.prog 65 #[.string s] w fun e w' => DescIs w' w.heap.size s (typE s.data.toList).1 (if (typE s.data.toList).2 = true then dscE s (s.size + 1) (typE s.data.toList).1 [] else ([], (typE s.data.toList).1, false)) e ∧ Below w.heap.size w w' := by
  have hT : Hid (Calls Tryz.prog 76 #[.string s] w fun e w' => e = .returned (.tuple #[.int .i64 ((typE s.data.toList).1 : Int), .bool (typE s.data.toList).2]) ∧ w' = w) := typeEnd_any s w (by omega)
  have hple := typE_le s.data.toList
  rw [size_l] at hple
  obtain ⟨p, hp⟩ : ∃ p, (typE s.data.toList).1 = p := ⟨_, rfl⟩
  obtain ⟨b, hb⟩ : ∃ b, (typE s.data.toList).2 = b := ⟨_, rfl⟩
  rw [hp, hb] at hT ⊢
  rw [hp] at hple
  clear hp hb
  cases b with
  | false =>
    rw [if_neg (by decide)]
    go_enter Tryz.func65, Tryz.ntmps65
    go_wp2_with fail
    refine hT.out.mono ?_
    rintro e W1 ⟨rfl, rfl⟩
    clear hT
    go_wp2_with fail
    refine bodyPost_ret (results_tmp4 rfl _ _ _) rfl ⟨Or.inr ⟨rfl, rfl⟩, Below.refl _ _⟩
  | true =>
    rw [if_pos rfl]
    obtain ⟨r, hr⟩ : ∃ r, dscE s (s.size + 1) p [] = r := ⟨_, rfl⟩
    rw [hr]
    have hr' : Hid (dscE s (s.size + 1) p [] = r) := hr
    clear hr
    go_enter Tryz.func65, Tryz.ntmps65
    go_wp2_with fail
    refine hT.out.mono ?_
    rintro e W1 ⟨rfl, hW1⟩
    subst hW1
    clear hT
    go_wp2_with fail
    go_loopw [2, 3, 4, 5] (fun tv ov ev kv wr => ∃ (k n : Nat) (l : List (List UInt8)), k ≤ s.size ∧ l.length ≤ k ∧ tv = .string (s.extract 0 p) ∧ ev = .int .i64 (k : Int) ∧ kv = .bool true ∧ (∃ oa ol oc, ov = .slice oa ol oc ∧ OwnS wr W1.heap.size (.slice oa ol oc) l) ∧ Below W1.heap.size W1 wr ∧ Hid (s.size + 1 ≤ n + k ∧ dscE s n k l = r)) (fun _ _ ev _ _ => s.size - (intOf ev).toNat)
    case atStart => exact ⟨p, s.size + 1, [], hple, by simp, rfl, rfl, rfl, ⟨none, 0, 0, rfl, ownS_nil _ _⟩, Below.refl _ _, ⟨by omega, hr'.out⟩⟩
    case round =>
      obtain ⟨k, n, l, hk, hlk, rfl, rfl, rfl, ⟨oa, ol, oc, rfl, hown0⟩, hB0, hrk⟩ := hrel
      have hown : Hid (OwnS wr W1.heap.size (.slice oa ol oc) l) := hown0
      have hB : Hid (Below W1.heap.size W1 wr) := hB0
      have hsz : W1.heap.size ≤ wr.heap.size := hB0.size
      clear hown0 hB0
      obtain ⟨n1, hn1⟩ : ∃ n1, n = n1 + 1 := ⟨n - 1, by have := hrk.out.1; omega⟩
      have hrs := hrk.out.2
      have hnk : Hid (s.size + 1 ≤ n1 + 1 + k) := by rw [← hn1]; exact hrk.out.1
      rw [hn1, dscE] at hrs
      clear hn1 hrk hr'
      by_cases hlt : k < s.size
      · rw [if_pos hlt, getD_s s k hlt] at hrs
        by_cases h59 : s[k].toNat = 59
        · rw [if_pos h59] at hrs
          have hR : Hid (Calls Tryz.prog 77 #[.string s, .int .i64 ((k : Int) + 1), .func (.func 78) #[] #[]] wr fun e w' => e = .returned (.int .i64 (runE isK s.data.toList (k + 1) : Int)) ∧ w' = wr) := runEnd_any isK _ enter_key key_any s (k + 1) wr hlt (by omega)
          have hle := runE_le isK s.data.toList (k + 1) (by rw [size_l]; exact hlt)
          rw [size_l] at hle
          obtain ⟨x, hx⟩ : ∃ x, runE isK s.data.toList (k + 1) = x := ⟨_, rfl⟩
          rw [hx] at hR hle hrs
          obtain ⟨hl1, hl2⟩ := hle
          clear hx
          by_cases hxe : x = k + 1
          · rw [if_pos hxe] at hrs
            have hfin : Hid (r = ([], k + 1, false)) := hrs.symm
            subst hxe
            clear hrs
            go_wp2_with fail
            refine hR.out.mono ?_
            rintro e W2 ⟨rfl, hW2⟩
            have hB2 : Hid (Below W1.heap.size W1 W2) := by rw [hW2]; exact hB
            clear hW2 hR
            go_wp2_with fail
            refine bodyPost_ret (results_tmp4 rfl _ _ _) rfl ⟨?_, hB2.out⟩
            rw [hfin.out]
            exact Or.inr ⟨rfl, rfl⟩
          · rw [if_neg hxe] at hrs
            obtain ⟨M, hM⟩ : ∃ M, s.extract (k + 1) x = M := ⟨_, rfl⟩
            rw [hM] at hrs
            have hfin : Hid (dscE s n1 x (l ++ [M.data.toList]) = r) := hrs
            have hl3 : Hid (l.length ≤ 4194304) := by unfold Hid; omega
            have hlt' : Hid (k < s.size ∧ k + 1 < x ∧ x ≤ s.size) := ⟨hlt, by omega, hl2⟩
            have hSM : Hid (S M.data.toList = M) := S_of M
            have hlk' : Hid (l.length ≤ k) := hlk
            have q1 : ¬ (x : Int) = (k : Int) + 1 := by omega
            have q2 : ((x : Int) == (k : Int) + 1) = false := by rw [beq_eq_false_iff_ne]; exact q1
            clear hrs
            go_wp2_with fail
            refine hR.out.mono ?_
            rintro e W2 ⟨rfl, hW2⟩
            subst hW2
            clear hR
            go_wp2_with (at_builtin; refine push_text _ rfl _ _ rfl W1.heap.size _ l M.data.toList _ rfl rfl ?_ ?_ ?_ hl3.out ?_; (exact World.ownsRow.alloc hown.out _); (rw [hSM.out]; exact heap_alloc_new _ _); (simp; omega); intro g6 cap6 w6 hown6 hgr6 hlie6 hb6)
            refine ⟨⟨x, n1, l ++ [M.data.toList], hlt'.out.2.2, ?_, rfl, rfl, rfl, ?_, ?_, ⟨?_, hfin.out⟩⟩, ?_⟩
            · rw [List.length_append]; have := hlt'.out; have := hlk'.out; simp; omega
            · exact ⟨_, _, _, rfl, hown6⟩
            · exact (hB.out.alloc hsz _).trans hb6
            · have := hnk.out; have := hlt'.out; omega
            · have := hlt'.out; simp [intOf]; omega
        · rw [if_neg h59] at hrs
          have hfin : Hid (r = ([], k, false)) := hrs.symm
          have h59' : ((s[k].toNat : Int) != 59) = true := by rw [bne_iff_ne]; omega
          clear hrs h59
          go_wp2_with fail
          refine bodyPost_ret (results_tmp4 rfl _ _ _) rfl ⟨?_, hB.out⟩
          rw [hfin.out]
          exact Or.inr ⟨rfl, rfl⟩
      · rw [if_neg hlt] at hrs
        have hfin : Hid (r = (l, k, true)) := hrs.symm
        clear hrs
        go_wp2_with fail
        refine bodyPost_ret (results_tmp4 rfl _ _ _) rfl ⟨?_, hB.out⟩
        rw [hfin.out]
        exact Or.inl ⟨rfl, _, rfl, hown.out⟩
end Go.Proofs.YtgdinncdhjeokaaGreatDoor
