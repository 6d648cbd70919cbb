import Derived.Test.YtoomoicjoockjaaGreatDoorGLin
import Derived.Test.YtoomoicjoockjaaGreatDoorAtOwn
namespace Go.Proofs.YtoomoicjoockjaaGreatDoor
open Go.RowKit

/-- The options from e on, behind those that were read: the options, the place, whether all is whole. -/
def dscE (s : ByteArray) : Nat → Nat → List (List UInt8) → List (List UInt8) × Nat × Bool
  | 0, e, _ => ([], e, false)
  | n + 1, e, acc =>
    if e < s.size then
      if (s.data.toList.getD e 0).toNat = 59 then
        if runE isK s.data.toList (e + 1) = e + 1 then ([], e + 1, false)
        else dscE s n (runE isK s.data.toList (e + 1)) (acc ++ [(s.extract (e + 1) (runE isK s.data.toList (e + 1))).data.toList])
      else ([], e, false)
    else (acc, e, true)
theorem results_tmp4 {fn : Func} {t u v x : Tmp} (h : fn.results = #[.tmp t, .tmp u, .tmp v, .tmp x]) (tmps : Array Value) (P : Program) (w : World) :
    (results fn tmps).run P w = .ok (.tuple #[tmps.getD t undef, tmps.getD u undef, tmps.getD v undef, tmps.getD x undef]) w := by
  simp [results, h]
/-- What readDesc answers. -/
def DescIs (W : World) (B : Nat) (s : ByteArray) (p : Nat) (r : List (List UInt8) × Nat × Bool) (e : Ending) : Prop :=
  (r.2.2 = true ∧ ∃ v, e = .returned (.tuple #[.string (s.extract 0 p), v, .int .i64 (r.2.1 : Int), .bool true]) ∧ OwnS W B v r.1) ∨
  (r.2.2 = false ∧ e = .returned (.tuple #[.string ⟨#[]⟩, .slice none 0 0, .int .i64 (r.2.1 : Int), .bool false]))
set_option maxRecDepth 100000 in
set_option maxHeartbeats 1000000 in
theorem readDesc_any (s : ByteArray) (w : World) (hs : s.size ≤ 4194304) :
    Calls Tryz.prog 64 #[.string s] w fun e w' => DescIs w' w.heap.size s (typE s.data.toList).1 (if (typE s.data.toList).2 = true then dscE s (s.size + 1) (typE s.data.toList).1 [] else ([], (typE s.data.toList).1, false)) e ∧ Below w.heap.size w w' := by
  have hT : Hid (Calls Tryz.prog 83 #[.string s] w fun e w' => e = .returned (.tuple #[.int .i64 ((typE s.data.toList).1 : Int), .bool (typE s.data.toList).2]) ∧ w' = w) := typeEnd_any s w (by omega)
  have hple := typE_le s.data.toList
  rw [size_l] at hple
  obtain ⟨p, hp⟩ : ∃ p, (typE s.data.toList).1 = p := ⟨_, rfl⟩
  obtain ⟨b, hb⟩ : ∃ b, (typE s.data.toList).2 = b := ⟨_, rfl⟩
  rw [hp, hb] at hT ⊢
  rw [hp] at hple
  clear hp hb
  cases b with
  | false =>
    rw [if_neg (by decide)]
    go_enter Tryz.func64, Tryz.ntmps64
    go_wp2_with fail
    refine hT.out.mono ?_
    rintro e W1 ⟨rfl, rfl⟩
    clear hT
    go_wp2_with fail
    refine bodyPost_ret (results_tmp4 rfl _ _ _) rfl ⟨Or.inr ⟨rfl, rfl⟩, Below.refl _ _⟩
  | true =>
    rw [if_pos rfl]
    obtain ⟨r, hr⟩ : ∃ r, dscE s (s.size + 1) p [] = r := ⟨_, rfl⟩
    rw [hr]
    have hr' : Hid (dscE s (s.size + 1) p [] = r) := hr
    clear hr
    go_enter Tryz.func64, Tryz.ntmps64
    go_wp2_with fail
    refine hT.out.mono ?_
    rintro e W1 ⟨rfl, hW1⟩
    subst hW1
    clear hT
    go_wp2_with fail
    go_loopw [2, 3, 4, 5] (fun tv ov ev kv wr => ∃ (k n : Nat) (l : List (List UInt8)), k ≤ s.size ∧ l.length ≤ k ∧ tv = .string (s.extract 0 p) ∧ ev = .int .i64 (k : Int) ∧ kv = .bool true ∧ (∃ oa ol oc, ov = .slice oa ol oc ∧ OwnS wr W1.heap.size (.slice oa ol oc) l) ∧ Below W1.heap.size W1 wr ∧ Hid (s.size + 1 ≤ n + k ∧ dscE s n k l = r)) (fun _ _ ev _ _ => s.size - (intOf ev).toNat)
    case atStart => exact ⟨p, s.size + 1, [], hple, by simp, rfl, rfl, rfl, ⟨none, 0, 0, rfl, ownS_nil _ _⟩, Below.refl _ _, ⟨by omega, hr'.out⟩⟩
    case round =>
      obtain ⟨k, n, l, hk, hlk, rfl, rfl, rfl, ⟨oa, ol, oc, rfl, hown0⟩, hB0, hrk⟩ := hrel
      have hown : Hid (OwnS wr W1.heap.size (.slice oa ol oc) l) := hown0
      have hB : Hid (Below W1.heap.size W1 wr) := hB0
      have hsz : W1.heap.size ≤ wr.heap.size := hB0.size
      clear hown0 hB0
      obtain ⟨n1, hn1⟩ : ∃ n1, n = n1 + 1 := ⟨n - 1, by have := hrk.out.1; omega⟩
      have hrs := hrk.out.2
      have hnk : Hid (s.size + 1 ≤ n1 + 1 + k) := by rw [← hn1]; exact hrk.out.1
      rw [hn1, dscE] at hrs
      clear hn1 hrk hr'
      by_cases hlt : k < s.size
      · rw [if_pos hlt, getD_s s k hlt] at hrs
        by_cases h59 : s[k].toNat = 59
        · rw [if_pos h59] at hrs
          have hR : Hid (Calls Tryz.prog 84 #[.string s, .int .i64 ((k : Int) + 1), .func (.func 85) #[] #[]] wr fun e w' => e = .returned (.int .i64 (runE isK s.data.toList (k + 1) : Int)) ∧ w' = wr) := runEnd_any isK _ enter_key key_any s (k + 1) wr hlt (by omega)
          have hle := runE_le isK s.data.toList (k + 1) (by rw [size_l]; exact hlt)
          rw [size_l] at hle
          obtain ⟨x, hx⟩ : ∃ x, runE isK s.data.toList (k + 1) = x := ⟨_, rfl⟩
          rw [hx] at hR hle hrs
          obtain ⟨hl1, hl2⟩ := hle
          clear hx
          by_cases hxe : x = k + 1
          · rw [if_pos hxe] at hrs
            have hfin : Hid (r = ([], k + 1, false)) := hrs.symm
            subst hxe
            clear hrs
            go_wp2_with fail
            refine hR.out.mono ?_
            rintro e W2 ⟨rfl, hW2⟩
            have hB2 : Hid (Below W1.heap.size W1 W2) := by rw [hW2]; exact hB
            clear hW2 hR
            go_wp2_with fail
            refine bodyPost_ret (results_tmp4 rfl _ _ _) rfl ⟨?_, hB2.out⟩
            rw [hfin.out]
            exact Or.inr ⟨rfl, rfl⟩
          · rw [if_neg hxe] at hrs
            obtain ⟨M, hM⟩ : ∃ M, s.extract (k + 1) x = M := ⟨_, rfl⟩
            rw [hM] at hrs
            have hfin : Hid (dscE s n1 x (l ++ [M.data.toList]) = r) := hrs
            have hl3 : Hid (l.length ≤ 4194304) := by unfold Hid; omega
            have hlt' : Hid (k < s.size ∧ k + 1 < x ∧ x ≤ s.size) := ⟨hlt, by omega, hl2⟩
            have hSM : Hid (S M.data.toList = M) := S_of M
            have hlk' : Hid (l.length ≤ k) := hlk
            have q1 : ¬ (x : Int) = (k : Int) + 1 := by omega
            have q2 : ((x : Int) == (k : Int) + 1) = false := by rw [beq_eq_false_iff_ne]; exact q1
            clear hrs
            go_wp2_with fail
            refine hR.out.mono ?_
            rintro e W2 ⟨rfl, hW2⟩
            subst hW2
            clear hR
            go_wp2_with (at_builtin; refine push_text _ rfl _ _ rfl W1.heap.size _ l M.data.toList _ rfl rfl ?_ ?_ ?_ hl3.out ?_; (exact World.ownsRow.alloc hown.out _); (rw [hSM.out]; exact heap_alloc_new _ _); (simp; omega); intro g6 cap6 w6 hown6 hgr6 hlie6 hb6)
            refine ⟨⟨x, n1, l ++ [M.data.toList], hlt'.out.2.2, ?_, rfl, rfl, rfl, ?_, ?_, ⟨?_, hfin.out⟩⟩, ?_⟩
            · rw [List.length_append]; have := hlt'.out; have := hlk'.out; simp; omega
            · exact ⟨_, _, _, rfl, hown6⟩
            · exact (hB.out.alloc hsz _).trans hb6
            · have := hnk.out; have := hlt'.out; omega
            · have := hlt'.out; simp [intOf]; omega
        · rw [if_neg h59] at hrs
          have hfin : Hid (r = ([], k, false)) := hrs.symm
          have h59' : ((s[k].toNat : Int) != 59) = true := by rw [bne_iff_ne]; omega
          clear hrs h59
          go_wp2_with fail
          refine bodyPost_ret (results_tmp4 rfl _ _ _) rfl ⟨?_, hB.out⟩
          rw [hfin.out]
          exact Or.inr ⟨rfl, rfl⟩
      · rw [if_neg hlt] at hrs
        have hfin : Hid (r = (l, k, true)) := hrs.symm
        clear hrs
        go_wp2_with fail
        refine bodyPost_ret (results_tmp4 rfl _ _ _) rfl ⟨?_, hB.out⟩
        rw [hfin.out]
        exact Or.inl ⟨rfl, _, rfl, hown.out⟩
end Go.Proofs.YtoomoicjoockjaaGreatDoor

namespace Go.Proofs.YtoomoicjoockjaaGreatDoor
open Go.RowKit
open TextMath (fold lo)
set_option linter.unusedVariables false

theorem ext_full (s : ByteArray) : s.extract 0 s.size = s := by
  have h : (s.extract 0 s.size).data.toList = s.data.toList := by
    rw [Lib.extract_data]
    simp
    rw [List.take_of_length_le]
    rw [size_l]
    exact Nat.le_refl _
  rw [← S_of (s.extract 0 s.size), h, S_of]
theorem ownS_base {w : World} {B B' : Nat} {v : Value} {l : List (List UInt8)} (h : OwnS w B v l) (hB : B' ≤ B) : OwnS w B' v l := by
  rcases h with ⟨h1, ⟨rfl, h2⟩ | ⟨g, cap, cur, rfl, h3, h4⟩⟩
  · exact ⟨h1, Or.inl ⟨rfl, h2⟩⟩
  · exact ⟨h1, Or.inr ⟨g, cap, cur, rfl, Nat.le_trans hB h3, h4⟩⟩
/-- A text that is a type and nothing else. -/
def Typ (f : ByteArray) : Prop := (typE f.data.toList).1 = f.size ∧ (typE f.data.toList).2 = true

set_option maxRecDepth 100000 in
set_option maxHeartbeats 1000000 in
theorem readType_any (f : ByteArray) (w : World) (hs : f.size ≤ 140737488355328) (hT : Typ f) :
    Calls Tryz.prog 64 #[.string f] w fun e w' => e = .returned (.tuple #[.string f, .slice none 0 0, .int .i64 (f.size : Int), .bool true]) ∧ w' = w := by
  have hc := typeEnd_any f w hs
  rw [hT.1, hT.2] at hc
  have n0 : (0 : Int) ≤ (f.size : Int) := Int.natCast_nonneg _
  clear hT
  go_enter Tryz.func64, Tryz.ntmps64
  go_wp2_with (go_at_call 83; refine hc.mono ?_; rintro e w' ⟨rfl, rfl⟩)
  refine wp_loop_rounds 1 ?_
  rw [rounds_succ]
  go_wp2_with fail
  exact bodyPost_ret (results_tmp4 rfl _ _ _) rfl ⟨rfl, rfl⟩

/-- The book of one asked text, laid down: what the calls over it may lean on. -/
theorem fold_size (s : ByteArray) : (S (fold s.data.toList)).size = s.size := by
  rw [S_size]
  unfold fold
  rw [List.length_map, size_l]

/-- The syntax of a type. -/
def synN (f : ByteArray) : Int := match rowOf f with
  | none => 0
  | some i => SYN.getD i.1 0
theorem field_book (B : Nat) (W : World) : (Instr.field 107 (.agg (bkC B (upF 62))) 1).run Tryz.prog W = .ok (.map (some B)) W := by kernel_rfl

end Go.Proofs.YtoomoicjoockjaaGreatDoor

namespace Go.Proofs.YtoomoicjoockjaaGreatDoor
open Go.RowKit
open TextMath (fold lo)
set_option linter.unusedVariables false

theorem map_below {w w' : World} {R : Value → Option (DataW Nat × List MemPlace)} {b n : Nat} {D : DataW Nat} (h : w.ownsMap Tryz.prog 9 R b n D) (hb : Below w.heap.size w w') : w'.ownsMap Tryz.prog 9 R b n D := by
  have hlt := h.lt
  obtain ⟨es, clock, h0, h1⟩ := h
  exact ⟨es, clock, by rw [hb.block b hlt]; exact h0, h1⟩
theorem con_two (e f : ByteArray) (g : Nat) (w : World) (hg : w.cell? ⟨g, 0, none⟩ = some (.string e)) (hg1 : w.cell? ⟨g, 1, none⟩ = some (.string f)) : ∀ W x, Below w.heap.size w W → Hid (Calls Tryz.prog 87 #[.slice (some ⟨g, 0, none⟩) 2 2, .string x] W fun r w' => r = .returned (.bool (Lib.containsS [e, f] x)) ∧ w' = W) := fun W x hb => by
  have h := Tryz.slices_Contains_string g 0 2 2 [e, f] x W (by simp) (by decide) (fun j hj => by
    have : j = 0 ∨ j = 1 := by simp at hj; omega
    rcases this with rfl | rfl
    · rw [hb.cell (World.block_lt_of_cell? w _ hg)]; exact hg
    · rw [hb.cell (World.block_lt_of_cell? w _ hg1)]; exact hg1)
  exact h
theorem openBook_two (e f : ByteArray) (g : Nat) (w : World) (hg : w.cell? ⟨g, 0, none⟩ = some (.string e)) (hg1 : w.cell? ⟨g, 1, none⟩ = some (.string f)) :
    Calls Tryz.prog 65 #[.slice (some ⟨g, 0, none⟩) 2 2] w fun r w' => ∃ B cs, w.heap.size ≤ B ∧ r = .returned (.agg cs) ∧ Hid (bkC B (upF 62) = cs) ∧ cs.size = 187 ∧ (∀ v ∈ cs.toList, v.oneCell' = true) ∧ cs[186]? = some (.map (some B)) ∧ Hid (w'.ownsMap Tryz.prog 9 (plainElem (H := Nat) Tryz.prog 3) B 186 (mapD [e, f] (upF 62))) ∧ Below w.heap.size w w' := by
  refine (openBook_any _ 2 2 [e, f] w (con_two e f g w hg hg1)).mono ?_
  intro r w' h
  obtain ⟨B, h1, h2, h3, h4⟩ := h
  exact ⟨B, bkC B (upF 62), h1, h2, rfl, bkC_size _ _, bkC_one _ _, bkC_last _ _, h3, h4⟩
theorem contains_row (l : List (List UInt8)) (x : List UInt8) (a : Option Addr) (c : Nat) (w : World) (h : TRow w a l) (hl : l.length ≤ 4194304) :
    Calls Tryz.prog 87 #[.slice a l.length c, .string (S x)] w fun r w' => r = .returned (.bool (decide (x ∈ l))) ∧ w' = w := by
  by_cases h0 : l.length = 0
  · have := List.eq_nil_of_length_eq_zero h0
    subst this
    have h := Tryz.slices_Contains_string_empty a c (S x) w
    simpa using h
  · obtain ⟨g, rfl, _⟩ := h 0 (by omega)
    have hk := Tryz.slices_Contains_string g 0 l.length c (l.map S) (S x) w (by simp) (by omega) (fun j hj => by
      have hj' : j < l.length := by simpa using hj
      obtain ⟨g', e, hc⟩ := h j hj'
      injection e with e
      injection e with e1
      subst e1
      rw [Nat.zero_add, hc]
      simp [List.getD, hj'])
    have e : Lib.containsS ((l.map S).take l.length) (S x) = decide (x ∈ l) := by
      rw [List.take_of_length_le (by simp), Bool.eq_iff_iff, Lib.containsS_iff]
      simp
      constructor
      · rintro ⟨y, hy, e⟩
        have := S_inj _ _ e
        subst this
        exact hy
      · intro hx
        exact ⟨x, hx, rfl⟩
    rw [e] at hk
    exact hk

end Go.Proofs.YtoomoicjoockjaaGreatDoor

namespace Go.Proofs.YtoomoicjoockjaaGreatDoor
open Go.RowKit
open TextMath (fold lo)
set_option linter.unusedVariables false

/-- A description's type, and its options, its place, whether it is whole. -/
def typD (f : ByteArray) : ByteArray := f.extract 0 (typE f.data.toList).1
def desc (f : ByteArray) : List (List UInt8) × Nat × Bool := if (typE f.data.toList).2 = true then dscE f (f.size + 1) (typE f.data.toList).1 [] else ([], (typE f.data.toList).1, false)
theorem dscE_len (s : ByteArray) : ∀ n e acc, acc.length ≤ e → e ≤ s.size → (dscE s n e acc).1.length ≤ s.size ∧ ((∀ x ∈ acc, x.length ≤ s.size) → ∀ x ∈ (dscE s n e acc).1, x.length ≤ s.size)
  | 0, e, acc, h, he => by simp [dscE]
  | n + 1, e, acc, h, he => by
    unfold dscE
    split
    · rename_i hlt
      split
      · split
        · simp
        · rename_i hne
          have h1 := runE_le isK s.data.toList (e + 1) (by rw [size_l]; omega)
          rw [size_l] at h1
          have ih := dscE_len s n (runE isK s.data.toList (e + 1)) (acc ++ [(s.extract (e + 1) (runE isK s.data.toList (e + 1))).data.toList]) (by simp; omega) h1.2
          refine ⟨ih.1, fun ha => ih.2 ?_⟩
          intro x hx
          rcases List.mem_append.1 hx with hx | hx
          · exact ha x hx
          · rw [List.mem_singleton.1 hx, size_l]
            simp [ByteArray.size_extract]
            omega
      · simp
    · exact ⟨by show acc.length ≤ _; omega, fun ha => ha⟩
theorem desc_len (f : ByteArray) : (desc f).1.length ≤ f.size ∧ ∀ x ∈ (desc f).1, x.length ≤ f.size := by
  unfold desc
  split
  · have h := typE_le f.data.toList
    rw [size_l] at h
    have h2 := dscE_len f (f.size + 1) (typE f.data.toList).1 [] (by simp) h
    exact ⟨h2.1, h2.2 (by simp)⟩
  · simp
def DescQ (W : World) (B : Nat) (X : ByteArray) (r : List (List UInt8) × Nat × Bool) (e : Ending) : Prop :=
  (r.2.2 = true ∧ ∃ v, e = .returned (.tuple #[.string X, v, .int .i64 (r.2.1 : Int), .bool true]) ∧ OwnS W B v r.1) ∨
  (r.2.2 = false ∧ e = .returned (.tuple #[.string ⟨#[]⟩, .slice none 0 0, .int .i64 (r.2.1 : Int), .bool false]))
theorem desc_any (f : ByteArray) (w : World) (hs : f.size ≤ 4194304) : Calls Tryz.prog 64 #[.string f] w fun e w' => DescQ w' w.heap.size (typD f) (desc f) e ∧ Below w.heap.size w w' := readDesc_any f w hs
/-- What Covers answers. -/
def covB (fd fe : ByteArray) : Bool := (desc fd).2.2 && (desc fe).2.2 && holds (desc fe).1 (desc fd).1 && decide ((canN (typD fd)).data.toList ∈ lin (typD fe))
end Go.Proofs.YtoomoicjoockjaaGreatDoor
