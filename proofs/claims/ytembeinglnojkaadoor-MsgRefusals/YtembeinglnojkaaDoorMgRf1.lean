import Derived.Test.YtembeinglnojkaaDoorMgKep
import Derived.Test.YtembeinglnojkaaDoorMgRep
namespace Go.Proofs.YtembeinglnojkaaDoor
open Go.RowKit
set_option linter.unusedVariables false

abbrev Tcr : ByteArray := ⟨#[99, 114, 105, 116, 105, 99, 97, 108, 32, 99, 111, 110, 116, 114, 111, 108]⟩
abbrev Tro : ByteArray := ⟨#[114, 101, 97, 100, 32, 111, 110, 108, 121]⟩
abbrev Tnc : ByteArray := ⟨#[110, 111, 32, 99, 111, 109, 112, 97, 114, 101]⟩
abbrev Tns : ByteArray := ⟨#[110, 111, 32, 115, 117, 99, 104, 32, 111, 112, 101, 114, 97, 116, 105, 111, 110]⟩
abbrev Tv3 : ByteArray := ⟨#[118, 101, 114, 115, 105, 111, 110, 32, 51, 32, 111, 110, 108, 121]⟩
abbrev Tso : ByteArray := ⟨#[115, 105, 109, 112, 108, 101, 32, 111, 110, 108, 121]⟩
abbrev Tao : ByteArray := ⟨#[97, 110, 111, 110, 121, 109, 111, 117, 115, 32, 111, 110, 108, 121]⟩
abbrev Tnw : ByteArray := ⟨#[110, 97, 109, 101, 32, 119, 105, 116, 104, 111, 117, 116, 32, 112, 97, 115, 115, 119, 111, 114, 100]⟩
theorem info_rep : (Tryd.prog.info? 42).map (·.size) = some 10 := by kernel_rfl
theorem info_res : (Tryd.prog.info? 40).map (·.size) = some 3 := by kernel_rfl
theorem store_t {t : TypeId} {n : Nat} (hi : (Tryd.prog.info? t).map (·.size) = some n) {ops : Array Oper} {rest : List Oper} {o : Oper} {a : Act} {w : World} {Q : Exit → Act → World → Prop} (hgd : o.guard = none) (x y : Operand) (ho : o.op = .store t x y)
    (g : Nat) (cells : Array Value) (hx : a.eval x = .pointer (some ⟨g, 0, none⟩)) (hy : a.eval y = .agg cells) {old : Array Value} (hg : Box w g t old) (ho1 : old.size = n) (ho2 : cells.size = n) (h1 : cells.all (·.oneCell') = true)
    (h : wpList Tryd.prog ops Q rest (a.put o.dst undef) (w.setRow g cells)) : wpList Tryd.prog ops Q (o :: rest) a w :=
  wpList_store_row hgd t x y ho g cells hx hy t old hg (by rw [ho2]; exact hi) (by rw [ho1, ho2]) h1 h
theorem ld_rep {W : World} {g : Nat} {cs : Array Value} (h : Box W g 42 cs) (hs : cs.size = 10) : (loadVar 42 ⟨g, 0, none⟩).run Tryd.prog W = .ok (.agg cs) W :=
  run_loadVar_row W g 42 42 _ (0, 0) _ h Tryd.underlying42 rfl (by rw [hs]; exact info_rep)
theorem ld_res {W : World} {g : Nat} {cs : Array Value} (h : Box W g 40 cs) (hs : cs.size = 3) : (loadVar 40 ⟨g, 0, none⟩).run Tryd.prog W = .ok (.agg cs) W :=
  run_loadVar_row W g 40 40 _ (0, 0) _ h Tryd.underlying40 rfl (by rw [hs]; exact info_res)
theorem results_ct {fn : Func} {t u : Tmp} {ty : TypeId} (h : fn.results = #[.cell t ty, .tmp u]) (tmps : Array Value) (P : Program) (w : World) (p : Addr) (x : Value) (hp : tmps.getD t undef = .pointer (some p)) (hl : (loadVar ty p).run P w = .ok x w) :
    (results fn tmps).run P w = .ok (.tuple #[x, tmps.getD u undef]) w := by
  have hp' : tmps[t]?.getD undef = .pointer (some p) := by rw [← hp]; simp
  simp [results, h, hp', asAddr, hl, Result.andThen]

set_option maxRecDepth 100000 in
set_option maxHeartbeats 1000000 in
theorem critical_any (o v : ByteArray) (c h : Bool) (w : World) :
    Calls Tryd.prog 26 #[.agg #[.string o, .bool c, .string v, .bool h]] w fun e w' => e = .returned (.bool c) ∧ Below w.heap.size w w' := by
  obtain ⟨Wa, hWa⟩ : ∃ W, w.alloc (.cells #[.string o, .bool c, .string v, .bool h] 52) = W := ⟨_, rfl⟩
  have pa : Box Wa w.heap.size 52 #[.string o, .bool c, .string v, .bool h] := by rw [← hWa]; exact Box.new _ _ _
  have hB : Hid (Below w.heap.size w Wa) := by rw [← hWa]; exact (Below.refl _ _).alloc (Nat.le_refl _) _
  have c1 : Wa.cell? ⟨w.heap.size, 1, none⟩ = some (.bool c) := (pa.cell 1 (by simp)).1
  clear pa
  go_enter Tryd.func26, Tryd.ntmps26
  go_wp2_with fail
  go_ret
  exact ⟨rfl, hB.out⟩

set_option maxRecDepth 100000 in
set_option maxHeartbeats 2000000 in
theorem indexC_any (xs : List Ctl) (a : Option Addr) (c : Nat) (w : World) (hn : xs.length ≤ 2932031007317) (h : GRow 4 oV w a xs) :
    Calls Tryd.prog 31 #[.slice a xs.length c, .func (.func 26) #[] #[]] w fun e w' => (∃ r : Int, e = .returned (.int .i64 r) ∧ decide (r ≥ 0) = xs.any Ctl.crit) ∧ Below w.heap.size w w' := by
  have h' : Hid (GRow 4 oV w a xs) := h
  clear h
  go_enter Tryd.func31, Tryd.ntmps31
  go_wp2_with fail
  go_loopw [8] (fun iv wr => ∃ (i : Nat), i ≤ xs.length ∧ iv = .int .i64 (i : Int) ∧ Hid ((xs.take i).any Ctl.crit = false ∧ Below w.heap.size w wr)) (fun iv _ => xs.length - (intOf iv).toNat)
  case atStart => exact ⟨0, Nat.zero_le _, rfl, rfl, Below.refl _ _⟩
  case round =>
    obtain ⟨i, hi, rfl, hI⟩ := hrel
    by_cases hlt : i < xs.length
    · obtain ⟨b, off, rfl, h0⟩ := (h'.out.below oV_len hI.out.2) i hlt
      have i0 : (0 : Int) ≤ (i : Int) := Int.natCast_nonneg _
      have i1 : (i : Int) < (xs.length : Int) := Int.ofNat_lt.2 hlt
      have htk : Hid ((xs.take (i + 1)).any Ctl.crit = ((xs.take i).any Ctl.crit || xs[i].crit)) := by
        unfold Hid
        rw [List.take_succ_eq_append_getElem hlt, List.any_append]
        simp
      have hall : Hid (xs[i].crit = true → xs.any Ctl.crit = true) := fun hq => List.any_eq_true.2 ⟨_, List.getElem_mem hlt, hq⟩
      obtain ⟨⟨xo, xc, xv, xh⟩, hx⟩ : ∃ x, xs[i] = x := ⟨_, rfl⟩
      rw [hx] at h0 htk hall
      obtain ⟨c0, c1, c2, c3⟩ : wr.cell? ⟨b, off + i * 4, none⟩ = some (.string (S xo)) ∧ wr.cell? ⟨b, off + i * 4 + 1, none⟩ = some (.bool xc) ∧ wr.cell? ⟨b, off + i * 4 + 2, none⟩ = some (.string (S xv)) ∧ wr.cell? ⟨b, off + i * 4 + 3, none⟩ = some (.bool xh) := ⟨h0 0 (by omega), h0 1 (by omega), h0 2 (by omega), h0 3 (by omega)⟩
      have hK : Hid (Calls Tryd.prog 26 #[.agg #[.string (S xo), .bool xc, .string (S xv), .bool xh]] wr fun e w' => e = .returned (.bool xc) ∧ Below wr.heap.size wr w') := critical_any (S xo) (S xv) xc xh wr
      have hlt' : Hid (i < xs.length) := hlt
      dsimp only at htk hall
      clear hx hlt h0
      cases xc with
      | false =>
        go_wp2_with (go_at_call 26; refine hK.out.mono ?_; rintro e w2 ⟨rfl, hb2⟩)
        go_roundw
        case rel => exact ⟨i + 1, hlt'.out, by simp, by unfold Hid; rw [htk.out, hI.out.1]; exact ⟨rfl, hI.out.2.trans (hb2.mono hI.out.2.size)⟩⟩
        case measure => have := hlt'.out; simp [intOf]; omega
      | true =>
        go_wp2_with (go_at_call 26; refine hK.out.mono ?_; rintro e w2 ⟨rfl, hb2⟩)
        go_ret
        exact ⟨⟨_, rfl, by rw [hall.out (by trivial)]; simp⟩, hI.out.2.trans (hb2.mono hI.out.2.size)⟩
    · have hie : i = xs.length := by omega
      subst hie
      rw [List.take_length] at hI
      have k1 : ¬ (xs.length : Int) < (xs.length : Int) := by omega
      go_wp2_with fail
      go_ret
      exact ⟨⟨_, rfl, by rw [hI.out.1]; rfl⟩, hI.out.2⟩

set_option maxRecDepth 100000 in
set_option maxHeartbeats 1000000 in
theorem containsC_any (xs : List Ctl) (a : Option Addr) (c : Nat) (w : World) (hn : xs.length ≤ 2932031007317) (h : GRow 4 oV w a xs) :
    Calls Tryd.prog 25 #[.slice a xs.length c, .func (.func 26) #[] #[]] w fun e w' => e = .returned (.bool (xs.any Ctl.crit)) ∧ Below w.heap.size w w' := by
  have hF' : Hid (Calls Tryd.prog 31 #[.slice a xs.length c, .func (.func 26) #[] #[]] w fun e w' => (∃ r : Int, e = .returned (.int .i64 r) ∧ decide (r ≥ 0) = xs.any Ctl.crit) ∧ Below w.heap.size w w') := indexC_any xs a c w hn h
  clear h
  go_enter Tryd.func25, Tryd.ntmps25
  go_wp2_with (go_at_call 31; refine hF'.out.mono ?_; rintro e w2 ⟨⟨r, rfl, hr⟩, hb2⟩)
  go_ret
  refine ⟨?_, hb2⟩
  rw [← hr]
  rfl

/-- What a bind is answered. -/
def bindR (ver : Int) (bn : ByteArray) (meth : Int) (pass : ByteArray) : Int × ByteArray := if ver = 3 then (if meth = 0 then (if pass.toList = [] then (if bn.toList = [] then (0, ⟨#[]⟩) else (53, Tnw)) else (49, Tao)) else (7, Tso)) else (2, Tv3)
set_option maxRecDepth 100000 in
set_option maxHeartbeats 2000000 in
theorem bindResult_any (ver : Int) (bn : ByteArray) (meth : Int) (pass mech cred : ByteArray) (hasc : Bool) (w : World) :
    Calls Tryd.prog 27 #[.agg #[.int .i64 ver, .string bn, .int .i64 meth, .string pass, .string mech, .string cred, .bool hasc]] w fun e w' => e = .returned (.agg #[.int .i64 (bindR ver bn meth pass).1, .string ⟨#[]⟩, .string (bindR ver bn meth pass).2]) ∧ Below w.heap.size w w' := by
  obtain ⟨wA, hwA⟩ : ∃ W, w.alloc (.cells #[.int .i64 ver, .string bn, .int .i64 meth, .string pass, .string mech, .string cred, .bool hasc] 25) = W := ⟨_, rfl⟩
  obtain ⟨wB, hwB⟩ : ∃ W, wA.alloc (.cells #[.int .i64 0, .string ⟨#[]⟩, .string ⟨#[]⟩] 40) = W := ⟨_, rfl⟩
  have na : wA.heap.size = w.heap.size + 1 := by rw [← hwA]; simp
  have p : Box wB w.heap.size 25 #[.int .i64 ver, .string bn, .int .i64 meth, .string pass, .string mech, .string cred, .bool hasc] := by rw [← hwB]; exact Box.past (by rw [← hwA]; exact Box.new _ _ _) _
  have q : Box wB (w.heap.size + 1) 40 #[.int .i64 0, .string ⟨#[]⟩, .string ⟨#[]⟩] := by rw [← hwB, ← na]; exact Box.new _ _ _
  have hB : Below w.heap.size w wB := by
    rw [← hwB, ← hwA]
    exact ((Below.refl _ _).alloc (Nat.le_refl _) _).alloc (by simp) _
  obtain ⟨c0, c1, c2, c3⟩ : wB.cell? ⟨w.heap.size, 0, none⟩ = some (.int .i64 ver) ∧ wB.cell? ⟨w.heap.size, 1, none⟩ = some (.string bn) ∧ wB.cell? ⟨w.heap.size, 2, none⟩ = some (.int .i64 meth) ∧ wB.cell? ⟨w.heap.size, 3, none⟩ = some (.string pass) := ⟨(p.cell 0 (by simp)).1, (p.cell 1 (by simp)).1, (p.cell 2 (by simp)).1, (p.cell 3 (by simp)).1⟩
  clear p
  by_cases e1 : ver = 3
  · have f1 : (ver != 3) = false := by simp [e1]
    by_cases e2 : meth = 0
    · have f2 : (meth != 0) = false := by simp [e2]
      by_cases e3 : pass.toList = []
      · have f3 : (pass.toList == []) = true := by simp [e3]
        by_cases e4 : bn.toList = []
        · have f4 : (bn.toList == []) = true := by simp [e4]
          have hE : Hid (bindR ver bn meth pass = (0, ⟨#[]⟩)) := by unfold Hid bindR; simp_all
          have h1c : (#[.int .i64 0, .string ⟨#[]⟩, .string ⟨#[]⟩] : Array Value).all (·.oneCell') = true := by simp [Value.oneCell']
          rw [hE.out]
          clear e1 e2 e3 e4
          go_enter Tryd.func27, Tryd.ntmps27
          go_upto_region 1 with fail
          clear hwA hwB na
          go_wp2_with (refine store_t info_res rfl _ _ rfl (w.heap.size + 1) #[.int .i64 0, .string ⟨#[]⟩, .string ⟨#[]⟩] rfl rfl q rfl rfl h1c ?_)
          exact bodyPost_ret (results_cell _ _ _ rfl _ _ _ _ _ rfl (ld_res (box_row q) rfl)) rfl ⟨rfl, below_row hB (by omega) _⟩
        · have f4 : (bn.toList == []) = false := by simp [e4]
          have hE : Hid (bindR ver bn meth pass = (53, Tnw)) := by unfold Hid bindR; simp_all
          have h1c : (#[.int .i64 53, .string ⟨#[]⟩, .string Tnw] : Array Value).all (·.oneCell') = true := by simp [Value.oneCell']
          rw [hE.out]
          clear e1 e2 e3 e4
          go_enter Tryd.func27, Tryd.ntmps27
          go_upto_region 1 with fail
          clear hwA hwB na
          go_wp2_with (refine store_t info_res rfl _ _ rfl (w.heap.size + 1) #[.int .i64 53, .string ⟨#[]⟩, .string Tnw] rfl rfl q rfl rfl h1c ?_)
          exact bodyPost_ret (results_cell _ _ _ rfl _ _ _ _ _ rfl (ld_res (box_row q) rfl)) rfl ⟨rfl, below_row hB (by omega) _⟩
      · have f3 : (pass.toList == []) = false := by simp [e3]
        have hE : Hid (bindR ver bn meth pass = (49, Tao)) := by unfold Hid bindR; simp_all
        have h1c : (#[.int .i64 49, .string ⟨#[]⟩, .string Tao] : Array Value).all (·.oneCell') = true := by simp [Value.oneCell']
        rw [hE.out]
        clear e1 e2 e3
        go_enter Tryd.func27, Tryd.ntmps27
        go_upto_region 1 with fail
        clear hwA hwB na
        go_wp2_with (refine store_t info_res rfl _ _ rfl (w.heap.size + 1) #[.int .i64 49, .string ⟨#[]⟩, .string Tao] rfl rfl q rfl rfl h1c ?_)
        exact bodyPost_ret (results_cell _ _ _ rfl _ _ _ _ _ rfl (ld_res (box_row q) rfl)) rfl ⟨rfl, below_row hB (by omega) _⟩
    · have f2 : (meth != 0) = true := by simp [e2]
      have hE : Hid (bindR ver bn meth pass = (7, Tso)) := by unfold Hid bindR; simp_all
      have h1c : (#[.int .i64 7, .string ⟨#[]⟩, .string Tso] : Array Value).all (·.oneCell') = true := by simp [Value.oneCell']
      rw [hE.out]
      clear e1 e2
      go_enter Tryd.func27, Tryd.ntmps27
      go_upto_region 1 with fail
      clear hwA hwB na
      go_wp2_with (refine store_t info_res rfl _ _ rfl (w.heap.size + 1) #[.int .i64 7, .string ⟨#[]⟩, .string Tso] rfl rfl q rfl rfl h1c ?_)
      exact bodyPost_ret (results_cell _ _ _ rfl _ _ _ _ _ rfl (ld_res (box_row q) rfl)) rfl ⟨rfl, below_row hB (by omega) _⟩
  · have f1 : (ver != 3) = true := by simp [e1]
    have hE : Hid (bindR ver bn meth pass = (2, Tv3)) := by unfold Hid bindR; simp_all
    have h1c : (#[.int .i64 2, .string ⟨#[]⟩, .string Tv3] : Array Value).all (·.oneCell') = true := by simp [Value.oneCell']
    rw [hE.out]
    clear e1
    go_enter Tryd.func27, Tryd.ntmps27
    go_upto_region 1 with fail
    clear hwA hwB na
    go_wp2_with (refine store_t info_res rfl _ _ rfl (w.heap.size + 1) #[.int .i64 2, .string ⟨#[]⟩, .string Tv3] rfl rfl q rfl rfl h1c ?_)
    exact bodyPost_ret (results_cell _ _ _ rfl _ _ _ _ _ rfl (ld_res (box_row q) rfl)) rfl ⟨rfl, below_row hB (by omega) _⟩

/-- Is a request of this kind answered? -/
def ansd (k : Int) : Bool := decide (k = 0 ∨ (2 ≤ k ∧ k ≤ 7) ∨ k = 9)
/-- By a reply of which kind? -/
def rkd (k : Int) : Int := if k = 9 then 8 else if ansd k = true then k else 0
set_option maxRecDepth 100000 in
set_option maxHeartbeats 1000000 in
theorem answerTo_any (k : Int) (w : World) :
    Calls Tryd.prog 17 #[.int .i64 k] w fun e w' => e = .returned (.tuple #[.int .i64 (rkd k), .bool (ansd k)]) ∧ w = w' := by
  by_cases h : ansd k = true
  · have h2 := of_decide_eq_true h
    have : k = 0 ∨ k = 2 ∨ k = 3 ∨ k = 4 ∨ k = 5 ∨ k = 6 ∨ k = 7 ∨ k = 9 := by omega
    clear h h2
    rcases this with rfl | rfl | rfl | rfl | rfl | rfl | rfl | rfl
    all_goals
      go_enter Tryd.func17, Tryd.ntmps17
      go_wp2_with fail
      go_ret2
      exact ⟨rfl, rfl⟩
  · have h2 : ¬ (k = 0 ∨ (2 ≤ k ∧ k ≤ 7) ∨ k = 9) := fun e => h (decide_eq_true e)
    have e0 : (k == 0) = false := by simp; omega
    have e2 : (k == 2) = false := by simp; omega
    have e3 : (k == 3) = false := by simp; omega
    have e4 : (k == 4) = false := by simp; omega
    have e5 : (k == 5) = false := by simp; omega
    have e6 : (k == 6) = false := by simp; omega
    have e7 : (k == 7) = false := by simp; omega
    have e9 : (k == 9) = false := by simp; omega
    have h3 : Hid (ansd k = false ∧ rkd k = 0) := ⟨Bool.eq_false_iff.2 h, by unfold rkd; rw [if_neg (by omega), if_neg h]⟩
    clear h h2
    rw [h3.out.1, h3.out.2]
    go_enter Tryd.func17, Tryd.ntmps17
    go_wp2_with fail
    go_ret2
    exact ⟨rfl, rfl⟩
end Go.Proofs.YtembeinglnojkaaDoor
