import Derived.OrdersHeld
import Derived.OrdersIn
import Derived.RangeFuncCalls
import Derived.Deep.RegionHeld3
import Derived.WalkKit
import Derived.Test.YtoiilplnhecokaaDoorKeN
import Derived.Test.YtoiilplnhecokaaDoorFold
import Derived.Test.YtoiilplnhecokaaDoorDuOwn
import Derived.Test.YtoiilplnhecokaaDoorBytes
import Derived.Lib.AppendZeros
import Derived.Test.YtoiilplnhecokaaDoorAtFind
import Derived.Test.YtoiilplnhecokaaDoorKeM
import Derived.Test.YtoiilplnhecokaaDoorDnRow
import Derived.Test.YtoiilplnhecokaaDoorDuB
import Derived.BigQuiet
import Derived.Test.YtoiilplnhecokaaDoorKeW
namespace Go.Proofs.YtoiilplnhecokaaDoor
namespace RgN
open Go.RowKit
set_option linter.unusedVariables false

/-- A post that is met by a plain end alone. -/
def Only (Q : Exit → Act → World → Prop) (e : Exit) (a : Act) (w : World) : Prop := e = .normal ∧ Q .normal a w
theorem only_post {Q : Exit → Act → World → Prop} (e : Exit) (a : Act) (w : World) (h : Only Q e a w) : Q e a w := by
  obtain ⟨rfl, h⟩ := h
  exact h
theorem only_lets {Q : Exit → Act → World → Prop} (h : LetsOut (Only Q)) : False := by
  obtain ⟨a, w, h, _⟩ := h
  cases h
def plainOps (ops : Array Oper) : Bool := ops.toList.all (fun o => match o.op with | .defer _ => false | _ => true)
theorem plain_at {ops : Array Oper} (h : plainOps ops = true) {i : Nat} {o : Oper} (ho : ops[i]? = some o) (c : Call) : o.op ≠ .defer c := by
  intro e
  have hm : o ∈ ops.toList := by
    have := Array.mem_of_getElem? ho
    simpa using this
  have := List.all_eq_true.1 h o hm
  rw [e] at this
  cases this

variable {P : Program} {ops : Array Oper} {Q : Exit → Act → World → Prop} {md : Region.Mode} {S : World → Prop} {N : Nat → Bool} {l n : Nat}

theorem op_in {i : Nat} {K : Act → World → Prop} {a : Act} {w : World} (hp : plainOps ops = true) (h : wpOp P ops (Only Q) i K a w) : wpOpIn (Fence.wide.inRound l) n P ops (Only Q) i K a w := by
  unfold wpOp at h
  unfold wpOpIn
  cases ho : ops[i]? with
  | none =>
    simp only [ho] at h ⊢
    exact h
  | some o =>
    simp only [ho] at h ⊢
    by_cases hw : Region.wanted o (yielded ops a.tmps) = true
    · simp only [hw, if_true] at h ⊢
      rcases h with h | ⟨_, hl⟩
      case inr => exact (only_lets hl).elim
      unfold Oper.wp at h
      unfold Oper.wpIn
      refine ⟨fun _ _ => trivial, ?_⟩
      rw [Oper.semAt_eq _ _ _ (plain_at hp ho)]
      generalize (execOp a.eval o).run P w = r at *
      cases r with
      | ok x w' =>
        cases x <;> simp only [Oper.upon, Oper.uponIn] at h ⊢
        case value u => exact h
        case skip => exact h
        case defer d => exact h
        case enter f args =>
          refine ⟨fun h => (by cases h), (CallsIn.inRound l (callsIn_wide.2 h)).mono ?_⟩
          intro e w'' he
          cases e <;> exact he
        case row row args => exact ⟨fun h => (by cases h), fun c cs _ => let ⟨v, w', r, s⟩ := h c cs; ⟨v, w', r, stepsIn_wide.2 s⟩⟩
      | halt x w' => cases x <;> simp only [Oper.upon, Oper.uponIn] at h ⊢ <;> exact h
    · simp only [hw] at h ⊢
      exact ⟨fun _ _ => trivial, h⟩
theorem any_in (hp : plainOps ops = true) : ∀ (fuel : Nat) (listed : Array Bool) (a : Act) (w : World), wpAny P md ops (Only Q) fuel listed a w → wpAnyIn (Fence.wide.inRound l) n P md ops (Only Q) fuel listed a w
  | 0, _, _, _, h => h
  | fuel + 1, _, _, _, h => ⟨h.1, fun i hi => wpOpIn_mono (fun a' w' => any_in hp fuel _ a' w') (op_in hp (h.2 i hi))⟩

/-- Whatever order is picked, and S holds behind every operation that N names. -/
def wpAnyN (P : Program) (md : Region.Mode) (ops : Array Oper) (Q : Exit → Act → World → Prop) (N : Nat → Bool) (S : World → Prop) : Nat → Array Bool → Act → World → Prop
  | 0, listed, a, w => Region.ready md ops listed = [] ∧ Q .normal a w
  | fuel + 1, listed, a, w =>
    (Region.ready md ops listed = [] → Q .normal a w) ∧
    ∀ i ∈ Region.ready md ops listed, wpOp P ops Q i (fun a' w' => (N i = true → S w') ∧ wpAnyN P md ops Q N S fuel (listed.setIfInBounds i true) a' w') a w
theorem any_of_n : ∀ (fuel : Nat) (listed : Array Bool) (a : Act) (w : World), wpAnyN P md ops Q N S fuel listed a w → wpAny P md ops Q fuel listed a w
  | 0, _, _, _, h => h
  | fuel + 1, _, _, _, h => ⟨h.1, fun i hi => wpOp_mono (fun a' w' h' => any_of_n fuel _ a' w' h'.2) (h.2 i hi)⟩
/-- Whatever may come ahead of i is named by N. -/
def safe (md : Region.Mode) (ops : Array Oper) (N : Nat → Bool) (i : Nat) : Nat → Array Bool → Bool
  | 0, _ => true
  | fuel + 1, listed => (Region.ready md ops listed).all (fun j => j == i || (N j && safe md ops N i fuel (listed.setIfInBounds j true)))
theorem safe_all (i : Nat) : ∀ (fuel : Nat) (listed : Array Bool), safe md ops (fun _ => true) i fuel listed = true
  | 0, _ => rfl
  | fuel + 1, listed => by
    unfold safe
    rw [List.all_eq_true]
    intro j _
    rw [safe_all i fuel]
    simp
theorem n_first {i : Nat} {oi : Oper} {v : Value} (hi : ops[i]? = some oi) (hsel : ∀ (j : Nat) (o : Oper) cs b, ops[j]? = some o → o.op ≠ .select cs b)
    (hQ : ∀ c a w, Q (.panic c) (a.put oi.dst v) w → Q (.panic c) a w) :
    ∀ (fuel : Nat) (listed : Array Bool) (a : Act) (w : World),
      (∀ j oj, ops[j]? = some oj → j ≠ i → listed.getD j true = false → (∀ e ∈ oj.after, Region.binds md e = true → e.on ≠ i) → oi.apart ops oj = true) →
      safe md ops N i fuel listed = true → i ∈ Region.ready md ops listed → YieldsIf P ops S oi v a → S w →
      wpAnyN P md ops Q N S fuel (listed.setIfInBounds i true) (a.put oi.dst v) w → wpAnyN P md ops Q N S (fuel + 1) listed a w := by
  intro fuel
  induction fuel with
  | zero =>
    intro listed a w _ _ hr hy hS H
    refine ⟨fun h => (by rw [h] at hr; cases hr), fun j hj => ?_⟩
    by_cases hji : j = i
    · subst hji; exact hy.wpOp hi hS ⟨fun _ => hS, H⟩
    · have := ready_mono hj hji
      rw [H.1] at this
      cases this
  | succ fuel ih =>
    intro listed a w hfree hsf hr hy hS H
    refine ⟨fun h => (by rw [h] at hr; cases hr), fun j hj => ?_⟩
    by_cases hji : j = i
    · subst hji; exact hy.wpOp hi hS ⟨fun _ => hS, H⟩
    · have h1 := H.2 j (ready_mono hj hji)
      have hsj := List.all_eq_true.1 hsf j hj
      rw [Bool.or_eq_true, Bool.and_eq_true] at hsj
      have hsj2 : N j = true ∧ safe md ops N i fuel (listed.setIfInBounds j true) = true := by
        rcases hsj with q | q
        · exact absurd (by simpa using q) hji
        · exact q
      obtain ⟨hjun, oj, hoj, hall⟩ := mem_ready.1 hj
      have hnot : ∀ e ∈ oj.after, Region.binds md e = true → e.on ≠ i := fun e he hb heq => by
        have h1 := hall e he hb
        have h0 := (mem_ready.1 hr).1
        rw [heq] at h1
        rcases Nat.lt_or_ge i listed.size with h' | h'
        · simp [h'] at h0 h1; rw [h0] at h1; cases h1
        · simp [Array.getElem?_eq_none h'] at h1
      have h2 := wpOp_putIf hoj (hfree j oj hoj hji hjun hnot) (fun cs b => hsel i oi cs b hi) (fun cs b => hsel j oj cs b hoj) hQ hy h1
      have hfree' : ∀ k ok, ops[k]? = some ok → k ≠ i → (listed.setIfInBounds j true).getD k true = false →
          (∀ e ∈ ok.after, Region.binds md e = true → e.on ≠ i) → oi.apart ops ok = true := fun k ok hk hki hun hno => by
        refine hfree k ok hk hki ?_ hno
        by_cases hjk : j = k
        · subst hjk; exact hjun
        · rw [getD_set_ne true hjk] at hun; exact hun
      refine wpOp_mono (fun a' w' h3 => ⟨h3.2.1, ih (listed.setIfInBounds j true) a' w' hfree' hsj2.2 (ready_mono hr (Ne.symm hji)) h3.1 (h3.2.1 hsj2.1) ?_⟩) h2
      rw [Array.setIfInBounds_comm _ _ hji]
      exact h3.2.2
/-- Number i is taken first: it yields v in every world that meets S. -/
theorem n_take (i : Nat) {oi : Oper} (v : Value) {fuel : Nat} {listed : Array Bool} {a : Act} {w : World} (hi : ops[i]? = some oi)
    (hs : Region.noSelect ops = true) (hf : Region.free md ops listed i = true) (hr : (Region.ready md ops listed).contains i = true) (hsf : safe md ops N i fuel listed = true)
    (hw : Region.wanted oi (yielded ops a.tmps) = true) (hS : S w) (hy : ∀ w, S w → (execOp a.eval oi).run P w = .ok (.value v) w)
    (h : wpAnyN P md ops (Only Q) N S fuel (listed.setIfInBounds i true) (a.put oi.dst v) w) : wpAnyN P md ops (Only Q) N S (fuel + 1) listed a w :=
  n_first hi (Region.noSelect_spec hs) (fun _ _ _ h => by cases h.1) fuel listed a w (Region.free_spec hi hf) hsf (by simpa using hr) (Or.inl ⟨hw, hy⟩) hS h
/-- The same of an operation that yields in whatever world. -/
theorem n_firstW {i : Nat} {oi : Oper} {v : Value} (hi : ops[i]? = some oi) (hsel : ∀ (j : Nat) (o : Oper) cs b, ops[j]? = some o → o.op ≠ .select cs b)
    (hQ : ∀ c a w, Q (.panic c) (a.put oi.dst v) w → Q (.panic c) a w):
    ∀ (fuel : Nat) (listed : Array Bool) (a : Act) (w : World),
      (∀ j oj, ops[j]? = some oj → j ≠ i → listed.getD j true = false → (∀ e ∈ oj.after, Region.binds md e = true → e.on ≠ i) → oi.apart ops oj = true) →
      i ∈ Region.ready md ops listed → Yields P ops oi v a → N i = false →
      wpAnyN P md ops Q N S fuel (listed.setIfInBounds i true) (a.put oi.dst v) w → wpAnyN P md ops Q N S (fuel + 1) listed a w := by
  intro fuel
  induction fuel with
  | zero =>
    intro listed a w _ hr hy hN H
    refine ⟨fun h => (by rw [h] at hr; cases hr), fun j hj => ?_⟩
    by_cases hji : j = i
    · subst hji; exact hy.wpOp hi ⟨fun h => (by rw [hN] at h; cases h), H⟩
    · have := ready_mono hj hji
      rw [H.1] at this
      cases this
  | succ fuel ih =>
    intro listed a w hfree hr hy hN H
    refine ⟨fun h => (by rw [h] at hr; cases hr), fun j hj => ?_⟩
    by_cases hji : j = i
    · subst hji; exact hy.wpOp hi ⟨fun h => (by rw [hN] at h; cases h), H⟩
    · have h1 := H.2 j (ready_mono hj hji)
      obtain ⟨hjun, oj, hoj, hall⟩ := mem_ready.1 hj
      have hnot : ∀ e ∈ oj.after, Region.binds md e = true → e.on ≠ i := fun e he hb heq => by
        have h1 := hall e he hb
        have h0 := (mem_ready.1 hr).1
        rw [heq] at h1
        rcases Nat.lt_or_ge i listed.size with h' | h'
        · simp [h'] at h0 h1; rw [h0] at h1; cases h1
        · simp [Array.getElem?_eq_none h'] at h1
      have h2 := wpOp_put hoj (hfree j oj hoj hji hjun hnot) (fun cs b => hsel i oi cs b hi) (fun cs b => hsel j oj cs b hoj) hQ hy h1
      have hfree' : ∀ k ok, ops[k]? = some ok → k ≠ i → (listed.setIfInBounds j true).getD k true = false →
          (∀ e ∈ ok.after, Region.binds md e = true → e.on ≠ i) → oi.apart ops ok = true := fun k ok hk hki hun hno => by
        refine hfree k ok hk hki ?_ hno
        by_cases hjk : j = k
        · subst hjk; exact hjun
        · rw [getD_set_ne true hjk] at hun; exact hun
      refine wpOp_mono (fun a' w' h3 => ⟨h3.2.1, ih (listed.setIfInBounds j true) a' w' hfree' (ready_mono hr (Ne.symm hji)) h3.1 hN ?_⟩) h2
      rw [Array.setIfInBounds_comm _ _ hji]
      exact h3.2.2
theorem n_takeW (i : Nat) {oi : Oper} (v : Value) {fuel : Nat} {listed : Array Bool} {a : Act} {w : World} (hi : ops[i]? = some oi)
    (hs : Region.noSelect ops = true) (hf : Region.free md ops listed i = true) (hr : (Region.ready md ops listed).contains i = true) (hN : N i = false)
    (hw : Region.wanted oi (yielded ops a.tmps) = true) (hy : ∀ w, (execOp a.eval oi).run P w = .ok (.value v) w)
    (h : wpAnyN P md ops (Only Q) N S fuel (listed.setIfInBounds i true) (a.put oi.dst v) w) : wpAnyN P md ops (Only Q) N S (fuel + 1) listed a w :=
  n_firstW hi (Region.noSelect_spec hs) (fun _ _ _ h => by cases h.1) fuel listed a w (Region.free_spec hi hf) (by simpa using hr) (Or.inl ⟨hw, hy⟩) hN h
/-- One alone may come up. -/
theorem n_one (i : Nat) {o : Oper} {fuel : Nat} {listed : Array Bool} {a : Act} {w : World} (hr : Region.ready md ops listed = [i]) (ho : ops[i]? = some o)
    (h : ∀ K : Act → World → Prop, Shut (∀ a' w', (N i = true → S w') → wpAnyN P md ops (Only Q) N S fuel (listed.setIfInBounds i true) a' w' → K a' w') → if Region.wanted o (yielded ops a.tmps) = true then Oper.wp P o a w K (Only Q) else K (a.put o.dst undef) w) :
    wpAnyN P md ops (Only Q) N S (fuel + 1) listed a w := by
  refine ⟨fun h0 => (by rw [hr] at h0; cases h0), fun j hj => ?_⟩
  rw [hr] at hj
  simp at hj
  subst hj
  exact wpOp_step ho (fun K' hK => h K' (fun a w h1 h2 => hK a w ⟨h1, h2⟩))
theorem n_done {listed : Array Bool} {a : Act} {w : World} (hr : Region.ready md ops listed = []) (h : Q .normal a w) (fuel : Nat) : wpAnyN P md ops (Only Q) N S fuel listed a w :=
  match fuel with
  | 0 => ⟨hr, rfl, h⟩
  | _ + 1 => ⟨fun _ => ⟨rfl, h⟩, by rw [hr]; simp⟩
/-- A region that draws, within a round. -/
theorem n_region (N : Nat → Bool) (S : World → Prop) {id : Nat} {a : Act} {w : World} (hm : P.follows .mixedOrders = true) (hp : plainOps ops = true)
    (h : wpAnyN P .any ops (Only Q) N S ops.size (Array.replicate ops.size false) a w.drew) : (Code.region id ops true).wpIn (Fence.wide.inRound l) n P Q a w :=
  wpIn_mono (wpIn_region_any hm (any_in hp _ _ _ _ (any_of_n _ _ _ _ h))) only_post
end RgN
end Go.Proofs.YtoiilplnhecokaaDoor

namespace Go.Proofs.YtoiilplnhecokaaDoor
namespace Du
open Go.RowKit
theorem regionP {P : Program} {ops : Array Oper} {Q : Exit → Act → World → Prop} (N : Nat → Bool) (S : World → Prop) {id : Nat} {a : Act} {w : World} (hm : P.follows .mixedOrders = true)
    (h : RgN.wpAnyN P .any ops (RgN.Only Q) N S ops.size (Array.replicate ops.size false) a w.drew) : (Code.region id ops true).wp P Q a w :=
  Code.wp_mono RgN.only_post (wp_region_any hm (RgN.any_of_n _ _ _ _ h))
end Du
end Go.Proofs.YtoiilplnhecokaaDoor

namespace Go.Proofs.YtoiilplnhecokaaDoor
namespace Bl
open TextMath (fold check lo seqLen ld wi u bl sqA sqB normal normal_eq check_good check_bad check_ind check_app_good ld_cases seqLen_le)
open Ke (utf cn tyOk tyC tyR OkI OkP OkD keyTx keys Alike key_same PR)
set_option linter.unusedVariables false

def Low (f : UInt8 → UInt8) : Prop := f 0 = 0 ∧ ∀ c, f c = c ∨ (c.toNat < 128 ∧ (f c).toNat < 128)
theorem low_of (f : UInt8 → UInt8) (h : ∀ n : Fin 256, f (UInt8.ofNat n.val) = UInt8.ofNat n.val ∨ ((UInt8.ofNat n.val).toNat < 128 ∧ (f (UInt8.ofNat n.val)).toNat < 128)) (h0 : f 0 = 0) : Low f := ⟨h0, fun c => by
  have := h ⟨c.toNat, c.toNat_lt⟩
  simpa using this⟩
theorem low_lo : Low lo := low_of lo (by decide +kernel) rfl
theorem ld_low (b : Int) (h : (ld b).1 = 4 ∨ (ld b).1 = 3 ∨ (ld b).1 = 2) : 128 ≤ (ld b).2.1 := by
  revert h
  unfold ld
  repeat' split
  all_goals simp
theorem wi_same {f : UInt8 → UInt8} (hf : Low f) (c : UInt8) (lo hi : Int) (h : 128 ≤ lo) : wi (u (f c)) lo hi = wi (u c) lo hi := by
  rcases hf.2 c with e | ⟨h1, h2⟩
  · rw [e]
  · unfold wi u
    rw [Bool.eq_iff_iff]
    simp only [Bool.and_eq_true, decide_eq_true_eq]
    constructor
    · intro h; omega
    · intro h; omega
theorem ld_same {f : UInt8 → UInt8} (hf : Low f) (c : UInt8) : ld (u (f c)) = ld (u c) := by
  rcases hf.2 c with e | ⟨h1, h2⟩
  · rw [e]
  · unfold ld u
    rw [if_pos (by omega), if_pos (by omega)]
theorem getD_map {f : UInt8 → UInt8} (hf : Low f) (l : List UInt8) (i : Nat) : (l.map f).getD i 0 = f (l.getD i 0) := by
  simp only [List.getD, List.getElem?_map]
  cases l[i]? with
  | none => exact hf.1.symm
  | some c => rfl
theorem seq_map {f : UInt8 → UInt8} (hf : Low f) (l : List UInt8) : seqLen (l.map f) = seqLen l := by
  unfold seqLen
  simp only [List.length_map, getD_map hf, ld_same hf, wi_same hf _ 128 191 (by decide)]
  have e : (((ld (u (l.getD 0 0))).1 = 4 ∨ (ld (u (l.getD 0 0))).1 = 3 ∨ (ld (u (l.getD 0 0))).1 = 2) ∧ wi (u (f (l.getD 1 0))) (ld (u (l.getD 0 0))).2.1 (ld (u (l.getD 0 0))).2.2 = false) ↔ (((ld (u (l.getD 0 0))).1 = 4 ∨ (ld (u (l.getD 0 0))).1 = 3 ∨ (ld (u (l.getD 0 0))).1 = 2) ∧ wi (u (l.getD 1 0)) (ld (u (l.getD 0 0))).2.1 (ld (u (l.getD 0 0))).2.2 = false) :=
    and_congr_right fun h => by rw [wi_same hf _ _ _ (ld_low _ h)]
  simp only [e]
theorem check_map {f : UInt8 → UInt8} (hf : Low f) (l : List UInt8) : check (l.map f) = check l := by
  refine TextMath.check_ind (M := fun l => check (l.map f) = check l) ?_ ?_ ?_ l.length l (Nat.le_refl _)
  · rfl
  · intro l h0 h1
    rw [TextMath.check_bad l h0 h1, TextMath.check_bad (l.map f) (by rw [List.length_map]; exact h0) (by rw [seq_map hf]; exact h1)]
  · intro l h1 ih
    rw [TextMath.check_good l h1, TextMath.check_good (l.map f) (by rw [seq_map hf]; exact h1), seq_map hf, ← List.map_drop, ih]
theorem check_fold (l : List UInt8) : check (fold l) = check l := check_map low_lo l
theorem fold_same_check {a b : List UInt8} (h : fold a = fold b) : check a = check b := by rw [← check_fold a, h, check_fold b]
theorem fold_same_normal {a b : List UInt8} (h : fold a = fold b) : normal a = normal b := by rw [normal_eq, normal_eq, h]
theorem fold_same_ty {a b : List UInt8} (h : fold a = fold b) : tyR a = tyR b := by unfold tyR; rw [h]
theorem lo_flip (c : UInt8) (h : (97 ≤ c.toNat ∧ c.toNat ≤ 122) ∨ (65 ≤ c.toNat ∧ c.toNat ≤ 90)) : lo (c ^^^ 32) = lo c := by
  have key : ∀ n : Fin 256, ((97 ≤ (UInt8.ofNat n.val).toNat ∧ (UInt8.ofNat n.val).toNat ≤ 122) ∨ (65 ≤ (UInt8.ofNat n.val).toNat ∧ (UInt8.ofNat n.val).toNat ≤ 90)) → lo ((UInt8.ofNat n.val) ^^^ 32) = lo (UInt8.ofNat n.val) := by decide +kernel
  have h2 := key ⟨c.toNat, c.toNat_lt⟩
  rw [UInt8.ofNat_toNat] at h2
  exact h2 h
/-- A blank, and what may be put behind it. -/
def bk (f : Bool) (c : UInt8) : List UInt8 := if c = 32 ∧ f = true then [32, 10, 32] else [c]
theorem sqB_bk (f : Bool) : ∀ (l : List UInt8) (p : Bool), sqB p (l.flatMap (bk f)) = sqB p l
  | [], p => rfl
  | c :: l, p => by
    have ih := sqB_bk f l
    rw [List.flatMap_cons]
    unfold bk
    split
    · rename_i h
      obtain ⟨rfl, _⟩ := h
      show sqB p (32 :: 10 :: 32 :: (l.flatMap (bk f))) = sqB p (32 :: l)
      simp only [sqB]
      have b1 : bl 32 = true := by decide
      have b2 : bl 10 = true := by decide
      simp [b1, b2, ih]
    · show sqB p (c :: (l.flatMap (bk f))) = sqB p (c :: l)
      simp only [sqB]
      simp [ih]
theorem sqA_bk (f : Bool) : ∀ (l : List UInt8), sqA (l.flatMap (bk f)) = sqA l
  | [] => rfl
  | c :: l => by
    have ih := sqA_bk f l
    have ih2 := sqB_bk f l
    rw [List.flatMap_cons]
    unfold bk
    split
    · rename_i h
      obtain ⟨rfl, _⟩ := h
      show sqA (32 :: 10 :: 32 :: (l.flatMap (bk f))) = sqA (32 :: l)
      simp only [sqA]
      have b1 : bl 32 = true := by decide
      have b2 : bl 10 = true := by decide
      simp [b1, b2, ih]
    · show sqA (c :: (l.flatMap (bk f))) = sqA (c :: l)
      simp only [sqA]
      simp [ih, ih2]
theorem fold_bk (f : Bool) (l : List UInt8) : fold (l.flatMap (bk f)) = (fold l).flatMap (bk f) := by
  induction l with
  | nil => rfl
  | cons c l ih =>
    rw [List.flatMap_cons, TextMath.fold_app, ih, show fold (c :: l) = lo c :: fold l from rfl, List.flatMap_cons]
    congr 1
    unfold bk
    by_cases h : c = 32
    · subst h
      have : lo 32 = 32 := by decide
      rw [this]
      cases f <;> rfl
    · have h2 : lo c ≠ 32 := by
        intro e
        have hb : bl (lo c) = true := by rw [e]; decide
        have : (lo c).toNat = 32 := by rw [e]; rfl
        rw [TextMath.lo_toNat] at this
        split at this
        · omega
        · exact h (UInt8.toNat_inj.1 this)
      simp [h, h2, fold]
theorem sq_left (c : UInt8) (l : List UInt8) (h : bl c = true) : sqA (c :: l) = sqA l := by
  simp [sqA, h]
theorem sq_right (l : List UInt8) (c : UInt8) (h : bl c = true) : sqA (l ++ [c]) = sqA l := by
  rw [TextMath.sqA_app l [] c h]
  unfold TextMath.join
  simp [sqA]
/-- A value with other blanks. -/
def blk (b1 b2 b3 : Bool) (v : List UInt8) : List UInt8 := (if b1 = true then [9] else []) ++ v.flatMap (bk b2) ++ (if b3 = true then [32, 13] else [])
theorem normal_blk (b1 b2 b3 : Bool) (v : List UInt8) : normal (blk b1 b2 b3 v) = normal v := by
  have e3 : ∀ l : List UInt8, sqA (l ++ [32, 13]) = sqA l := fun l => by
    rw [show l ++ [32, 13] = (l ++ [32]) ++ [13] from by simp, sq_right _ 13 (by decide), sq_right _ 32 (by decide)]
  have f9 : fold [9] = [9] := by decide
  have f13 : fold [32, 13] = [32, 13] := by decide
  rw [normal_eq, normal_eq]
  unfold blk
  rw [TextMath.fold_app, TextMath.fold_app, fold_bk]
  cases b1 <;> cases b3
  · simp [fold, sqA_bk]
  · rw [if_pos rfl, f13, e3]
    simp [fold, sqA_bk]
  · rw [if_pos rfl, f9]
    simp only [Bool.false_eq_true, if_false]
    rw [show fold [] = [] from rfl, List.append_nil, List.singleton_append, sq_left _ _ (by decide), sqA_bk]
  · rw [if_pos rfl, if_pos rfl, f9, f13, e3, List.singleton_append, sq_left _ _ (by decide), sqA_bk]
theorem blk_len (b1 b2 b3 : Bool) (v : List UInt8) : (blk b1 b2 b3 v).length ≤ 3 * v.length + 3 := by
  have h : ∀ l : List UInt8, (l.flatMap (bk b2)).length ≤ 3 * l.length := by
    intro l
    induction l with
    | nil => simp
    | cons c l ih =>
      rw [List.flatMap_cons, List.length_append, List.length_cons]
      have : (bk b2 c).length ≤ 3 := by unfold bk; split <;> simp
      omega
  have := h v
  unfold blk
  rw [List.length_append, List.length_append]
  generalize (v.flatMap (bk b2)).length = m at *
  cases b1 <;> cases b3 <;> simp <;> omega
theorem ld_hi (b : Int) (h : (ld b).1 = 4 ∨ (ld b).1 = 3 ∨ (ld b).1 = 2) : 128 ≤ b := by
  unfold ld at h
  by_cases h0 : b ≤ 127
  · rw [if_pos h0] at h
    simp at h
  · omega
theorem seq_high (l : List UInt8) (h2 : 2 ≤ seqLen l) : ∀ i, i < seqLen l → 128 ≤ (l.getD i 0).toNat := by
  have e := rfl (a := seqLen l)
  conv at e => rhs; unfold seqLen
  dsimp only at e
  split at e
  · omega
  · split at e
    · omega
    · split at e
      · omega
      · split at e
        · omega
        · rename_i a1 a2 a3 a4
          have hn : (ld (u (l.getD 0 0))).1 = 4 ∨ (ld (u (l.getD 0 0))).1 = 3 ∨ (ld (u (l.getD 0 0))).1 = 2 := by
            rcases ld_cases (u (l.getD 0 0)) with h | h | h | h | h <;> rw [h] at e <;> simp at e <;> omega
          have q0 := ld_hi _ hn
          have q1 : 128 ≤ (l.getD 1 0).toNat := by
            have hw : wi (u (l.getD 1 0)) (ld (u (l.getD 0 0))).2.1 (ld (u (l.getD 0 0))).2.2 = true := by
              cases hh : wi (u (l.getD 1 0)) (ld (u (l.getD 0 0))).2.1 (ld (u (l.getD 0 0))).2.2 with
              | true => rfl
              | false => exact absurd ⟨hn, hh⟩ a4
            have hl := ld_low _ hn
            unfold wi at hw
            rw [Bool.and_eq_true, decide_eq_true_eq] at hw
            have : (u (l.getD 1 0)) = ((l.getD 1 0).toNat : Int) := rfl
            omega
          have q2 : ((ld (u (l.getD 0 0))).1 = 4 ∨ (ld (u (l.getD 0 0))).1 = 3) → 128 ≤ (l.getD 2 0).toNat := fun hh => by
            have hw : wi (u (l.getD 2 0)) 128 191 = true := by
              cases hx : wi (u (l.getD 2 0)) 128 191 with
              | true => rfl
              | false => exact absurd ⟨hh, hx⟩ a3
            unfold wi at hw
            rw [Bool.and_eq_true, decide_eq_true_eq] at hw
            have : (u (l.getD 2 0)) = ((l.getD 2 0).toNat : Int) := rfl
            omega
          have q3 : (ld (u (l.getD 0 0))).1 = 4 → 128 ≤ (l.getD 3 0).toNat := fun hh => by
            have hw : wi (u (l.getD 3 0)) 128 191 = true := by
              cases hx : wi (u (l.getD 3 0)) 128 191 with
              | true => rfl
              | false => exact absurd ⟨hh, hx⟩ a2
            unfold wi at hw
            rw [Bool.and_eq_true, decide_eq_true_eq] at hw
            have : (u (l.getD 3 0)) = ((l.getD 3 0).toNat : Int) := rfl
            omega
          have q0' : 128 ≤ (l.getD 0 0).toNat := by
            have : (u (l.getD 0 0)) = ((l.getD 0 0).toNat : Int) := rfl
            omega
          intro i hi
          rcases hn with h | h | h
          · rw [h] at e
            have : i = 0 ∨ i = 1 ∨ i = 2 ∨ i = 3 := by simp at e; omega
            rcases this with rfl | rfl | rfl | rfl
            · exact q0'
            · exact q1
            · exact q2 (Or.inl h)
            · exact q3 h
          · rw [h] at e
            have : i = 0 ∨ i = 1 ∨ i = 2 := by simp at e; omega
            rcases this with rfl | rfl | rfl
            · exact q0'
            · exact q1
            · exact q2 (Or.inr h)
          · rw [h] at e
            have : i = 0 ∨ i = 1 := by simp at e; omega
            rcases this with rfl | rfl
            · exact q0'
            · exact q1
theorem bk_none (f : Bool) : ∀ (l : List UInt8), (∀ c ∈ l, c ≠ 32) → l.flatMap (bk f) = l
  | [], _ => rfl
  | c :: l, h => by
    rw [List.flatMap_cons, bk_none f l (fun x hx => h x (List.mem_cons_of_mem _ hx))]
    unfold bk
    rw [if_neg (fun e => h c (List.mem_cons_self ..) e.1)]
    rfl
theorem check_bk (f : Bool) : ∀ (n : Nat) (l : List UInt8), l.length ≤ n → (check l).1 = true → (check (l.flatMap (bk f))).1 = true := by
  refine check_ind (M := fun l => (check l).1 = true → (check (l.flatMap (bk f))).1 = true) (fun h => h) (fun l h1 h2 h => ?_) (fun l h1 ih h => ?_)
  · rw [check_bad l h1 h2] at h
    cases h
  · rw [check_good l h1] at h
    have h3 := ih h
    have hl : l.flatMap (bk f) = (l.take (seqLen l)).flatMap (bk f) ++ (l.drop (seqLen l)).flatMap (bk f) := by rw [← List.flatMap_append, List.take_append_drop]
    have hle := seqLen_le l
    have ht : (check (l.take (seqLen l))).1 = true := by
      have e := TextMath.seqLen_take l (seqLen l) (Nat.le_refl _) (by omega)
      rw [check_good _ (by rw [e]; exact h1), e]
      rw [List.drop_eq_nil_of_le (by rw [List.length_take]; omega)]
      rfl
    have h4 : (check ((l.take (seqLen l)).flatMap (bk f))).1 = true := by
      by_cases h2 : 2 ≤ seqLen l
      · rw [bk_none f _ (fun c hc e => ?_)]
        · exact ht
        · obtain ⟨i, hi, hx⟩ := List.getElem_of_mem hc
          rw [List.length_take] at hi
          have := seq_high l h2 i (by omega)
          rw [List.getElem_take] at hx
          rw [List.getD_eq_getElem?_getD, List.getElem?_eq_getElem (by omega), hx, e] at this
          exact absurd this (by decide)
      · have h1' : seqLen l = 1 := by omega
        rw [h1'] at ht ⊢
        match l, hle with
        | [], hh => rw [h1'] at hh; simp at hh
        | c :: r, _ =>
          show (check ([c].flatMap (bk f))).1 = true
          have ht' : (check [c]).1 = true := ht
          rw [List.flatMap_cons, List.flatMap_nil, List.append_nil]
          unfold bk
          split
          · decide
          · exact ht'
    rw [hl, check_app_good _ _ h4]
    exact h3
theorem utf_blk (b1 b2 b3 : Bool) (v : List UInt8) (h : utf v = true) : utf (blk b1 b2 b3 v) = true := by
  unfold utf at *
  have h1 := check_bk b2 v.length v (Nat.le_refl _) h
  have e1 : (check (if b1 = true then [9] else [])).1 = true := by cases b1 <;> decide
  have e3 : (check (if b3 = true then [32, 13] else [])).1 = true := by cases b3 <;> decide
  unfold blk
  have h2 : (check ((if b1 = true then [9] else []) ++ v.flatMap (bk b2))).1 = true := by rw [check_app_good _ _ e1]; exact h1
  rw [check_app_good _ _ h2]
  exact e3
end Bl
end Go.Proofs.YtoiilplnhecokaaDoor

namespace Go.Proofs.YtoiilplnhecokaaDoor
namespace Bl
open Go.RowKit
open TextMath (fold lo)
set_option linter.unusedVariables false

theorem xor32 (c : UInt8) : bits .xor .u8 (c.toNat : Int) 32 = ((c ^^^ 32).toNat : Int) := by
  have key : ∀ n : Fin 256, bits .xor .u8 ((UInt8.ofNat n.val).toNat : Int) 32 = (((UInt8.ofNat n.val) ^^^ 32).toNat : Int) := by decide +kernel
  have h2 := key ⟨c.toNat, c.toNat_lt⟩
  rw [UInt8.ofNat_toNat] at h2
  exact h2
theorem fold_set (t : List UInt8) (k : Nat) (h : k < t.length) (c : UInt8) (hc : lo c = lo t[k]) : fold (t.set k c) = fold t := by
  unfold fold
  rw [List.map_set, hc]
  have e : lo t[k] = (t.map lo)[k]'(by simpa using h) := by simp
  rw [e]
  exact List.set_getElem_self _
/-- What otherCase answers. -/
def OcQ (s : ByteArray) (e : Ending) : Prop := ∃ t : List UInt8, e = .returned (.string (S t)) ∧ fold t = fold s.data.toList ∧ t.length = s.size
set_option maxRecDepth 100000 in
set_option maxHeartbeats 4000000 in
theorem otherCase_any (s : ByteArray) (n : Int) (w : World) (hm : s.size ≤ 1073741824) :
    Calls Tryd.prog 9 #[.string s, .int .i64 n] w fun e w' => OcQ s e ∧ Below w.heap.size w w' := by
  have hL : Hid (s.data.toList.length = s.size) := size_l s
  obtain ⟨W1, cap, hconv, hb1, hz1, hr1⟩ := conv_bytes (P := Tryd.prog) w 9 53 5 s Tryd.underlying9 Tryd.underlying53 Tryd.underlying5
  have H1 : Hid (Below w.heap.size w W1 ∧ BRow W1 w.heap.size s.data.toList) := ⟨hb1, hr1⟩
  clear hb1 hz1 hr1
  go_enter Tryd.func9, Tryd.ntmps9
  go_wp2_with fail
  clear hconv
  go_loopw [6] (fun i wr => ∃ (k : Nat) (t : List UInt8), k ≤ s.size ∧ i = .int .i64 k ∧ Hid (Below w.heap.size w wr ∧ t.length = s.size ∧ fold t = fold s.data.toList ∧ BRow wr w.heap.size t)) (fun i _ => s.size - (intOf i).toNat)
  case atStart => exact ⟨0, s.data.toList, Nat.zero_le _, rfl, H1.out.1, hL.out, rfl, H1.out.2⟩
  case round =>
    obtain ⟨k, t, hk, rfl, hI⟩ := hrel
    clear H1
    have k0 : (0 : Int) ≤ (k : Int) := Int.natCast_nonneg _
    by_cases hlt : k < s.size
    · have k1 : (k : Int) < (s.size : Int) := Int.ofNat_lt.2 hlt
      have hkt : k < t.length := by rw [hI.out.2.1]; exact hlt
      obtain ⟨hc, hf⟩ := hI.out.2.2.2 k hkt
      obtain ⟨c, hcc⟩ : ∃ c, t[k] = c := ⟨_, rfl⟩
      rw [hcc] at hc
      have hx := xor32 c
      have hset : Hid (((97 ≤ c.toNat ∧ c.toNat ≤ 122) ∨ (65 ≤ c.toNat ∧ c.toNat ≤ 90)) → Below w.heap.size w (wr.setCell ⟨w.heap.size, k, none⟩ (.int .u8 ((c ^^^ 32).toNat : Int))) ∧ (t.set k (c ^^^ 32)).length = s.size ∧ fold (t.set k (c ^^^ 32)) = fold s.data.toList ∧ BRow (wr.setCell ⟨w.heap.size, k, none⟩ (.int .u8 ((c ^^^ 32).toNat : Int))) w.heap.size (t.set k (c ^^^ 32))) := fun h => by
        obtain ⟨i1, i2, i3, i4⟩ := hI.out
        refine ⟨i1.setCell (Nat.le_refl _) _, by rw [List.length_set]; exact i2, ?_, i4.set k hkt _⟩
        rw [fold_set t k hkt _ (by rw [hcc]; exact lo_flip c h)]
        exact i3
      have hlt' : Hid (k < s.size) := hlt
      have hmod : (k : Int).tmod 5 = ((k % 5 : Nat) : Int) := by rw [Int.tmod_eq_emod_of_nonneg k0]; omega
      have hmp : (0 : Int) ≤ ((k % 5 : Nat) : Int) := Int.natCast_nonneg _
      clear hkt hcc hlt hk
      have c256 : c.toNat < 256 := c.toNat_lt
      by_cases l1 : (97 : Int) ≤ (c.toNat : Int)
      · by_cases l2 : (c.toNat : Int) ≤ 122
        · skip
          go_wp2_with fail
          · go_roundw
            case rel => exact ⟨k + 1, t.set k (c ^^^ 32), hlt'.out, by simp, hset.out (by omega)⟩
            case measure => have := hlt'.out; simp [intOf]; omega
          · go_roundw
            case rel => exact ⟨k + 1, t, hlt'.out, by simp, hI⟩
            case measure => have := hlt'.out; simp [intOf]; omega
        · have l3 : (65 : Int) ≤ (c.toNat : Int) := by omega
          have l4 : ¬ (c.toNat : Int) ≤ 90 := by omega
          go_wp2_with fail
          go_roundw
          case rel => exact ⟨k + 1, t, hlt'.out, by simp, hI⟩
          case measure => have := hlt'.out; simp [intOf]; omega
      · by_cases l3 : (65 : Int) ≤ (c.toNat : Int)
        · by_cases l4 : (c.toNat : Int) ≤ 90
          · skip
            go_wp2_with fail
            · go_roundw
              case rel => exact ⟨k + 1, t.set k (c ^^^ 32), hlt'.out, by simp, hset.out (by omega)⟩
              case measure => have := hlt'.out; simp [intOf]; omega
            · go_roundw
              case rel => exact ⟨k + 1, t, hlt'.out, by simp, hI⟩
              case measure => have := hlt'.out; simp [intOf]; omega
          · skip
            go_wp2_with fail
            go_roundw
            case rel => exact ⟨k + 1, t, hlt'.out, by simp, hI⟩
            case measure => have := hlt'.out; simp [intOf]; omega
        · skip
          go_wp2_with fail
          go_roundw
          case rel => exact ⟨k + 1, t, hlt'.out, by simp, hI⟩
          case measure => have := hlt'.out; simp [intOf]; omega
    · have hk2 : k = s.size := by omega
      subst hk2
      have k1 : ¬ (s.size : Int) < (s.size : Int) := by omega
      have hback := conv_back (P := Tryd.prog) wr 53 9 5 w.heap.size s.size cap t Tryd.underlying53 Tryd.underlying5 Tryd.underlying9 hI.out.2.1.symm hI.out.2.2.2
      go_wp2_with fail
      go_ret
      exact ⟨⟨t, rfl, hI.out.2.2.1, hI.out.2.1⟩, hI.out.1⟩
end Bl
end Go.Proofs.YtoiilplnhecokaaDoor

namespace Go.Proofs.YtoiilplnhecokaaDoor
namespace Bl
open Go.RowKit
open TextMath (fold lo normal)
open Du (GOwn GRow Kd append_gen flatV_at)
set_option linter.unusedVariables false

def bV (b : UInt8) : List Value := [.int .u8 (b.toNat : Int)]
theorem bV_len (b : UInt8) : (bV b).length = 1 := rfl
theorem bV_flat (l : List UInt8) : l.flatMap bV = bv l := by
  induction l with
  | nil => rfl
  | cons c l ih => rw [List.flatMap_cons, ih]; rfl
theorem KDb : Kd 5 53 1 1 bV := by
  refine ⟨Tryd.underlying53, ?_, by decide, by decide, bV_len, fun x u hu => by simp only [bV, List.mem_singleton] at hu; subst hu; rfl⟩
  have h : (Tryd.prog.info? 5).map (fun i => (i.zero, i.size, i.bytes)) = some (some (.int .u8 0), 1, 1) := by kernel_rfl
  obtain ⟨i0, hi, hz0, hz1, hz2⟩ := info_parts h
  exact ⟨i0, _, hi, hz0, hz1, hz2, rfl⟩
set_option maxRecDepth 100000 in
/-- An append whose run is known. -/
theorem wp_app (w : World) {ops : Array Oper} {rest : List Oper} {o : Oper} {a : Act} {Q : Exit → Act → World → Prop} (hgd : o.guard = none) (s x : Operand) (ts : TypeId)
    (ho : o.op = .call { callee := .builtin .append, args := #[s, x], argTypes := #[ts, ts] }) (ht : o.type = ts) (vs vx v' : Value) (w' : World)
    (hs : a.eval s = vs) (hx : a.eval x = vx) (hr : (Builtin.append_ #[ts, ts] ts #[vs, vx]).run Tryd.prog w = .ok v' w')
    (h : wpList Tryd.prog ops Q rest (a.put o.dst v') w') : wpList Tryd.prog ops Q (o :: rest) a w :=
  Lib.wpList_append_run w hgd s x _ _ ho _ _ hs hx _ _ (by rw [ht]; exact hr) h
theorem g_new {α : Type} {k : Nat} (V : α → List Value) (hV : ∀ x, (V x).length = k) (w : World) (t : TypeId) (l : List α) : GRow k V (w.alloc (.cells (l.flatMap V).toArray t)) (some ⟨w.heap.size, 0, none⟩) l := fun i hi => by
  refine ⟨_, _, rfl, fun j hj => ?_⟩
  have h1 : (w.alloc (.cells (l.flatMap V).toArray t)).heap[w.heap.size]? = some (.cells (l.flatMap V).toArray t (0, 0)) := heap_alloc_new _ _
  rw [cell_of_row _ _ _ _ _ _ h1, Nat.zero_add, List.getElem?_toArray]
  exact flatV_at V k hV l i hi j hj
/-- Bytes of the call's own. -/
def BI (w : World) (v : Value) (l : List UInt8) (W : World) : Prop := GOwn 5 1 bV W w.heap.size v l ∧ Below w.heap.size w W
theorem bi_more {w W : World} {v : Value} {l : List UInt8} (h : BI w v l W) (m : List UInt8) (hl : l.length + m.length ≤ 17179869184) :
    ∃ a' n' c' w', (Builtin.append_ #[53, 53] 53 #[v, .slice (some ⟨W.heap.size, 0, none⟩) m.length m.length]).run Tryd.prog (W.alloc (.cells (m.flatMap bV).toArray 5)) = .ok (.slice a' n' c') w' ∧ BI w (.slice a' n' c') (l ++ m) w' := by
  have hb : Below W.heap.size W (W.alloc (.cells (m.flatMap bV).toArray 5)) := (Below.refl _ _).alloc (Nat.le_refl _) _
  obtain ⟨v', w', e1, o1, _, b1⟩ := append_gen KDb (W.alloc (.cells (m.flatMap bV).toArray 5)) w.heap.size v l m _ m.length m.length (h.1.below hb) (g_new bV bV_len W 5 m) rfl (Nat.le_trans h.2.size hb.size) (by omega)
  obtain ⟨a', c', hv, _⟩ := o1.row bV_len
  subst hv
  exact ⟨a', _, c', w', e1, o1, (h.2.trans (hb.mono h.2.size)).trans b1⟩
theorem bi_conv {w W : World} {v : Value} {l : List UInt8} (h : BI w v l W) : (convert 53 9 v).run Tryd.prog W = .ok (.string (S l)) W := by
  have h1 : W.ownsRow w.heap.size 5 1 v l.length (bv l) := by have := h.1; unfold GOwn at this; rwa [bV_flat] at this
  exact own_back_any W w.heap.size 53 9 5 v l.length l Tryd.underlying53 Tryd.underlying5 Tryd.underlying9 h1
end Bl
end Go.Proofs.YtoiilplnhecokaaDoor

namespace Go.Proofs.YtoiilplnhecokaaDoor
namespace Bl
open Go.RowKit
open TextMath (fold lo)
open Ke (tyOk tyC tyR)
set_option linter.unusedVariables false

/-- The names of a row: each is a type, and tells the row's own. -/
def nmOk (i : Fin 62) (s : ByteArray) : Bool := s.toList.isEmpty || (decide ((tyR s.data.toList).2.1 = 0) && decide ((tyR s.data.toList).1 = (rowL i).1) && decide (s.size ≤ 64))
set_option maxRecDepth 100000 in
theorem names_ok : (List.finRange 62).all (fun i => nmOk i (rowL i).1 && (nmOk i (rowL i).2.1 && nmOk i (rowL i).2.2)) = true := by kernel_rfl
set_option maxRecDepth 100000 in
theorem names_ne : (List.finRange 62).all (fun i => !(rowL i).1.toList.isEmpty && !(rowL i).2.2.toList.isEmpty) = true := by kernel_rfl
theorem name_ok (i : Fin 62) (s : ByteArray) (hs : s = (rowL i).1 ∨ s = (rowL i).2.1 ∨ s = (rowL i).2.2) (hn : s.toList.isEmpty = false) : (tyR s.data.toList).1 = (rowL i).1 ∧ (tyR s.data.toList).2.1 = 0 ∧ s.size ≤ 64 := by
  have h := List.all_eq_true.1 names_ok i (List.mem_finRange i)
  rw [Bool.and_eq_true, Bool.and_eq_true] at h
  have h2 : nmOk i s = true := by
    rcases hs with rfl | rfl | rfl
    · exact h.1
    · exact h.2.1
    · exact h.2.2
  unfold nmOk at h2
  rw [hn, Bool.false_or, Bool.and_eq_true, Bool.and_eq_true, decide_eq_true_eq, decide_eq_true_eq, decide_eq_true_eq] at h2
  exact ⟨h2.1.2, h2.1.1, h2.2⟩
theorem ty_row (t : List UInt8) (i : Fin 62) (h : rowOf (S (fold t)) = some i) (ht : tyOk t = true) : (tyR t).1 = (rowL i).1 ∧ (tyR t).2.1 = 0 := by
  have h0 : (tyR t).2.1 = 0 := of_decide_eq_true ht
  refine ⟨?_, h0⟩
  unfold tyR parsT at h0 ⊢
  split at h0
  · rename_i hc
    rw [if_pos hc]
    show canN _ = _
    unfold canN
    rw [h]
  · simp at h0
/-- What otherName answers. -/
def OnQ (t : List UInt8) (e : Ending) : Prop := ∃ t', e = .returned (.string (S t')) ∧ (tyR t').1 = (tyR t).1 ∧ (tyR t').2.1 = (tyR t).2.1 ∧ t'.length ≤ t.length + 64
theorem onq_same {t : List UInt8} {s : ByteArray} {e : Ending} (h : OcQ s e) (h1 : (tyR s.data.toList).1 = (tyR t).1) (h2 : (tyR s.data.toList).2.1 = (tyR t).2.1) (hl : s.size ≤ t.length + 64) : OnQ t e := by
  obtain ⟨t', rfl, hf, hl'⟩ := h
  have e := fold_same_ty hf
  exact ⟨t', rfl, by rw [e, h1], by rw [e, h2], by omega⟩
/-- The names that otherName picks among. -/
def nmL (i : Fin 62) : List (List UInt8) := [(rowL i).1.data.toList, (rowL i).2.2.data.toList] ++ (if (rowL i).2.1.toList = [] then [] else [(rowL i).2.1.data.toList])
theorem nmL_ok (i : Fin 62) (x : List UInt8) (h : x ∈ nmL i) : (tyR x).1 = (rowL i).1 ∧ (tyR x).2.1 = 0 ∧ x.length ≤ 64 := by
  have hne := List.all_eq_true.1 names_ne i (List.mem_finRange i)
  rw [Bool.and_eq_true, Bool.not_eq_true', Bool.not_eq_true'] at hne
  have key : ∀ s : ByteArray, (s = (rowL i).1 ∨ s = (rowL i).2.1 ∨ s = (rowL i).2.2) → s.toList.isEmpty = false → x = s.data.toList → (tyR x).1 = (rowL i).1 ∧ (tyR x).2.1 = 0 ∧ x.length ≤ 64 := by
    intro s hs hn e
    subst e
    have := name_ok i s hs hn
    rw [size_l]
    exact this
  unfold nmL at h
  simp only [List.cons_append, List.nil_append, List.mem_cons] at h
  rcases h with h | h | h
  · exact key _ (Or.inl rfl) hne.1 h
  · exact key _ (Or.inr (Or.inr rfl)) hne.2 h
  · split at h
    · cases h
    · rename_i hq
      rw [List.mem_singleton] at h
      exact key _ (Or.inr (Or.inl rfl)) (by cases hx : (rowL i).2.1.toList with | nil => exact absurd hx hq | cons a b => rfl) h
theorem own_two (w : World) (x y : ByteArray) : OwnS (w.alloc (.cells #[.string x, .string y] 9)) w.heap.size (.slice (some ⟨w.heap.size, 0, none⟩) 2 2) [x.data.toList, y.data.toList] :=
  ⟨rfl, Or.inr ⟨w.heap.size, 2, _, rfl, Nat.le_refl _, heap_alloc_new w _, Nat.le_refl _, by unfold maxLen; omega, rfl, by simp [sv, S_of]⟩⟩
set_option maxRecDepth 100000 in
set_option maxHeartbeats 4000000 in
theorem otherName_any (t : List UInt8) (n : Nat) (w : World) (ht : tyOk t = true) (hm : t.length ≤ 1073741760) (hn : n < 1024) (hT : NumT3 w) :
    Calls Tryd.prog 8 #[.string (S t), .int .i64 (n : Int)] w fun e w' => OnQ t e ∧ Below w.heap.size w w' := by
  have hst : (S t).size = t.length := by rw [← size_l, S_l]
  have n0 : (0 : Int) ≤ (n : Int) := Int.natCast_nonneg _
  have n1 : (n : Int) ≤ 1024 := by omega
  have hF : Hid (Calls Tryd.prog 15 #[.string (S t)] w fun e w' => FindIs w' w.heap.size (S (fold t)) e ∧ Below w.heap.size w w') := by
    have h := find_any (S t) w (by omega) hT
    rw [S_l] at h
    exact h
  have hC : Hid (∀ W, Calls Tryd.prog 9 #[.string (S t), .int .i64 (n : Int)] W fun e w' => OnQ t e ∧ Below W.heap.size W w') := fun W => (otherCase_any (S t) n W (by omega)).mono fun e w' ⟨h, hb⟩ => ⟨onq_same h (by rw [S_l]) (by rw [S_l]) (by omega), hb⟩
  have hD : Hid (∀ i, rowOf (S (fold t)) = some i → ∀ x ∈ nmL i, ∀ W, Calls Tryd.prog 9 #[.string (S x), .int .i64 (n : Int)] W fun e w' => OnQ t e ∧ Below W.heap.size W w') := fun i hi x hx W => by
    obtain ⟨k1, k2, k3⟩ := nmL_ok i x hx
    obtain ⟨r1, r2⟩ := ty_row t i hi ht
    have hsx : (S x).size = x.length := by rw [← size_l, S_l]
    exact (otherCase_any (S x) n W (by omega)).mono fun e w' ⟨h, hb⟩ => ⟨onq_same h (by rw [S_l, k1, r1]) (by rw [S_l, k2, r2]) (by omega), hb⟩
  clear hT hm ht hst
  generalize S t = st at *
  go_enter Tryd.func8, Tryd.ntmps8
  go_wp2_with fail
  refine hF.out.mono ?_
  rintro e w1 ⟨hI, hb1⟩
  have o1 : Hid (Below w.heap.size w w1) := hb1
  clear hF hb1
  rcases hI with ⟨hr, rfl⟩ | ⟨i, v, hr, rfl, al, rfl, hal⟩
  · clear hD hr
    go_wp2_with fail
    refine (hC.out _).mono ?_
    rintro e w3 ⟨hq, hb3⟩
    obtain ⟨t', rfl, hq1, hq2, hq3⟩ := hq
    have hfin : Hid (OnQ t (.returned (.string (S t')))) := ⟨t', rfl, hq1, hq2, hq3⟩
    clear hq1 hq2 hq3 hC
    go_wp2_with fail
    go_ret
    exact ⟨hfin.out, o1.out.trans (((Below.refl _ _).alloc (Nat.le_refl _) _).trans (hb3.mono (by simp)) |>.mono o1.out.size)⟩
  · clear hC
    obtain ⟨aa, an, ac, hrow, rfl, hnl⟩ : ∃ aa an ac, Row w1 aa (if (rowL i).2.1.toList = [] then [] else [(rowL i).2.1.data.toList]) ∧ al = .slice aa an ac ∧ an = (if (rowL i).2.1.toList = [] then [] else [(rowL i).2.1.data.toList]).length := by
      rcases hal with ⟨h0, rfl⟩ | ⟨h0, g, cc, _, rfl, hc⟩
      · rw [if_pos h0]
        exact ⟨_, _, _, Row.nil _ _, rfl, rfl⟩
      · rw [if_neg h0]
        refine ⟨_, _, _, fun k hk => ?_, rfl, rfl⟩
        have hk0 : k = 0 := by simp at hk; omega
        subst hk0
        exact ⟨g, 0, rfl, by rw [hc]; simp [S_of]⟩
    have hnm : Hid ([(rowL i).1.data.toList, (rowL i).2.2.data.toList] ++ (if (rowL i).2.1.toList = [] then [] else [(rowL i).2.1.data.toList]) = nmL i) := rfl
    have hDi : Hid (∀ x ∈ nmL i, ∀ W, Calls Tryd.prog 9 #[.string (S x), .int .i64 (n : Int)] W fun e w' => OnQ t e ∧ Below W.heap.size W w') := hD.out i hr
    generalize (if (rowL i).2.1.toList = [] then [] else [(rowL i).2.1.data.toList]) = m at *
    generalize USG.getD i.1 0 = ug at *
    generalize SYN.getD i.1 0 = sy at *
    generalize supN i = su at *
    generalize (rowL i).1 = nm at *
    generalize (rowL i).2.2 = od at *
    have hal : Hid (2 ≤ (nmL i).length) := by unfold Hid; rw [← hnm.out]; simp
    obtain ⟨w2, hw2⟩ : ∃ W, w1.alloc (.cells #[.string nm, .slice aa an ac, .string od, .string su, .int .i64 sy, .int .i64 ug] 50) = W := ⟨_, rfl⟩
    have hb2 : Below w1.heap.size w1 w2 := by rw [← hw2]; exact (Below.refl _ _).alloc (Nat.le_refl _) _
    have hr2 : w2.heap[w1.heap.size]? = some (.cells #[.string nm, .slice aa an ac, .string od, .string su, .int .i64 sy, .int .i64 ug] 50 (0, 0)) := by rw [← hw2]; exact heap_alloc_last w1 _
    have c0 : w2.cell? ⟨w1.heap.size, 0, none⟩ = some (.string nm) := (row_cell hr2 (j := 0) (by simp)).1
    have c1 : w2.cell? ⟨w1.heap.size, 1, none⟩ = some (.slice aa an ac) := (row_cell hr2 (j := 1) (by simp)).1
    have c2 : w2.cell? ⟨w1.heap.size, 2, none⟩ = some (.string od) := (row_cell hr2 (j := 2) (by simp)).1
    obtain ⟨w3, hw3⟩ : ∃ W, w2.alloc (.cells #[.string nm, .string od] 9) = W := ⟨_, rfl⟩
    have hb3 : Below w2.heap.size w2 w3 := by rw [← hw3]; exact (Below.refl _ _).alloc (Nat.le_refl _) _
    have d1 : w3.cell? ⟨w1.heap.size, 1, none⟩ = some (.slice aa an ac) := by rw [hb3.cell (World.block_lt_of_cell? _ _ c1)]; exact c1
    have hlm : an ≤ 1 := by
      rw [hnl]
      rcases Nat.lt_or_ge 1 m.length with h | h
      · exfalso
        have h3 := hnm.out
        have h4 : (nmL i).length ≤ 3 := by unfold nmL; split <;> simp
        rw [← h3] at h4
        simp at h4
        omega
      · exact h
    obtain ⟨v', w4, e9, o4, hb4⟩ := append_row w3 w2.heap.size (.slice (some ⟨w2.heap.size, 0, none⟩) 2 2) [nm.data.toList, od.data.toList] m aa an ac (by rw [← hw3]; exact own_two w2 nm od) ((hrow.below hb2).below hb3) hnl hb3.size (by rw [← hnl]; simp; omega)
    rw [hnm.out] at o4
    obtain ⟨g, xc, rfl⟩ : ∃ g xc, v' = .slice (some ⟨g, 0, none⟩) (nmL i).length xc := by
      rcases ownS_form o4 with ⟨_, h0⟩ | ⟨g, cap, e, _⟩
      · have := hal.out; rw [h0] at this; simp at this
      · exact ⟨g, cap, e⟩
    obtain ⟨xn, hxn⟩ : ∃ xn, (nmL i).length = xn := ⟨_, rfl⟩
    have hj : n % (nmL i).length < (nmL i).length := Nat.mod_lt _ (by have := hal.out; omega)
    have hcell := ownS_cell o4 _ hj
    have hcall := hDi.out _ (List.getElem_mem hj)
    rw [hxn] at e9 
    have x2 : (2 : Int) ≤ (xn : Int) := by have := hal.out; omega
    have x3 : (xn : Int) ≠ 0 := by omega
    have im : (n : Int).tmod (xn : Int) = ((n % (nmL i).length : Nat) : Int) := by rw [Int.tmod_eq_emod_of_nonneg n0, hxn]; simp
    have hB4 : Hid (Below w.heap.size w w4) := (o1.out.trans ((hb2.trans (hb3.mono hb2.size)).mono o1.out.size)).trans (hb4.mono (by have := o1.out.size; have := hb2.size; omega))
    have hj2 : n % (nmL i).length < xn := by rw [← hxn]; exact hj
    generalize (nmL i)[n % (nmL i).length] = x at *
    obtain ⟨j, hje⟩ : ∃ j, n % (nmL i).length = j := ⟨_, rfl⟩
    rw [hje] at im hj2 hcell
    have j0 : (0 : Int) ≤ (j : Int) := Int.natCast_nonneg _
    have j1 : (j : Int) < (xn : Int) := Int.ofNat_lt.2 hj2
    have hcl : Hid (∀ W, Calls Tryd.prog 9 #[.string (S x), .int .i64 (n : Int)] W fun e w' => OnQ t e ∧ Below W.heap.size W w') := hcall
    generalize S x = sx at *
    have n2 : ¬ (n : Int) < 0 := by omega
    have e9' : Hid ((Builtin.append_ #[26, 26] 26 #[.slice (some ⟨w2.heap.size, 0, none⟩) 2 2, .slice aa an ac]).run Tryd.prog w3 = .ok (.slice (some ⟨g, 0, none⟩) xn xc) w4) := e9
    clear hb2 hr2 hb3 hrow hnm hal hnl hlm o4 hb4 hxn hje hj hj2 hcall hDi hD hr e9
    go_upto_region 4 with fail
    clear hw2
    go_upto_region 5 with (at_builtin; refine Lib.wpList_append_run _ rfl _ _ _ _ rfl _ _ rfl rfl _ _ e9'.out ?_; clear e9')
    clear c0 c1 c2 d1 hw3
    go_wp2_with fail
    refine (hcl.out _).mono ?_
    rintro e w5 ⟨hq, hb5⟩
    obtain ⟨t', rfl, hq1, hq2, hq3⟩ := hq
    have hfin : Hid (OnQ t (.returned (.string (S t'))) ∧ Below w.heap.size w w5) := ⟨⟨t', rfl, hq1, hq2, hq3⟩, hB4.out.trans (hb5.mono hB4.out.size)⟩
    clear hq1 hq2 hq3 hcl hb5 hcell
    go_wp2_with fail
    go_ret
    exact hfin.out
end Bl
end Go.Proofs.YtoiilplnhecokaaDoor

namespace Go.Proofs.YtoiilplnhecokaaDoor
namespace Bl
open Go.RowKit
open TextMath (fold lo normal)
set_option linter.unusedVariables false

theorem bk_len (f : Bool) (l : List UInt8) : (l.flatMap (bk f)).length ≤ 3 * l.length := by
  induction l with
  | nil => simp
  | cons c l ih =>
    rw [List.flatMap_cons, List.length_append, List.length_cons]
    have : (bk f c).length ≤ 3 := by unfold bk; split <;> simp
    omega
/-- What blanks answers. -/
def BkQ (v : ByteArray) (e : Ending) : Prop := ∃ b1 b2 b3, e = .returned (.string (S (blk b1 b2 b3 v.data.toList)))
set_option maxRecDepth 100000 in
set_option maxHeartbeats 8000000 in
theorem blanks_any (v : ByteArray) (n : Int) (w : World) (hm : v.size ≤ 1073741824) :
    Calls Tryd.prog 10 #[.string v, .int .i64 n] w fun e w' => BkQ v e ∧ Below w.heap.size w w' := by
  have hL : Hid (v.data.toList.length = v.size) := size_l v
  obtain ⟨b1, hb1⟩ : ∃ b, (bits .and .i64 n 1 == 1) = b := ⟨_, rfl⟩
  obtain ⟨b2, hb2⟩ : ∃ b, (bits .and .i64 n 2 == 2) = b := ⟨_, rfl⟩
  obtain ⟨b3, hb3⟩ : ∃ b, (bits .and .i64 n 4 == 4) = b := ⟨_, rfl⟩
  cases b1 with
  | true =>
    have H0 : Hid (BI w (.slice none 0 0) [] w) := ⟨Du.GOwn.nil _ _ _ _ _, Below.refl _ _⟩
    obtain ⟨xa, xn, xc, w1, e9, h9⟩ := bi_more H0.out [9] (by simp)
    have e9' : Hid ((Builtin.append_ #[53, 53] 53 #[.slice none 0 0, .slice (some ⟨w.heap.size, 0, none⟩) 1 1]).run Tryd.prog (w.alloc (.cells #[.int .u8 9] 5)) = .ok (.slice xa xn xc) w1) := e9
    have H1 : Hid (BI w (.slice xa xn xc) [9] w1) := h9
    clear e9 h9 H0
    go_enter Tryd.func10, Tryd.ntmps10
    go_wp2_with (at_builtin; refine wp_app _ rfl _ _ _ rfl rfl _ _ _ _ rfl rfl e9'.out ?_; clear e9')
    go_loopw [5, 6] (fun lv iv wr => ∃ (k : Nat) (za : Option Addr) (zn zc : Nat), k ≤ v.size ∧ iv = .int .i64 (k : Int) ∧ lv = .slice za zn zc ∧ Hid (BI w (.slice za zn zc) ([9] ++ (v.data.toList.take k).flatMap (bk b2)) wr)) (fun _ iv _ => v.size - (intOf iv).toNat)
    case atStart => exact ⟨0, _, _, _, Nat.zero_le _, rfl, rfl, by simpa using H1⟩
    case round =>
      obtain ⟨k, za, zn, zc, hk, rfl, rfl, hI⟩ := hrel
      have k0 : (0 : Int) ≤ (k : Int) := Int.natCast_nonneg _
      by_cases hlt : k < v.size
      · have k1 : (k : Int) < (v.size : Int) := Int.ofNat_lt.2 hlt
        have hkl : k < v.data.toList.length := by rw [hL.out]; exact hlt
        have htk : (v.data.toList.take (k + 1)).flatMap (bk b2) = (v.data.toList.take k).flatMap (bk b2) ++ bk b2 v.data.toList[k] := by rw [List.take_succ_eq_append_getElem hkl, List.flatMap_append]; simp
        have hvk : (v[k]'hlt) = v.data.toList[k] := by simp; rfl
        obtain ⟨c, hc⟩ : ∃ c, v.data.toList[k] = c := ⟨_, rfl⟩
        rw [hc] at htk hvk
        have hln : ([9] ++ (v.data.toList.take k).flatMap (bk b2)).length ≤ 4294967296 := by
          have := bk_len b2 (v.data.toList.take k)
          rw [List.length_append]
          rw [List.length_take] at this
          simp only [List.length_cons, List.length_nil]
          omega
        obtain ⟨L, hLL⟩ : ∃ L, [9] ++ (v.data.toList.take k).flatMap (bk b2) = L := ⟨_, rfl⟩
        rw [hLL] at hI hln
        have F : Hid (k < v.size ∧ [9] ++ (v.data.toList.take (k + 1)).flatMap (bk b2) = L ++ bk b2 c ∧ L.length ≤ 4294967296) := ⟨hlt, by rw [htk, ← List.append_assoc, hLL], hln⟩
        obtain ⟨ya, yn, yc, w5, e9, h9⟩ := bi_more hI.out [c] (by simp only [List.length_cons, List.length_nil]; omega)
        have e9' : Hid ((Builtin.append_ #[53, 53] 53 #[.slice za zn zc, .slice (some ⟨wr.heap.size, 0, none⟩) 1 1]).run Tryd.prog (wr.alloc (.cells #[.int .u8 (c.toNat : Int)] 5)) = .ok (.slice ya yn yc) w5) := e9
        have H5 : Hid (BI w (.slice ya yn yc) (L ++ [c]) w5) := h9
        clear e9 h9 hI htk hc hln hLL hkl hk
        go_upto_region 8 with (at_builtin; refine wp_app _ rfl _ _ _ rfl rfl _ _ _ _ rfl rfl e9'.out ?_; clear e9')
        by_cases hc32 : (c.toNat : Int) = 32
        · have hcc : c = 32 := UInt8.toNat_inj.1 (by have : (32 : UInt8).toNat = 32 := rfl; omega)
          cases b2 with
          | true =>
            obtain ⟨za2, zn2, zc2, w6, e9, h9⟩ := bi_more H5.out [10, 32] (by have := F.out.2.2; simp only [List.length_append, List.length_cons, List.length_nil]; omega)
            have e9' : Hid ((Builtin.append_ #[53, 53] 53 #[.slice ya yn yc, .slice (some ⟨w5.heap.size, 0, none⟩) 2 2]).run Tryd.prog (w5.alloc (.cells #[.int .u8 10, .int .u8 32] 5)) = .ok (.slice za2 zn2 zc2) w6) := e9
            have H6 : Hid (BI w (.slice za2 zn2 zc2) (L ++ bk true c) w6) := by
              have e : L ++ bk true c = (L ++ [c]) ++ [10, 32] := by subst hcc; simp [bk]
              rw [e]; exact h9
            clear e9 h9 H5
            go_wp2_with (at_builtin; refine wp_app _ rfl _ _ _ rfl rfl _ _ _ _ rfl rfl e9'.out ?_; clear e9')
            go_roundw
            case rel => exact ⟨k + 1, _, _, _, F.out.1, by simp, rfl, by rw [F.out.2.1]; exact H6⟩
            case measure => have := F.out.1; simp [intOf]; omega
          | false =>
            have H6 : Hid (BI w (.slice ya yn yc) (L ++ bk false c) w5) := by
              have e : L ++ bk false c = L ++ [c] := by simp [bk]
              rw [e]; exact H5
            clear H5
            go_wp2_with fail
            go_roundw
            case rel => exact ⟨k + 1, _, _, _, F.out.1, by simp, rfl, by rw [F.out.2.1]; exact H6⟩
            case measure => have := F.out.1; simp [intOf]; omega
        · have H6 : Hid (BI w (.slice ya yn yc) (L ++ bk b2 c) w5) := by
            have e : L ++ bk b2 c = L ++ [c] := by unfold bk; rw [if_neg (fun h => hc32 (by rw [h.1]; rfl))]
            rw [e]; exact H5
          clear H5
          go_wp2_with fail
          go_roundw
          case rel => exact ⟨k + 1, _, _, _, F.out.1, by simp, rfl, by rw [F.out.2.1]; exact H6⟩
          case measure => have := F.out.1; simp [intOf]; omega
      · have hk2 : k = v.size := by omega
        subst hk2
        have k1 : ¬ (v.size : Int) < (v.size : Int) := by omega
        have ht : v.data.toList.take v.size = v.data.toList := by rw [List.take_of_length_le (by rw [hL.out]; exact Nat.le_refl _)]
        rw [ht] at hI
        have hln : ([9] ++ v.data.toList.flatMap (bk b2)).length ≤ 4294967296 := by
          have := bk_len b2 v.data.toList
          have := hL.out
          rw [List.length_append]
          simp only [List.length_cons, List.length_nil]
          omega
        cases b3 with
        | true =>
          obtain ⟨ya, yn, yc, w5, e9, h9⟩ := bi_more hI.out [32, 13] (by simp only [List.length_cons, List.length_nil]; omega)
          have e9' : Hid ((Builtin.append_ #[53, 53] 53 #[.slice za zn zc, .slice (some ⟨wr.heap.size, 0, none⟩) 2 2]).run Tryd.prog (wr.alloc (.cells #[.int .u8 32, .int .u8 13] 5)) = .ok (.slice ya yn yc) w5) := e9
          have hcv := bi_conv h9
          have H5 : Hid (Below w.heap.size w w5) := h9.2
          have e : [9] ++ v.data.toList.flatMap (bk b2) ++ [32, 13] = blk true b2 true v.data.toList := by simp [blk]
          rw [e] at hcv
          clear e9 h9 hI hln ht
          go_wp2_with (at_builtin; refine wp_app _ rfl _ _ _ rfl rfl _ _ _ _ rfl rfl e9'.out ?_; clear e9')
          go_ret
          exact ⟨⟨true, b2, true, rfl⟩, H5.out⟩
        | false =>
          have hcv := bi_conv hI.out
          have H5 : Hid (Below w.heap.size w wr) := hI.out.2
          have e : [9] ++ v.data.toList.flatMap (bk b2) = blk true b2 false v.data.toList := by simp [blk]
          rw [e] at hcv
          clear hI hln ht
          go_wp2_with fail
          go_ret
          exact ⟨⟨true, b2, false, rfl⟩, H5.out⟩
  | false =>
    have H1 : Hid (BI w (.slice none 0 0) [] w) := ⟨Du.GOwn.nil _ _ _ _ _, Below.refl _ _⟩
    go_enter Tryd.func10, Tryd.ntmps10
    go_wp2_with fail
    go_loopw [5, 6] (fun lv iv wr => ∃ (k : Nat) (za : Option Addr) (zn zc : Nat), k ≤ v.size ∧ iv = .int .i64 (k : Int) ∧ lv = .slice za zn zc ∧ Hid (BI w (.slice za zn zc) (([] : List UInt8) ++ (v.data.toList.take k).flatMap (bk b2)) wr)) (fun _ iv _ => v.size - (intOf iv).toNat)
    case atStart => exact ⟨0, _, _, _, Nat.zero_le _, rfl, rfl, by simpa using H1⟩
    case round =>
      obtain ⟨k, za, zn, zc, hk, rfl, rfl, hI⟩ := hrel
      have k0 : (0 : Int) ≤ (k : Int) := Int.natCast_nonneg _
      by_cases hlt : k < v.size
      · have k1 : (k : Int) < (v.size : Int) := Int.ofNat_lt.2 hlt
        have hkl : k < v.data.toList.length := by rw [hL.out]; exact hlt
        have htk : (v.data.toList.take (k + 1)).flatMap (bk b2) = (v.data.toList.take k).flatMap (bk b2) ++ bk b2 v.data.toList[k] := by rw [List.take_succ_eq_append_getElem hkl, List.flatMap_append]; simp
        have hvk : (v[k]'hlt) = v.data.toList[k] := by simp; rfl
        obtain ⟨c, hc⟩ : ∃ c, v.data.toList[k] = c := ⟨_, rfl⟩
        rw [hc] at htk hvk
        have hln : (([] : List UInt8) ++ (v.data.toList.take k).flatMap (bk b2)).length ≤ 4294967296 := by
          have := bk_len b2 (v.data.toList.take k)
          rw [List.length_append]
          rw [List.length_take] at this
          rw [List.length_nil]
          omega
        obtain ⟨L, hLL⟩ : ∃ L, ([] : List UInt8) ++ (v.data.toList.take k).flatMap (bk b2) = L := ⟨_, rfl⟩
        rw [hLL] at hI hln
        have F : Hid (k < v.size ∧ ([] : List UInt8) ++ (v.data.toList.take (k + 1)).flatMap (bk b2) = L ++ bk b2 c ∧ L.length ≤ 4294967296) := ⟨hlt, by rw [htk, ← List.append_assoc, hLL], hln⟩
        obtain ⟨ya, yn, yc, w5, e9, h9⟩ := bi_more hI.out [c] (by simp only [List.length_cons, List.length_nil]; omega)
        have e9' : Hid ((Builtin.append_ #[53, 53] 53 #[.slice za zn zc, .slice (some ⟨wr.heap.size, 0, none⟩) 1 1]).run Tryd.prog (wr.alloc (.cells #[.int .u8 (c.toNat : Int)] 5)) = .ok (.slice ya yn yc) w5) := e9
        have H5 : Hid (BI w (.slice ya yn yc) (L ++ [c]) w5) := h9
        clear e9 h9 hI htk hc hln hLL hkl hk
        go_upto_region 8 with (at_builtin; refine wp_app _ rfl _ _ _ rfl rfl _ _ _ _ rfl rfl e9'.out ?_; clear e9')
        by_cases hc32 : (c.toNat : Int) = 32
        · have hcc : c = 32 := UInt8.toNat_inj.1 (by have : (32 : UInt8).toNat = 32 := rfl; omega)
          cases b2 with
          | true =>
            obtain ⟨za2, zn2, zc2, w6, e9, h9⟩ := bi_more H5.out [10, 32] (by have := F.out.2.2; simp only [List.length_append, List.length_cons, List.length_nil]; omega)
            have e9' : Hid ((Builtin.append_ #[53, 53] 53 #[.slice ya yn yc, .slice (some ⟨w5.heap.size, 0, none⟩) 2 2]).run Tryd.prog (w5.alloc (.cells #[.int .u8 10, .int .u8 32] 5)) = .ok (.slice za2 zn2 zc2) w6) := e9
            have H6 : Hid (BI w (.slice za2 zn2 zc2) (L ++ bk true c) w6) := by
              have e : L ++ bk true c = (L ++ [c]) ++ [10, 32] := by subst hcc; simp [bk]
              rw [e]; exact h9
            clear e9 h9 H5
            go_wp2_with (at_builtin; refine wp_app _ rfl _ _ _ rfl rfl _ _ _ _ rfl rfl e9'.out ?_; clear e9')
            go_roundw
            case rel => exact ⟨k + 1, _, _, _, F.out.1, by simp, rfl, by rw [F.out.2.1]; exact H6⟩
            case measure => have := F.out.1; simp [intOf]; omega
          | false =>
            have H6 : Hid (BI w (.slice ya yn yc) (L ++ bk false c) w5) := by
              have e : L ++ bk false c = L ++ [c] := by simp [bk]
              rw [e]; exact H5
            clear H5
            go_wp2_with fail
            go_roundw
            case rel => exact ⟨k + 1, _, _, _, F.out.1, by simp, rfl, by rw [F.out.2.1]; exact H6⟩
            case measure => have := F.out.1; simp [intOf]; omega
        · have H6 : Hid (BI w (.slice ya yn yc) (L ++ bk b2 c) w5) := by
            have e : L ++ bk b2 c = L ++ [c] := by unfold bk; rw [if_neg (fun h => hc32 (by rw [h.1]; rfl))]
            rw [e]; exact H5
          clear H5
          go_wp2_with fail
          go_roundw
          case rel => exact ⟨k + 1, _, _, _, F.out.1, by simp, rfl, by rw [F.out.2.1]; exact H6⟩
          case measure => have := F.out.1; simp [intOf]; omega
      · have hk2 : k = v.size := by omega
        subst hk2
        have k1 : ¬ (v.size : Int) < (v.size : Int) := by omega
        have ht : v.data.toList.take v.size = v.data.toList := by rw [List.take_of_length_le (by rw [hL.out]; exact Nat.le_refl _)]
        rw [ht] at hI
        have hln : (([] : List UInt8) ++ v.data.toList.flatMap (bk b2)).length ≤ 4294967296 := by
          have := bk_len b2 v.data.toList
          have := hL.out
          rw [List.length_append]
          rw [List.length_nil]
          omega
        cases b3 with
        | true =>
          obtain ⟨ya, yn, yc, w5, e9, h9⟩ := bi_more hI.out [32, 13] (by simp only [List.length_cons, List.length_nil]; omega)
          have e9' : Hid ((Builtin.append_ #[53, 53] 53 #[.slice za zn zc, .slice (some ⟨wr.heap.size, 0, none⟩) 2 2]).run Tryd.prog (wr.alloc (.cells #[.int .u8 32, .int .u8 13] 5)) = .ok (.slice ya yn yc) w5) := e9
          have hcv := bi_conv h9
          have H5 : Hid (Below w.heap.size w w5) := h9.2
          have e : ([] : List UInt8) ++ v.data.toList.flatMap (bk b2) ++ [32, 13] = blk false b2 true v.data.toList := by simp [blk]
          rw [e] at hcv
          clear e9 h9 hI hln ht
          go_wp2_with (at_builtin; refine wp_app _ rfl _ _ _ rfl rfl _ _ _ _ rfl rfl e9'.out ?_; clear e9')
          go_ret
          exact ⟨⟨false, b2, true, rfl⟩, H5.out⟩
        | false =>
          have hcv := bi_conv hI.out
          have H5 : Hid (Below w.heap.size w wr) := hI.out.2
          have e : ([] : List UInt8) ++ v.data.toList.flatMap (bk b2) = blk false b2 false v.data.toList := by simp [blk]
          rw [e] at hcv
          clear hI hln ht
          go_wp2_with fail
          go_ret
          exact ⟨⟨false, b2, false, rfl⟩, H5.out⟩
end Bl
end Go.Proofs.YtoiilplnhecokaaDoor

namespace Go.Proofs.YtoiilplnhecokaaDoor
namespace Bl
open Go.RowKit
set_option linter.unusedVariables false

/-- A row of numbers that came in. -/
def NRw (w : World) (a : Option Addr) (n : Nat) : Prop := ∀ i, i < n → ∃ b off x, a = some ⟨b, off, none⟩ ∧ w.cell? ⟨b, off + i, none⟩ = some (.int .i64 x)
/-- The picks: their box, the numbers, how many were used. -/
def Pk (w : World) (g : Nat) (a : Option Addr) (n c I : Nat) : Prop := w.heap[g]? = some (.cells #[.slice a n c, .int .i64 (I : Int)] 34 (0, 0)) ∧ NRw w a n
theorem mod_pos (x m : Int) (h : 0 < m) : -m < x.tmod m ∧ x.tmod m < m := ⟨by have := Int.lt_tmod_of_pos x h; omega, Int.tmod_lt_of_pos x h⟩
/-- What next answers. -/
def NxQ (m : Int) (e : Ending) : Prop := ∃ k : Nat, e = .returned (.int .i64 (k : Int)) ∧ (k : Int) < m
set_option maxRecDepth 100000 in
set_option maxHeartbeats 4000000 in
theorem next_any (g : Nat) (a : Option Addr) (n c I : Nat) (m : Int) (w : World) (h : Pk w g a n c I) (hm : 0 < m) (hm2 : m ≤ 1048576) (hI : I ≤ 1073741824) (hn : n ≤ 1073741824) :
    Calls Tryd.prog 7 #[.pointer (some ⟨g, 0, none⟩), .int .i64 m] w fun e w' => NxQ m e ∧ (w' = w ∨ ∃ q, w' = (w.drewN q).setCell ⟨g, 1, none⟩ (.int .i64 ((I + 1 : Nat) : Int))) := by
  have c0 : w.cell? ⟨g, 0, none⟩ = some (.slice a n c) := by simp [World.cell?, h.1]
  have c1 : w.cell? ⟨g, 1, none⟩ = some (.int .i64 (I : Int)) := by simp [World.cell?, h.1]
  by_cases h0 : n = 0
  · subst h0
    clear c1 hI hn
    go_enter Tryd.func7, Tryd.ntmps7
    go_wp2_with fail
    go_ret
    exact ⟨⟨0, rfl, hm⟩, Or.inl rfl⟩
  · have hz : w.frozen? ⟨g, 1, none⟩ = false := by simp [World.frozen?, h.1]
    have n1 : ((n : Int) == 0) = false := by simp; omega
    have n2 : (n : Int) ≠ 0 := by omega
    have i0 : (0 : Int) ≤ (I : Int) := Int.natCast_nonneg _
    have im : (I : Int).tmod (n : Int) = ((I % n : Nat) : Int) := by rw [Int.tmod_eq_emod_of_nonneg i0]; simp
    have il : I % n < n := Nat.mod_lt _ (by omega)
    obtain ⟨b, off, x, rfl, cx⟩ := h.2 (I % n) il
    obtain ⟨j, hj⟩ : ∃ j, I % n = j := ⟨_, rfl⟩
    rw [hj] at im il cx
    have j0 : (0 : Int) ≤ (j : Int) := Int.natCast_nonneg _
    have j1 : (j : Int) < (n : Int) := Int.ofNat_lt.2 il
    have hmp := mod_pos x m hm
    obtain ⟨y, hy⟩ : ∃ y, x.tmod m = y := ⟨_, rfl⟩
    rw [hy] at hmp
    have m0 : m ≠ 0 := by omega
    clear h hj il h0
    go_enter Tryd.func7, Tryd.ntmps7
    go_wp2_with fail
    have hzd : ∀ q, (w.drewN q).cell? ⟨g, 1, none⟩ = some (.int .i64 (I : Int)) ∧ (w.drewN q).frozen? ⟨g, 1, none⟩ = false := fun q => ⟨c1, hz⟩
    have eI : Hid ((I : Int) + 1 = ((I + 1 : Nat) : Int)) := by unfold Hid; omega
    have hm2' : Hid (m ≤ 1048576) := hm2
    have hmp' : Hid (-m < y ∧ y < m) := hmp
    go_quiet (fail)
    rename_i nq
    obtain ⟨d1, d2⟩ := hzd nq
    have HD : Hid (∃ q, w.drewN nq = w.drewN q) := ⟨nq, rfl⟩
    obtain ⟨w2, hw2⟩ : ∃ W, w.drewN nq = W := ⟨_, rfl⟩
    rw [hw2] at d1 d2 HD ⊢
    clear c0 c1 cx hz hzd hw2 hm2 hn im j0 j1 i0 n1 n2 hmp hy m0
    by_cases hy0 : y < 0
    · have hw : wrap64 (y + m) = y + m := by have := hm2'.out; have := hmp'.out; unfold wrap64; omega
      obtain ⟨k, hk⟩ : ∃ k : Nat, y + m = (k : Int) := ⟨(y + m).toNat, by have := hmp'.out; omega⟩
      have F : Hid (NxQ m (.returned (.int .i64 (wrap64 (y + m))))) := ⟨k, by rw [hw, hk], by have := hmp'.out; omega⟩
      clear hk hw
      go_wp2_with fail
      go_ret
      obtain ⟨q, hq⟩ := HD.out
      exact ⟨F.out, Or.inr ⟨q, by rw [← hq, show ((I + 1 : Nat) : Int) = (I : Int) + 1 from by omega]⟩⟩
    · obtain ⟨k, hk⟩ : ∃ k : Nat, y = (k : Int) := ⟨y.toNat, by omega⟩
      have F : Hid (NxQ m (.returned (.int .i64 y))) := ⟨k, by rw [hk], by have := hmp'.out; omega⟩
      clear hk
      go_wp2_with fail
      go_ret
      obtain ⟨q, hq⟩ := HD.out
      exact ⟨F.out, Or.inr ⟨q, by rw [← hq]⟩⟩
end Bl
end Go.Proofs.YtoiilplnhecokaaDoor

namespace Go.Proofs.YtoiilplnhecokaaDoor
namespace Bl
open Go.RowKit
open TextMath (fold lo normal check)
open Ke (utf cn tyOk tyC tyR OkI OkP OkD keyTx keys Alike key_same PR okP_nodup)
open Du (PRow DRow PX GRow GOwn sd sd_len pV xV pV_len xV_len PO CpQ drow_at prow_at)
set_option linter.unusedVariables false
set_option maxRecDepth 100000

def kp (p : PR) : Bool × Bool × PR := (tyOk p.1, utf p.2, cn p)
/-- The same pairs in another order, spelt otherwise. -/
def Pm (a b : List PR) : Prop := (a.map kp).Perm (b.map kp)
theorem Pm.refl (a : List PR) : Pm a a := List.Perm.refl _
theorem Pm.len {a b : List PR} (h : Pm a b) : a.length = b.length := by simpa using h.length_eq
theorem Pm.ok {a b : List PR} (h : Pm a b) (hb : OkP b) : OkP a := by
  have hl := h.len
  have hall : ∀ p ∈ a, tyOk p.1 = true ∧ utf p.2 = true := fun p hp => by
    have h1 := h.subset (List.mem_map_of_mem (f := kp) hp)
    obtain ⟨q, hq, e⟩ := List.mem_map.1 h1
    obtain ⟨i, hi, rfl⟩ := List.getElem_of_mem hq
    obtain ⟨_, q1, _, q2⟩ := hb.2.2 i hi
    unfold kp at e
    injection e with e1 e2
    injection e2 with e2 _
    exact ⟨by rw [← e1]; exact q1, by rw [← e2]; exact q2⟩
  have hnd : (a.map fun p => tyC p.1).Nodup := by
    have h1 := okP_nodup hb
    have e : ∀ l : List PR, (l.map cn).map Prod.fst = (l.map kp).map fun x => x.2.2.1 := fun l => by rw [List.map_map, List.map_map]; rfl
    rw [e] at h1
    have h2 := ((h.map fun x => x.2.2.1).nodup_iff).2 h1
    rw [List.map_map] at h2
    exact h2
  refine ⟨by rw [hl]; exact hb.1, by rw [hl]; exact hb.2.1, fun i hi => ⟨hi, (hall _ (List.getElem_mem hi)).1, fun hm => ?_, (hall _ (List.getElem_mem hi)).2⟩⟩
  obtain ⟨p, hp, e⟩ := List.mem_map.1 hm
  rw [List.mem_take_iff_getElem] at hp
  obtain ⟨j, hj, rfl⟩ := hp
  unfold List.Nodup at hnd
  rw [List.pairwise_iff_getElem] at hnd
  have := hnd j i (by rw [List.length_map]; omega) (by rw [List.length_map]; exact hi) (by omega)
  rw [List.getElem_map, List.getElem_map] at this
  exact this e
theorem Pm.key {a b : List PR} (h : Pm a b) (hb : OkP b) : keyTx a = keyTx b := by
  refine (key_same (h.ok hb) hb).2 ⟨h.len, fun p hp => ?_⟩
  have h1 := h.subset (List.mem_map_of_mem (f := kp) hp)
  obtain ⟨q, hq, e⟩ := List.mem_map.1 h1
  unfold kp at e
  injection e with _ e
  injection e with _ e
  exact ⟨q, hq, e⟩
/-- One pair spelt otherwise, and put elsewhere. -/
theorem Pm.step {a b : List PR} (h : Pm a b) (j k : Nat) (hj : j < a.length) (hk : k < a.length) (q : PR) (hq : kp q = kp a[j]) :
    Pm (((a.set j q).set j ((a.set j q)[k]'(by rw [List.length_set]; exact hk))).set k ((a.set j q)[j]'(by rw [List.length_set]; exact hj))) b := by
  have h1 : Pm (a.set j q) b := by
    unfold Pm at *
    rw [List.map_set, hq]
    have e : (a.map kp).set j (kp a[j]) = a.map kp := by
      have : kp a[j] = (a.map kp)[j]'(by rw [List.length_map]; exact hj) := by simp
      rw [this]
      exact List.set_getElem_self _
    rw [e]
    exact h
  exact (List.Perm.map kp (@List.set_set_perm _ (a.set j q) j k (by rw [List.length_set]; exact hj) (by rw [List.length_set]; exact hk))).trans h1
theorem kp_eq {t t' v v' : List UInt8} (h1 : (tyR t').1 = (tyR t).1) (h2 : (tyR t').2.1 = (tyR t).2.1) (hu : utf v = true) (hu' : utf v' = true) (hn : normal v' = normal v) : kp (t', v') = kp (t, v) := by
  unfold kp cn tyOk tyC
  simp only [h1, h2, hu, hu', hn]
/-- What blanks and otherCase make of a value. -/
theorem val_eq {v v1 : List UInt8} (hf : fold v1 = fold v) (hu : utf v = true) (b1 b2 b3 : Bool) : utf (blk b1 b2 b3 v1) = true ∧ normal (blk b1 b2 b3 v1) = normal v := by
  have hu1 : utf v1 = true := by unfold utf at *; rw [fold_same_check hf]; exact hu
  exact ⟨utf_blk _ _ _ _ hu1, by rw [normal_blk, fold_same_normal hf]⟩

/-- A block of pairs. -/
def PBk (W : World) (g : Nat) (ps : List PR) : Prop := ∃ cs, W.heap[g]? = some (.cells cs 40 (0, 0)) ∧ ∀ k (h : k < ps.length), cs[k * 2]? = some (.string (S ps[k].1)) ∧ cs[k * 2 + 1]? = some (.string (S ps[k].2))
theorem PBk.cell {W : World} {g : Nat} {ps : List PR} (h : PBk W g ps) (k : Nat) (hk : k < ps.length) : W.cell? ⟨g, k * 2, none⟩ = some (.string (S ps[k].1)) ∧ W.cell? ⟨g, k * 2 + 1, none⟩ = some (.string (S ps[k].2)) ∧ W.frozen? ⟨g, k * 2, none⟩ = false ∧ W.frozen? ⟨g, k * 2 + 1, none⟩ = false := by
  obtain ⟨cs, h1, h2⟩ := h
  obtain ⟨h3, h4⟩ := h2 k hk
  exact ⟨by rw [cell_of_row _ _ _ _ _ _ h1]; exact h3, by rw [cell_of_row _ _ _ _ _ _ h1]; exact h4, Go.frozen_of_row _ _ _ _ _ h1, Go.frozen_of_row _ _ _ _ _ h1⟩
theorem PBk.prow {W : World} {g : Nat} {ps : List PR} (h : PBk W g ps) : PRow W (some ⟨g, 0, none⟩) ps := fun i hi => by
  refine ⟨g, 0, rfl, fun j hj => ?_⟩
  obtain ⟨h1, h2, _⟩ := h.cell i hi
  rw [Nat.zero_add]
  match j, hj with
  | 0, _ => exact h1
  | 1, _ => exact h2
theorem PBk.set1 {W : World} {g : Nat} {ps : List PR} (h : PBk W g ps) (j : Nat) (hj : j < ps.length) (t : List UInt8) : PBk (W.setCell ⟨g, j * 2, none⟩ (.string (S t))) g (ps.set j (t, ps[j].2)) := by
  obtain ⟨cs, h1, h2⟩ := h
  refine ⟨_, Go.heap_setCell_same _ _ _ _ _ _ h1, fun k hk => ?_⟩
  rw [List.length_set] at hk
  obtain ⟨h3, h4⟩ := h2 k hk
  have hs : k * 2 + 1 < cs.size := by
    rcases Nat.lt_or_ge (k * 2 + 1) cs.size with h | h
    · exact h
    · rw [Array.getElem?_eq_none h] at h4; cases h4
  rw [Array.getElem?_setIfInBounds, Array.getElem?_setIfInBounds]
  by_cases e : k = j
  · subst e
    rw [if_pos rfl, if_pos (by omega), if_neg (by omega)]
    simp only [List.getElem_set_self]
    exact ⟨trivial, h4⟩
  · rw [if_neg (by omega), if_neg (by omega), List.getElem_set_ne (by omega)]
    exact ⟨h3, h4⟩
theorem PBk.set2 {W : World} {g : Nat} {ps : List PR} (h : PBk W g ps) (j : Nat) (hj : j < ps.length) (t : List UInt8) : PBk (W.setCell ⟨g, j * 2 + 1, none⟩ (.string (S t))) g (ps.set j (ps[j].1, t)) := by
  obtain ⟨cs, h1, h2⟩ := h
  refine ⟨_, Go.heap_setCell_same _ _ _ _ _ _ h1, fun k hk => ?_⟩
  rw [List.length_set] at hk
  obtain ⟨h3, h4⟩ := h2 k hk
  have hs : k * 2 + 1 < cs.size := by
    rcases Nat.lt_or_ge (k * 2 + 1) cs.size with h | h
    · exact h
    · rw [Array.getElem?_eq_none h] at h4; cases h4
  rw [Array.getElem?_setIfInBounds, Array.getElem?_setIfInBounds]
  by_cases e : k = j
  · subst e
    rw [if_neg (by omega), if_pos rfl, if_pos hs]
    simp only [List.getElem_set_self]
    exact ⟨h3, trivial⟩
  · rw [if_neg (by omega), if_neg (by omega), List.getElem_set_ne (by omega)]
    exact ⟨h3, h4⟩
theorem PBk.put {W : World} {g : Nat} {ps : List PR} (h : PBk W g ps) (j : Nat) (hj : j < ps.length) (q : PR) : PBk ((W.setCell ⟨g, j * 2, none⟩ (.string (S q.1))).setCell ⟨g, j * 2 + 1, none⟩ (.string (S q.2))) g (ps.set j q) := by
  have h1 := (h.set1 j hj q.1).set2 j (by rw [List.length_set]; exact hj) q.2
  rw [List.set_set] at h1
  have e : ((ps.set j (q.1, ps[j].2))[j]'(by rw [List.length_set]; exact hj)).1 = q.1 := by simp
  rw [e] at h1
  exact h1
theorem PBk.of {W W' : World} {g : Nat} {ps : List PR} (h : PBk W g ps) (he : W'.heap[g]? = W.heap[g]?) : PBk W' g ps := by
  obtain ⟨cs, h1, h2⟩ := h
  exact ⟨cs, by rw [he]; exact h1, h2⟩
theorem PBk.lt {W : World} {g : Nat} {ps : List PR} (h : PBk W g ps) : g < W.heap.size := by
  obtain ⟨cs, h1, h2⟩ := h
  exact (Array.getElem?_eq_some_iff.1 h1).1
/-- A name that is a copy of the call's own: its list at ge, its parts each in a block of their own, all from B on. -/
def St (B : Nat) (W : World) (ge : Nat) (Ls : List PX) : Prop :=
  GRow 1 xV W (some ⟨ge, 0, none⟩) Ls ∧ B ≤ ge ∧ (∀ i (h : i < Ls.length), ∃ g, Ls[i].1 = some ⟨g, 0, none⟩ ∧ B ≤ g ∧ g ≠ ge ∧ PBk W g Ls[i].2.2 ∧ Ls[i].2.2.length ≤ Ls[i].2.1 ∧ Ls[i].2.1 ≤ maxLen) ∧ (∀ i j (hi : i < Ls.length) (hj : j < Ls.length), i < j → Ls[i].1 ≠ Ls[j].1)
theorem cell_of_heap {W W' : World} {b o : Nat} (h : W'.heap[b]? = W.heap[b]?) : W'.cell? ⟨b, o, none⟩ = W.cell? ⟨b, o, none⟩ := by unfold World.cell?; rw [h]
theorem St.same {B : Nat} {W W' : World} {ge : Nat} {Ls : List PX} (h : St B W ge Ls) (he : ∀ b, B ≤ b → b < W.heap.size → W'.heap[b]? = W.heap[b]?) : St B W' ge Ls := by
  obtain ⟨h1, h2, h3, h4⟩ := h
  refine ⟨fun i hi => ?_, h2, fun i hi => ?_, h4⟩
  · obtain ⟨b, off, e, h5⟩ := h1 i hi
    refine ⟨b, off, e, fun j hj => ?_⟩
    rw [← h5 j hj]
    injection e with e
    injection e with e1 _
    have hc := h5 j hj
    have hlt : b < W.heap.size := by
      have : (xV Ls[i])[j]? = some (.slice Ls[i].1 Ls[i].2.2.length Ls[i].2.1) := by
        have : j = 0 := by omega
        subst this; rfl
      rw [this] at hc
      exact World.block_lt_of_cell? _ _ hc
    exact cell_of_heap (he b (by omega) hlt)
  · obtain ⟨g, e, h5, h6, h7, h8⟩ := h3 i hi
    exact ⟨g, e, h5, h6, h7.of (he g h5 h7.lt), h8⟩
theorem St.below {B : Nat} {W W' : World} {ge : Nat} {Ls : List PX} (h : St B W ge Ls) (hb : Below W.heap.size W W') : St B W' ge Ls := h.same fun b _ hlt => hb.block b hlt
theorem St.drow {B : Nat} {W : World} {ge : Nat} {Ls : List PX} (h : St B W ge Ls) : DRow W (some ⟨ge, 0, none⟩) Ls := by
  obtain ⟨h1, h2, h3, h4⟩ := h
  refine ⟨h1, fun r hr => ?_⟩
  obtain ⟨i, hi, rfl⟩ := List.getElem_of_mem hr
  obtain ⟨g, e, h5, h6, h7, h8⟩ := h3 i hi
  rw [e]
  exact ⟨h7.prow, h8⟩
/-- One part is turned. -/
theorem St.turn {B : Nat} {W W' : World} {ge : Nat} {Ls : List PX} (h : St B W ge Ls) (i : Nat) (hi : i < Ls.length) (g : Nat) (hg : Ls[i].1 = some ⟨g, 0, none⟩) (ps : List PR) (hp : PBk W' g ps) (hl : ps.length = Ls[i].2.2.length) (he : ∀ b, b ≠ g → W'.heap[b]? = W.heap[b]?) :
    St B W' ge (Ls.set i (some ⟨g, 0, none⟩, Ls[i].2.1, ps)) := by
  obtain ⟨h1, h2, h3, h4⟩ := h
  obtain ⟨g', e', h5, h6, h7, h8, h9⟩ := h3 i hi
  have eg : g' = g := by
    rw [hg] at e'
    injection e' with e'
    injection e' with e'
    exact e'.symm
  subst eg
  refine ⟨fun k hk => ?_, h2, fun k hk => ?_, fun k j hk hj hkj => ?_⟩
  · rw [List.length_set] at hk
    obtain ⟨b, off, e, q⟩ := h1 k hk
    refine ⟨b, off, e, fun j hj => ?_⟩
    injection e with e
    injection e with e1 _
    rw [cell_of_heap (he b (by omega)), q j hj]
    by_cases hki : k = i
    · subst hki
      rw [List.getElem_set_self]
      unfold xV
      rw [hg, hl]
    · rw [List.getElem_set_ne (by omega)]
  · rw [List.length_set] at hk
    by_cases hki : k = i
    · subst hki
      rw [List.getElem_set_self]
      exact ⟨g', rfl, h5, h6, hp, by dsimp only; rw [hl]; exact h8, h9⟩
    · rw [List.getElem_set_ne (by omega)]
      obtain ⟨g2, e2, r5, r6, r7, r8⟩ := h3 k hk
      have hne : g2 ≠ g' := fun e => by
        rcases Nat.lt_or_ge k i with q | q
        · exact h4 k i hk hi q (by rw [e2, hg, e])
        · exact h4 i k hi hk (by omega) (by rw [e2, hg, e])
      exact ⟨g2, e2, r5, r6, r7.of (he g2 hne), r8⟩
  · rw [List.length_set] at hk hj
    have key : ∀ m (hm : m < Ls.length), ((Ls.set i (some ⟨g', 0, none⟩, Ls[i].2.1, ps))[m]'(by rw [List.length_set]; exact hm)).1 = Ls[m].1 := fun m hm => by
      by_cases e : m = i
      · subst e; rw [List.getElem_set_self, hg]
      · rw [List.getElem_set_ne (by omega)]
    rw [key k hk, key j hj]
    exact h4 k j hk hj hkj
/-- What copyDN gave. -/
theorem st_of {w w' : World} {L : List PX} {n : Nat} {a : Option Addr} {c : Nat} {Os : List PX} (h : CpQ w L n a c Os w') : ∃ ge, a = some ⟨ge, 0, none⟩ ∧ St w.heap.size w' ge Os := by
  obtain ⟨h1, h2, h3, ⟨g, zg, rfl, h4, h4'⟩, h5, h6, h7, h8⟩ := h
  have hg : w.heap.size ≤ g := (World.ownsRow.lt (show w'.ownsRow w.heap.size 36 1 _ _ _ from h4) g rfl).1
  refine ⟨g, rfl, ?_, hg, fun i hi => ?_, h8⟩
  · obtain ⟨a, c, e, _, _, hr⟩ := h4.row xV_len
    injection e with e1 _ e2
    subst e1
    exact hr.front
  · obtain ⟨g2, e2, h9⟩ := h6 _ (List.getElem_mem hi)
    obtain ⟨q1, q2, q3⟩ := Ke.po_row (h6 _ (List.getElem_mem hi))
    refine ⟨g2, e2, (World.ownsRow.lt (show w'.ownsRow w.heap.size 40 2 _ _ _ from h9) g2 rfl).1, fun e => ?_, ?_, by omega, q3⟩
    · subst e
      exact Du.owns_apart (show w'.ownsRow w.heap.size 40 2 _ _ _ from h9) (show w'.ownsRow w.heap.size 36 1 _ _ _ from h4) (by decide) (g := g2) rfl rfl
    · rcases h9.2 with ⟨e, _⟩ | ⟨g', cap, cur, e, k3, hb, k5, k6, k7, k8⟩
      · cases e
      · have eg : g' = g2 := by
          injection e with e1
          injection e1 with e1
          injection e1 with e1
          exact e1.symm
        subst eg
        refine ⟨cur, hb, fun k hk => ?_⟩
        rw [e2] at q1
        obtain ⟨b, off, e, hc⟩ := q1 k hk
        injection e with e
        injection e with e1 e3
        subst e1 e3
        have c0 := hc 0 (by omega)
        have c1 := hc 1 (by omega)
        rw [cell_of_row _ _ _ _ _ _ hb, Nat.zero_add] at c0 c1
        exact ⟨c0, c1⟩
end Bl
end Go.Proofs.YtoiilplnhecokaaDoor

namespace Go.Proofs.YtoiilplnhecokaaDoor
namespace Bl
open Go.RowKit
open TextMath (fold lo normal check)
open Ke (utf cn tyOk tyC tyR OkI OkP OkD keyTx keys PR)
open Du (PRow DRow PX GRow GOwn sd sd_len pV xV pV_len xV_len)
set_option linter.unusedVariables false
set_option maxRecDepth 100000

/-- How things stand between two calls of the loop. -/
def RS (w0 : World) (gp : Nat) (a : Option Addr) (pn pc I ge : Nat) (Ls : List PX) (W : World) : Prop :=
  NRw w0 a pn ∧ Below w0.heap.size w0 W ∧ w0.heap.size ≤ gp ∧ W.heap[gp]? = some (.cells #[.slice a pn pc, .int .i64 (I : Int)] 34 (0, 0)) ∧ St (gp + 1) W ge Ls
variable {w0 : World} {gp : Nat} {a : Option Addr} {pn pc I ge : Nat} {Ls : List PX} {W W' : World}
theorem RS.pk (h : RS w0 gp a pn pc I ge Ls W) : Pk W gp a pn pc I := by
  obtain ⟨h1, h2, h3, h4, h5⟩ := h
  refine ⟨h4, fun i hi => ?_⟩
  obtain ⟨b, off, x, e, hc⟩ := h1 i hi
  exact ⟨b, off, x, e, by rw [h2.cell (World.block_lt_of_cell? _ _ hc)]; exact hc⟩
theorem RS.below (h : RS w0 gp a pn pc I ge Ls W) (hb : Below W.heap.size W W') : RS w0 gp a pn pc I ge Ls W' := by
  obtain ⟨h1, h2, h3, h4, h5⟩ := h
  exact ⟨h1, h2.trans (hb.mono h2.size), h3, by rw [hb.block gp (Array.getElem?_eq_some_iff.1 h4).1]; exact h4, h5.below hb⟩
theorem RS.next (h : RS w0 gp a pn pc I ge Ls W) (hw : W' = W ∨ ∃ q, W' = (W.drewN q).setCell ⟨gp, 1, none⟩ (.int .i64 ((I + 1 : Nat) : Int))) : ∃ I', I' ≤ I + 1 ∧ RS w0 gp a pn pc I' ge Ls W' := by
  rcases hw with rfl | ⟨q, rfl⟩
  · exact ⟨I, by omega, h⟩
  · obtain ⟨h1, h2, h3, h4, h5⟩ := h
    refine ⟨I + 1, Nat.le_refl _, h1, ?_, h3, ?_, ?_⟩
    · exact (h2.trans (Du.drewN_below W _ q)).setCell (p := ⟨gp, 1, none⟩) h3 _
    · rw [Go.heap_setCell_same (W.drewN q) gp 1 _ _ _ h4]
      simp
    · refine h5.same fun b hb _ => ?_
      rw [Go.heap_setCell_other (W.drewN q) ⟨gp, 1, none⟩ b _ (by show b ≠ gp; omega)]
      rfl
theorem RS.part (h : RS w0 gp a pn pc I ge Ls W) (i : Nat) (hi : i < Ls.length) : ∃ g, Ls[i].1 = some ⟨g, 0, none⟩ ∧ gp + 1 ≤ g ∧ PBk W g Ls[i].2.2 := by
  obtain ⟨g, e, h1, h2, h3, _⟩ := h.2.2.2.2.2.2.1 i hi
  exact ⟨g, e, h1, h3⟩
theorem RS.cell (h : RS w0 gp a pn pc I ge Ls W) (i : Nat) (hi : i < Ls.length) : W.cell? ⟨ge, i, none⟩ = some (.slice Ls[i].1 Ls[i].2.2.length Ls[i].2.1) := by
  obtain ⟨b, off, e, h1⟩ := h.2.2.2.2.1 i hi
  injection e with e
  injection e with e1 e2
  subst e1 e2
  have := h1 0 (by omega)
  rw [Nat.mul_one, Nat.zero_add, Nat.add_zero] at this
  exact this
theorem RS.turn (h : RS w0 gp a pn pc I ge Ls W) (i : Nat) (hi : i < Ls.length) (g : Nat) (hg : Ls[i].1 = some ⟨g, 0, none⟩) (ps : List PR) (hp : PBk W' g ps) (hl : ps.length = Ls[i].2.2.length) (hb : Below w0.heap.size W W') (he : ∀ b, b ≠ g → W'.heap[b]? = W.heap[b]?) (hgp : gp + 1 ≤ g) :
    RS w0 gp a pn pc I ge (Ls.set i (some ⟨g, 0, none⟩, Ls[i].2.1, ps)) W' := by
  obtain ⟨h1, h2, h3, h4, h5⟩ := h
  exact ⟨h1, h2.trans hb, h3, by rw [he gp (by omega)]; exact h4, h5.turn i hi g hg ps hp hl he⟩
theorem RS.put1 (h : RS w0 gp a pn pc I ge Ls W) (i : Nat) (hi : i < Ls.length) (g : Nat) (hg : Ls[i].1 = some ⟨g, 0, none⟩) (j : Nat) (hj : j < Ls[i].2.2.length) (t : List UInt8) :
    RS w0 gp a pn pc I ge (Ls.set i (some ⟨g, 0, none⟩, Ls[i].2.1, Ls[i].2.2.set j (t, Ls[i].2.2[j].2))) (W.setCell ⟨g, j * 2, none⟩ (.string (S t))) := by
  obtain ⟨g', e, h1, h2⟩ := h.part i hi
  rw [hg] at e
  injection e with e
  injection e with e
  subst e
  exact h.turn i hi g hg _ (h2.set1 j hj t) (by rw [List.length_set]) ((Below.refl _ _).setCell (p := ⟨g, j * 2, none⟩) (by have := h.2.2.1; show w0.heap.size ≤ g; omega) _) (fun b hb => Go.heap_setCell_other _ _ _ _ hb) h1
theorem RS.put2 (h : RS w0 gp a pn pc I ge Ls W) (i : Nat) (hi : i < Ls.length) (g : Nat) (hg : Ls[i].1 = some ⟨g, 0, none⟩) (j : Nat) (hj : j < Ls[i].2.2.length) (t : List UInt8) :
    RS w0 gp a pn pc I ge (Ls.set i (some ⟨g, 0, none⟩, Ls[i].2.1, Ls[i].2.2.set j (Ls[i].2.2[j].1, t))) (W.setCell ⟨g, j * 2 + 1, none⟩ (.string (S t))) := by
  obtain ⟨g', e, h1, h2⟩ := h.part i hi
  rw [hg] at e
  injection e with e
  injection e with e
  subst e
  exact h.turn i hi g hg _ (h2.set2 j hj t) (by rw [List.length_set]) ((Below.refl _ _).setCell (p := ⟨g, j * 2 + 1, none⟩) (by have := h.2.2.1; show w0.heap.size ≤ g; omega) _) (fun b hb => Go.heap_setCell_other _ _ _ _ hb) h1
theorem RS.putB (h : RS w0 gp a pn pc I ge Ls W) (i : Nat) (hi : i < Ls.length) (g : Nat) (hg : Ls[i].1 = some ⟨g, 0, none⟩) (j : Nat) (hj : j < Ls[i].2.2.length) (q : PR) :
    RS w0 gp a pn pc I ge (Ls.set i (some ⟨g, 0, none⟩, Ls[i].2.1, Ls[i].2.2.set j q)) ((W.setCell ⟨g, j * 2, none⟩ (.string (S q.1))).setCell ⟨g, j * 2 + 1, none⟩ (.string (S q.2))) := by
  obtain ⟨g', e, h1, h2⟩ := h.part i hi
  rw [hg] at e
  injection e with e
  injection e with e
  subst e
  exact h.turn i hi g hg _ (h2.put j hj q) (by rw [List.length_set]) (((Below.refl _ _).setCell (p := ⟨g, j * 2, none⟩) (by have := h.2.2.1; show w0.heap.size ≤ g; omega) _).setCell (p := ⟨g, j * 2 + 1, none⟩) (by have := h.2.2.1; show w0.heap.size ≤ g; omega) _) (fun b hb => by rw [Go.heap_setCell_other _ _ _ _ hb, Go.heap_setCell_other _ _ _ _ hb]) h1
/-- One part stands so. -/
def RP (w0 : World) (gp : Nat) (a : Option Addr) (pn pc I ge : Nat) (Ls : List PX) (i g cap : Nat) (ps : List PR) (W : World) : Prop :=
  RS w0 gp a pn pc I ge (Ls.set i (some ⟨g, 0, none⟩, cap, ps)) W
theorem RP.below {i g cap : Nat} {ps : List PR} (h : RP w0 gp a pn pc I ge Ls i g cap ps W) (hb : Below W.heap.size W W') : RP w0 gp a pn pc I ge Ls i g cap ps W' := RS.below h hb
theorem RP.start (h : RS w0 gp a pn pc I ge Ls W) (i : Nat) (hi : i < Ls.length) : ∃ g, gp + 1 ≤ g ∧ RP w0 gp a pn pc I ge Ls i g Ls[i].2.1 Ls[i].2.2 W ∧ Ls.set i (some ⟨g, 0, none⟩, Ls[i].2.1, Ls[i].2.2) = Ls := by
  obtain ⟨g, e, h1, _⟩ := h.part i hi
  have : ((some ⟨g, 0, none⟩, Ls[i].2.1, Ls[i].2.2) : PX) = Ls[i] := by rw [← e]
  have hs : Ls.set i (some ⟨g, 0, none⟩, Ls[i].2.1, Ls[i].2.2) = Ls := by rw [this, List.set_getElem_self]
  refine ⟨g, h1, ?_, hs⟩
  unfold RP
  rw [hs]
  exact h
theorem RP.cells {i g cap : Nat} {ps : List PR} (h : RP w0 gp a pn pc I ge Ls i g cap ps W) (hi : i < Ls.length) : W.cell? ⟨ge, i, none⟩ = some (.slice (some ⟨g, 0, none⟩) ps.length cap) ∧ ∀ j (hj : j < ps.length), W.cell? ⟨g, j * 2, none⟩ = some (.string (S ps[j].1)) ∧ W.cell? ⟨g, j * 2 + 1, none⟩ = some (.string (S ps[j].2)) ∧ W.frozen? ⟨g, j * 2, none⟩ = false ∧ W.frozen? ⟨g, j * 2 + 1, none⟩ = false := by
  have hi' : i < (Ls.set i ((some ⟨g, 0, none⟩, cap, ps) : PX)).length := by rw [List.length_set]; exact hi
  have h1 := RS.cell h i hi'
  obtain ⟨g', e, _, h2⟩ := RS.part h i hi'
  simp only [List.getElem_set_self] at h1 e h2
  injection e with e
  injection e with e
  subst e
  exact ⟨h1, fun j hj => h2.cell j hj⟩
theorem RP.next {i g cap : Nat} {ps : List PR} (h : RP w0 gp a pn pc I ge Ls i g cap ps W) (hw : W' = W ∨ ∃ q, W' = (W.drewN q).setCell ⟨gp, 1, none⟩ (.int .i64 ((I + 1 : Nat) : Int))) : ∃ I', I' ≤ I + 1 ∧ RP w0 gp a pn pc I' ge Ls i g cap ps W' := RS.next h hw
theorem RP.put1 {i g cap : Nat} {ps : List PR} (h : RP w0 gp a pn pc I ge Ls i g cap ps W) (hi : i < Ls.length) (j : Nat) (hj : j < ps.length) (t : List UInt8) : RP w0 gp a pn pc I ge Ls i g cap (ps.set j (t, ps[j].2)) (W.setCell ⟨g, j * 2, none⟩ (.string (S t))) := by
  have hi' : i < (Ls.set i ((some ⟨g, 0, none⟩, cap, ps) : PX)).length := by rw [List.length_set]; exact hi
  have := RS.put1 h i hi' g (by simp) j (by simp only [List.getElem_set_self]; exact hj) t
  simp only [List.getElem_set_self, List.set_set] at this
  exact this
theorem RP.put2 {i g cap : Nat} {ps : List PR} (h : RP w0 gp a pn pc I ge Ls i g cap ps W) (hi : i < Ls.length) (j : Nat) (hj : j < ps.length) (t : List UInt8) : RP w0 gp a pn pc I ge Ls i g cap (ps.set j (ps[j].1, t)) (W.setCell ⟨g, j * 2 + 1, none⟩ (.string (S t))) := by
  have hi' : i < (Ls.set i ((some ⟨g, 0, none⟩, cap, ps) : PX)).length := by rw [List.length_set]; exact hi
  have := RS.put2 h i hi' g (by simp) j (by simp only [List.getElem_set_self]; exact hj) t
  simp only [List.getElem_set_self, List.set_set] at this
  exact this
theorem RP.putB {i g cap : Nat} {ps : List PR} (h : RP w0 gp a pn pc I ge Ls i g cap ps W) (hi : i < Ls.length) (j : Nat) (hj : j < ps.length) (q : PR) : RP w0 gp a pn pc I ge Ls i g cap (ps.set j q) ((W.setCell ⟨g, j * 2, none⟩ (.string (S q.1))).setCell ⟨g, j * 2 + 1, none⟩ (.string (S q.2))) := by
  have hi' : i < (Ls.set i ((some ⟨g, 0, none⟩, cap, ps) : PX)).length := by rw [List.length_set]; exact hi
  have := RS.putB h i hi' g (by simp) j (by simp only [List.getElem_set_self]; exact hj) q
  simp only [List.getElem_set_self, List.set_set] at this
  exact this
/-- The bound of a pair's size: turned already, or not yet. -/
def bnd (i j k l : Nat) : Nat := if k < i ∨ (k = i ∧ l < j) then 8388608 else 1048576
theorem bnd_le (i j k l : Nat) : bnd i j k l ≤ 8388608 := by unfold bnd; split <;> omega
/-- What the lists say of one another. -/
def Inv (L Ls : List PX) (i j I : Nat) : Prop := Ls.length = L.length ∧ (∀ k (h : k < Ls.length) (h' : k < L.length), Pm Ls[k].2.2 L[k].2.2) ∧ (∀ k (h : k < Ls.length) l (h' : l < Ls[k].2.2.length), Ls[k].2.2[l].1.length + Ls[k].2.2[l].2.length ≤ bnd i j k l) ∧ I ≤ 64 * i + 4 * j
theorem Inv.row {L Ls : List PX} {i m I : Nat} (h : Inv L Ls i m I) (hi : i < Ls.length) (hm : Ls[i].2.2.length = m) (hm8 : m ≤ 8) : Inv L Ls (i + 1) 0 I := by
  obtain ⟨h1, h2, h3, h4⟩ := h
  refine ⟨h1, h2, fun k hk l hl => Nat.le_trans (h3 k hk l hl) ?_, by omega⟩
  unfold bnd
  by_cases e : k = i
  · subst e
    rw [if_pos (Or.inr ⟨rfl, by omega⟩), if_pos (Or.inl (by omega))]
    exact Nat.le_refl _
  · split
    · rw [if_pos (by omega)]; exact Nat.le_refl _
    · split <;> omega
theorem Inv.step {L Ls : List PX} {i j I I' : Nat} (h : Inv L Ls i j I) (hi : i < Ls.length) (hj : j < Ls[i].2.2.length) (k : Nat) (hk : k ≤ j) (q : PR) (hq : kp q = kp Ls[i].2.2[j]) (hs : q.1.length + q.2.length ≤ 8388608) (hI : I' ≤ I + 4) (x : Option Addr) (y : Nat) (ps : List PR)
    (hps : ps = ((Ls[i].2.2.set j q).set j ((Ls[i].2.2.set j q)[k]'(by rw [List.length_set]; omega))).set k ((Ls[i].2.2.set j q)[j]'(by rw [List.length_set]; exact hj))) : Inv L (Ls.set i (x, y, ps)) i (j + 1) I' := by
  obtain ⟨h1, h2, h3, h4⟩ := h
  have hpl : ps.length = Ls[i].2.2.length := by rw [hps]; simp
  refine ⟨by rw [List.length_set]; exact h1, fun m hm hm' => ?_, fun m hm l hl => ?_, by omega⟩
  · have hq2 : m < Ls.length := by rw [List.length_set] at hm; exact hm
    by_cases e : m = i
    · subst e
      simp only [List.getElem_set_self]
      rw [hps]
      exact (h2 m hq2 hm').step j k hj (by omega) q hq
    · have := h2 m hq2 hm'
      rw [List.getElem_set_ne (by omega)]
      exact this
  · have hq2 : m < Ls.length := by rw [List.length_set] at hm; exact hm
    by_cases e : m = i
    · subst e
      simp only [List.getElem_set_self] at hl ⊢
      have hl2 : l < Ls[m].2.2.length := by omega
      by_cases hlj : l ≤ j
      · have hb : bnd m (j + 1) m l = 8388608 := by unfold bnd; rw [if_pos (Or.inr ⟨rfl, by omega⟩)]
        rw [hb]
        have hX : ∀ z (hz : z < Ls[m].2.2.length), ((Ls[m].2.2.set j q)[z]'(by rw [List.length_set]; exact hz)).1.length + ((Ls[m].2.2.set j q)[z]'(by rw [List.length_set]; exact hz)).2.length ≤ 8388608 := fun z hz => by
          rw [List.getElem_set]
          split
          · exact hs
          · exact Nat.le_trans (h3 m hq2 z hz) (bnd_le _ _ _ _)
        have hmem : ∀ z (hz : z < ps.length), ∃ z' , ∃ hz' : z' < Ls[m].2.2.length, ps[z] = (Ls[m].2.2.set j q)[z']'(by rw [List.length_set]; exact hz') := fun z hz => by
          simp only [hps]
          rw [List.getElem_set]
          split
          · exact ⟨j, hj, rfl⟩
          · rw [List.getElem_set]
            split
            · exact ⟨k, by omega, rfl⟩
            · exact ⟨z, by omega, rfl⟩
        obtain ⟨z', hz', e'⟩ := hmem l hl
        rw [e']
        exact hX z' hz'
      · have e' : ps[l] = Ls[m].2.2[l] := by
          simp only [hps]
          rw [List.getElem_set_ne (by omega), List.getElem_set_ne (by omega), List.getElem_set_ne (by omega)]
        rw [e']
        refine Nat.le_trans (h3 m hq2 l hl2) ?_
        unfold bnd
        rw [if_neg (by omega), if_neg (by omega)]
        exact Nat.le_refl _
    · have hm2 : (Ls.set i ((x, y, ps) : PX))[m]'hm = Ls[m] := List.getElem_set_ne (by omega) _
      have hl2 : l < Ls[m].2.2.length := by rw [← hm2]; exact hl
      simp only [hm2]
      refine Nat.le_trans (h3 m hq2 l hl2) ?_
      unfold bnd
      split
      · rw [if_pos (by omega)]; exact Nat.le_refl _
      · rw [if_neg (by omega)]; exact Nat.le_refl _
theorem Inv.start {L Os : List PX} (hl : Os.length = L.length) (hs : sd Os = sd L) (hz : ∀ r ∈ L, ∀ p ∈ r.2.2, p.1.length + p.2.length ≤ 1048576) : Inv L Os 0 0 0 := by
  have key : ∀ k (h : k < Os.length) (h' : k < L.length), Os[k].2.2 = L[k].2.2 := fun k h h' => by
    have := congrArg (fun l => l[k]?) hs
    simpa [sd, h, h'] using this
  refine ⟨hl, fun k h h' => by rw [key k h h']; exact Pm.refl _, fun k h l h' => ?_, Nat.zero_le _⟩
  have e := key k h (by omega)
  simp only [e] at h' ⊢
  refine Nat.le_trans (hz _ (List.getElem_mem (by omega)) _ (List.getElem_mem h')) ?_
  unfold bnd
  rw [if_neg (by omega)]
  exact Nat.le_refl _
theorem Inv.keys {L Ls : List PX} {i j I : Nat} (h : Inv L Ls i j I) (hD : OkD (sd L)) : OkD (sd Ls) ∧ keys (sd Ls) = keys (sd L) := by
  obtain ⟨h1, h2, h3, h4⟩ := h
  have hL : ∀ k (h' : k < L.length), OkP L[k].2.2 := fun k h' => hD.2 _ (List.mem_map.2 ⟨L[k], List.getElem_mem h', rfl⟩)
  refine ⟨⟨by rw [sd_len, h1, ← sd_len]; exact hD.1, fun r hr => ?_⟩, ?_⟩
  · obtain ⟨x, hx, rfl⟩ := List.mem_map.1 hr
    obtain ⟨k, hk, rfl⟩ := List.getElem_of_mem hx
    exact (h2 k hk (by omega)).ok (hL k (by omega))
  · unfold Ke.keys
    congr 1
    refine List.ext_getElem (by simp [sd, h1]) (fun k hk hk' => ?_)
    have q1 : k < Ls.length := by simpa [sd] using hk
    have q2 : k < L.length := by omega
    simp only [List.getElem_map, sd]
    exact (h2 k q1 q2).key (hL k q2)
/-- What next answers, the state with it. -/
def NxR (w0 : World) (gp : Nat) (a : Option Addr) (pn pc I ge : Nat) (Ls : List PX) (i g cap : Nat) (ps : List PR) (m : Int) (e : Ending) (w' : World) : Prop :=
  ∃ k I' : Nat, e = .returned (.int .i64 (k : Int)) ∧ (k : Int) < m ∧ I' ≤ I + 1 ∧ RP w0 gp a pn pc I' ge Ls i g cap ps w'
theorem next_rp {i g cap : Nat} {ps : List PR} (h : RP w0 gp a pn pc I ge Ls i g cap ps W) (m : Int) (hm : 0 < m) (hm2 : m ≤ 1048576) (hI : I ≤ 1048576) (hn : pn ≤ 1073741824) :
    Calls Tryd.prog 7 #[.pointer (some ⟨gp, 0, none⟩), .int .i64 m] W fun e w' => NxR w0 gp a pn pc I ge Ls i g cap ps m e w' := by
  refine (next_any gp a pn pc I m W (RS.pk h) hm hm2 (by omega) hn).mono ?_
  rintro e w' ⟨⟨k, rfl, hk⟩, hw⟩
  obtain ⟨I', h1, h2⟩ := RP.next h hw
  exact ⟨k, I', rfl, hk, h1, h2⟩
end Bl
end Go.Proofs.YtoiilplnhecokaaDoor
