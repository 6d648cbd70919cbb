import Derived.Test.YtnboimoncpphlabDoorRfCan
import Derived.Test.YtnboimoncpphlabDoorRfPlc
import Derived.Test.YtnboimoncpphlabDoorRfSrtM
import Derived.Test.YtnboimoncpphlabDoorAtParse
import Derived.Test.YtnboimoncpphlabDoorAtInv
namespace Go.Proofs.YtnboimoncpphlabDoor
open Go.RowKit
open TextMath (fold lo)
set_option linter.unusedVariables false

theorem sp_join : ∀ l : List UInt8, l = (sp 59 l).headD [] ++ semis (sp 59 l).tail
  | [] => rfl
  | b :: l => by
    by_cases hb : b = 59
    · subst hb
      rw [sp_at]
      show _ = [] ++ semis (sp 59 l)
      conv => rhs; rw [sp_cons]
      rw [List.nil_append, semis_cons]
      congr 1
      exact sp_join l
    · rw [sp_on 59 b l hb]
      show b :: l = (b :: (sp 59 l).headD []) ++ semis (sp 59 l).tail
      rw [List.cons_append]
      congr 1
      exact sp_join l
theorem no59_of (z : List UInt8) (h : 59 ∉ z) : No59 z := fun b hb e => h (by rw [← e]; exact hb)
theorem fold59 (z : List UInt8) (h : 59 ∉ z) : No59 (fold z) := fun b hb e => by
  obtain ⟨c, hc, rfl⟩ := List.mem_map.1 hb
  exact h (by rw [← (lo_eq 59 c (Or.inl rfl)).1 e]; exact hc)
theorem typ_dfa' (z : List UInt8) (h : typE z = (z.length, true)) : 59 ∉ z := by
  intro hm
  have hd := desc_semis z [] h (by simp)
  have h1 : desc (S z) = ([], (S z).size, true) := by
    have h2 := hd.1
    rw [show semis [] = [] from rfl, List.append_nil] at h2
    exact h2
  have hj := sp_join z
  have hz : (sp 59 z).tail ≠ [] := by
    intro q
    rw [q, show semis [] = [] from rfl, List.append_nil] at hj
    have := (sp_mem 59 z _ (sp_head 59 z)).1
    rw [← hj] at this
    exact this hm
  have hty : typE z = typE ((sp 59 z).headD []) := by
    conv => lhs; rw [hj]
    exact typE_semis _ _
  have hle := typE_le ((sp 59 z).headD [])
  rw [← hty, h] at hle
  have hlen := congrArg List.length hj
  rw [List.length_append] at hlen
  have hpos : 0 < (semis (sp 59 z).tail).length := by
    have := semis_len (sp 59 z).tail
    have := List.length_pos_iff.2 hz
    omega
  simp only at hle
  omega
theorem typK (f : ByteArray) (h : (desc f).2.2 = true) : No59 (typD f).data.toList := by
  obtain ⟨i1, i2, i3, i4⟩ := desc_inv f h
  intro b hb e
  subst e
  have h1 := typ_dfa' (typD f).data.toList i2
  exact h1 hb
theorem desc_parts (l : List UInt8) (h : (desc (S (fold l))).2.2 = true) :
    (typD (S (fold l))).data.toList = fold ((sp 59 l).headD []) ∧ (desc (S (fold l))).1 = (sp 59 l).tail.map fold := by
  obtain ⟨i1, i2, i3, i4⟩ := desc_inv _ h
  have hj : fold l = fold ((sp 59 l).headD []) ++ semis ((sp 59 l).tail.map fold) := by
    conv => lhs; rw [sp_join l]
    rw [fold_app, fold_semis]
  rw [S_l] at i1
  have n1 : No59 (fold ((sp 59 l).headD [])) := fold59 _ (sp_mem 59 l _ (sp_head 59 l)).1
  have n2 : ∀ z ∈ (sp 59 l).tail.map fold, No59 z := fun z hz => by
    obtain ⟨y, hy, rfl⟩ := List.mem_map.1 hz
    exact fold59 y (sp_mem 59 l y (by rw [sp_cons]; exact List.mem_cons_of_mem _ hy)).1
  have n3 : ∀ z ∈ (desc (S (fold l))).1, No59 z := desc_no59 _
  obtain ⟨e1, e2⟩ := split59 _ _ n1 (typK _ h) _ _ n2 n3 (hj.symm.trans i1)
  exact ⟨e1.symm, (semis_inj _ _ n2 n3 e2).symm⟩
/-- What the reference's Parse answers. -/
def RParseIs (W : World) (s f : ByteArray) (e : Ending) : Prop :=
  ((desc f).2.2 = true ∧ ∃ a r c, e = .returned (.tuple #[.agg #[.string (canN (typD f)), .slice a r.length c], .int .i64 0, .int .i64 (s.size : Int)]) ∧ Row W a r ∧ Up r ∧ (∀ z, z ∈ r ↔ z ∈ (desc f).1) ∧ r.length ≤ 4194304) ∨
  ((desc f).2.2 = false ∧ e = .returned (.tuple #[.agg #[.string ⟨#[]⟩, .slice none 0 0], .int .i64 40, .int .i64 ((desc f).2.1 : Int)]))
end Go.Proofs.YtnboimoncpphlabDoor
