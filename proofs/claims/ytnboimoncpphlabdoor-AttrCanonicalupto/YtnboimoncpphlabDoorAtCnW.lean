import Derived.Test.YtnboimoncpphlabDoorAtCnM
import Derived.Test.YtnboimoncpphlabDoorAtEqS
namespace Go.Proofs.YtnboimoncpphlabDoor
open Go.RowKit
open TextMath (fold lo)
set_option linter.unusedVariables false

theorem cnl_cx (W : World) : Calls Tryd.prog 10 #[.string ⟨#[99, 110, 59, 120]⟩] W fun e w' => e = .returned (.tuple #[.string ⟨#[99, 110, 59, 120]⟩, .int .i64 0, .int .i64 4]) ∧ Below W.heap.size W w' := by
  refine (canonicalT_any cxT _ rfl W (by decide)).mono ?_
  rintro e w' ⟨h, hb⟩
  refine ⟨?_, hb⟩
  rcases h with ⟨h1, x, hc, rfl⟩ | ⟨h1, rfl⟩
  · rw [cx_is x hc, desc_cx]
    rfl
  · rw [desc_cx] at h1
    cases h1
theorem cnl_on (W : World) : Calls Tryd.prog 10 #[.string ⟨#[49, 46, 50]⟩] W fun e w' => e = .returned (.tuple #[.string ⟨#[49, 46, 50]⟩, .int .i64 0, .int .i64 3]) ∧ Below W.heap.size W w' := by
  refine (canonicalT_any onT _ rfl W (by decide)).mono ?_
  rintro e w' ⟨h, hb⟩
  refine ⟨?_, hb⟩
  rcases h with ⟨h1, x, hc, rfl⟩ | ⟨h1, rfl⟩
  · rw [on_is x hc, desc_on]
    rfl
  · rw [desc_on] at h1
    cases h1
theorem drewN_below (W : World) (B q : Nat) : Below B W (W.drewN q) := by
  exact ⟨rfl, rfl, rfl, Nat.le_refl _, fun _ _ => rfl⟩
/-- What Canonical and Parse answer of a canonical text. -/
theorem cnl_back (f : ByteArray) (x : List UInt8) (hok : (desc f).2.2 = true) (hf : fold f.data.toList = f.data.toList) (hx : CanIs f x) (hs : f.size ≤ 1048576) (W : World) :
    Calls Tryd.prog 10 #[.string (S x)] W fun e w' => e = .returned (.tuple #[.string (S x), .int .i64 0, .int .i64 ((S x).size : Int)]) ∧ Below W.heap.size W w' := by
  obtain ⟨a1, a2, a3, a4, a5, a6, a7, a8, a9, a10, a11⟩ := can_all f x hok hf hx
  have hz : (S x).size = x.length := by rw [← size_l, S_l]
  refine (canonicalT_any (S x) (S x) (by rw [S_l, a1]) W (by omega)).mono ?_
  rintro e w' ⟨h, hb⟩
  refine ⟨?_, hb⟩
  rcases h with ⟨h1, y, hc, rfl⟩ | ⟨h1, rfl⟩
  · rw [a4 y hc, a3, hz]
  · rw [a2] at h1
    cases h1
theorem par_back (f : ByteArray) (x : List UInt8) (hok : (desc f).2.2 = true) (hf : fold f.data.toList = f.data.toList) (hx : CanIs f x) (hs : f.size ≤ 1048576) (L : List (List UInt8)) (hn : L.Nodup) (hm : ∀ z, z ∈ L ↔ z ∈ (desc f).1) (W : World) :
    Calls Tryd.prog 12 #[.string (S x)] W fun e w' => (∃ a c, e = .returned (.tuple #[.agg #[.string (canN (typD f)), .slice a (srt L).length c], .int .i64 0, .int .i64 ((S x).size : Int)]) ∧ TRow w' a (srt L)) ∧ Below W.heap.size W w' := by
  obtain ⟨a1, a2, a3, a4, a5, a6, a7, a8, a9, a10, a11⟩ := can_all f x hok hf hx
  have hz : (S x).size = x.length := by rw [← size_l, S_l]
  refine (parse_any (S x) (S x) (by rw [S_l, a1]) W (by omega)).mono ?_
  rintro e w' ⟨h, hb⟩
  refine ⟨?_, hb⟩
  rcases h with ⟨h1, v, K, rfl, hO, k1, k2⟩ | ⟨h1, rfl⟩
  · rw [a6 K k1 k2 L hn hm] at hO
    obtain ⟨a, c, rfl, hr⟩ := ownS_trow hO
    exact ⟨a, c, by rw [a5, a3, hz], hr⟩
  · rw [a2] at h1
    cases h1
theorem prt_can (f : ByteArray) (x : List UInt8) (hok : (desc f).2.2 = true) (hf : fold f.data.toList = f.data.toList) (hx : CanIs f x) (hs : f.size ≤ 1048576) (L : List (List UInt8)) (hn : L.Nodup) (hm : ∀ z, z ∈ L ↔ z ∈ (desc f).1) (va : Option Addr) (vc : Nat) (W : World) (hrow : TRow W va (srt L)) :
    Calls Tryd.prog 15 #[.agg #[.string (canN (typD f)), .slice va (srt L).length vc]] W fun e w' => e = .returned (.string (S x)) ∧ Below W.heap.size W w' := by
  obtain ⟨a1, a2, a3, a4, a5, a6, a7, a8, a9, a10, a11⟩ := can_all f x hok hf hx
  have hprt := prt_semis (canN (typD f)).data.toList (fun i => S ((srt L).getD i [])) (srt L) (fun i hi => by rw [S_l, List.getD, List.getElem?_eq_getElem hi, Option.getD_some]) (srt L).length (Nat.le_refl _)
  rw [List.take_length] at hprt
  have hX : Strs W va (srt L).length (fun i => S ((srt L).getD i [])) := fun i hi => by
    obtain ⟨g, e, hc⟩ := hrow i hi
    refine ⟨g, 0, e, ?_⟩
    show W.cell? _ = some (Value.string (S ((srt L).getD i [])))
    rw [Nat.zero_add, hc, List.getD, List.getElem?_eq_getElem hi, Option.getD_some]
  have hx2 := a11 L hn hm
  have hlen := congrArg List.length hx2
  rw [List.length_append, size_l] at hlen
  have h := attrPrint_any (canN (typD f)) va (srt L).length vc _ W hX (by rw [hprt.2]; omega)
  rw [hprt.1, ← hx2] at h
  exact h
theorem srt_small (f : ByteArray) (L : List (List UInt8)) (hn : L.Nodup) (hm : ∀ z, z ∈ L ↔ z ∈ (desc f).1) : (srt L).length ≤ f.size := by
  have h := semis_sub (srt L) (desc f).1 ((List.Nodup.perm hn) (srt_perm L).symm) (fun z hz => (hm z).1 ((srt_mem L z).1 hz))
  have h2 := desc_sum f
  have h3 := semis_len (srt L)
  omega
end Go.Proofs.YtnboimoncpphlabDoor
