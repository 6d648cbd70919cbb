import Derived.Test.YtddkefjcpgdomaaFrm9
import Derived.Test.YtddkefjcpgdomaaFrAsk
namespace Go.Proofs.Ytddkefjcpgdomaa
open Go.RowKit
open FrMath (Hdr lb bd within Out ends cut Cut)

/-- A framer to which the bytes b have come. -/
structure FSt (fb : Nat) (lim : Int) (b : List UInt8) (v : Value) (W : World) (H : Nat) : Prop where
  ok : (Cut lim b).er = 0 → Cells W fb (frL lim (Cut lim b).at_ v (FrMath.look lim (b.drop (Cut lim b).at_))) ∧ Own W (fb + 1) v (b.drop (Cut lim b).at_) ∧ proper lim (b.drop (Cut lim b).at_)
  bad : (Cut lim b).er ≠ 0 → Cells W fb (frL lim (Cut lim b).at_ v ⟨0, 0, (Cut lim b).er⟩) ∧ Own W (fb + 1) v []
  high : ∀ x, v.ownBlock = some x → H ≤ x ∧ x < W.heap.size
theorem FSt.of {fb : Nat} {lim : Int} {b : List UInt8} {v : Value} {W W' : World} {H : Nat} (s : FSt fb lim b v W H) (hf : W'.heap[fb]? = W.heap[fb]?) (hv : ∀ x, v.ownBlock = some x → W'.heap[x]? = W.heap[x]?) (hs : W.heap.size ≤ W'.heap.size) : FSt fb lim b v W' H :=
  ⟨fun h => ⟨(s.ok h).1.of_block hf, own_below (s.ok h).2.1 hv, (s.ok h).2.2⟩, fun h => ⟨(s.bad h).1.of_block hf, own_below (s.bad h).2 hv⟩, fun x hx => ⟨(s.high x hx).1, Nat.lt_of_lt_of_le (s.high x hx).2 hs⟩⟩
theorem FSt.lt {fb : Nat} {lim : Int} {b : List UInt8} {v : Value} {W : World} {H : Nat} (s : FSt fb lim b v W H) : fb < W.heap.size := by
  by_cases h : (Cut lim b).er = 0
  · exact (s.ok h).1.lt
  · exact (s.bad h).1.lt
theorem cut_at_le (lim : Int) (b : List UInt8) : (Cut lim b).at_ ≤ b.length := (FrMath.cut_len lim (b.length + 1) b).2
theorem cut_ms_le (lim : Int) (b : List UInt8) : 2 * (Cut lim b).ms.length ≤ b.length := Nat.le_trans (FrMath.cut_len lim (b.length + 1) b).1 (FrMath.cut_len lim (b.length + 1) b).2

theorem feed_fst (fb : Nat) (lim : Int) (b c : List UInt8) (v : Value) (W : World) (H g cap : Nat) (s : FSt fb lim b v W H) (hH : H ≤ W.heap.size) (hgl : g < W.heap.size) (hgf : g ≠ fb) (hgv : v.ownBlock ≠ some g) (hck : Chk W g 0 c) (hcc : c.length ≤ cap) (hcap : cap ≤ 9223372036854775807) (hsz : b.length + c.length ≤ 4194304) :
    Calls Try.prog 18 #[.pointer (some ⟨fb, 0, none⟩), .slice (some ⟨g, 0, none⟩) c.length cap] W fun e w' => ∃ mv v' k, e = .returned (.tuple #[mv, .int .i64 ((Cut lim (b ++ c)).er : Int)]) ∧ OwnS w' W.heap.size mv k ∧ (Cut lim b).ms ++ k = (Cut lim (b ++ c)).ms ∧ FSt fb lim (b ++ c) v' w' H ∧ Fresh v v' W ∧ Kept fb v W w' ∧ (∀ x, v'.ownBlock = some x → mv.ownBlock ≠ some x) := by
  by_cases he : (Cut lim b).er = 0
  · obtain ⟨hC, ho, hp⟩ := s.ok he
    have hat := cut_at_le lim b
    have hl : (b.drop (Cut lim b).at_).length = b.length - (Cut lim b).at_ := List.length_drop
    have happ := Cut_ok_app lim b c he
    have hda : (b ++ c).drop (Cut lim b).at_ = b.drop (Cut lim b).at_ ++ c := List.drop_append_of_le_length hat
    refine (feed_any fb lim (Cut lim b).at_ v (b.drop (Cut lim b).at_) c W g 0 cap hC ho hp hgl hgf hgv hck hcc hcap (by omega) (by omega)).mono ?_
    rintro e w' ⟨mv, v', rfl, hms, hfr, hkp, hap, hok, hbad⟩
    refine ⟨mv, v', _, by rw [happ]; rfl, hms, by rw [happ]; rfl, ⟨fun h => ?_, fun h => ?_, fun x hx => ?_⟩, hfr, hkp, hap⟩
    · rw [happ] at h ⊢
      have := hok h
      show Cells w' fb (frL lim ((Cut lim b).at_ + _) v' (FrMath.look lim ((b ++ c).drop ((Cut lim b).at_ + _)))) ∧ Own w' (fb + 1) v' ((b ++ c).drop ((Cut lim b).at_ + _)) ∧ proper lim ((b ++ c).drop ((Cut lim b).at_ + _))
      rw [← List.drop_drop, hda]
      exact this
    · rw [happ] at h ⊢
      exact hbad h
    · have hlt : x < w'.heap.size := by
        by_cases h : (Cut lim (b.drop (Cut lim b).at_ ++ c)).er = 0
        · exact (own_lt (hok h).2.1 hx).2
        · exact (own_lt (hbad h).2 hx).2
      refine ⟨?_, hlt⟩
      rcases hfr with hfr | hfr
      · exact (s.high x (by rw [← hfr]; exact hx)).1
      · exact Nat.le_trans hH (hfr x hx)
  · obtain ⟨hC, ho⟩ := s.bad he
    have happ := Cut_er_app lim b c he
    refine (feedBad_any fb lim (Cut lim b).at_ (Cut lim b).er v _ W hC he).mono ?_
    rintro e w' ⟨rfl, n, rfl⟩
    refine ⟨_, v, [], by rw [happ], ownS_nil _ _, by rw [happ, List.append_nil], ?_, Fresh.refl _ _, ⟨below_drewN (Below.refl _ _) _, fun _ _ _ _ => rfl⟩, fun x _ hh => by cases hh⟩
    refine ⟨fun h => ?_, fun h => ?_, fun x hx => s.high x hx⟩
    · rw [happ] at h
      exact absurd h he
    · rw [happ]
      exact ⟨hC, ho⟩

/-- A text as bytes. -/
theorem conv_chk (w : World) (s : ByteArray) (hs : s.size ≤ 4194304) :
    ∃ W1 cap, (convert 9 45 (.string s)).run Try.prog w = .ok (.slice (some ⟨w.heap.size, 0, none⟩) s.size cap) W1 ∧ Below w.heap.size w W1 ∧ W1.heap.size = w.heap.size + 1 ∧ Chk W1 w.heap.size 0 s.data.toList ∧ s.size ≤ cap ∧ cap ≤ 9223372036854775807 := by
  have hrun := run_bytes_of_string w 9 45 5 s Try.underlying9 Try.underlying45 Try.underlying5
  obtain ⟨W1, cap, h1, h2, h3, h4⟩ := conv_bytes (P := Try.prog) w 9 45 5 s Try.underlying9 Try.underlying45 Try.underlying5
  refine ⟨W1, cap, h1, h2, h3, fun j hj => by rw [Nat.zero_add]; exact (h4 j hj).1, ?_, ?_⟩
  · rw [hrun] at h1
    injection h1 with h1 _
    injection h1 with _ _ h1
    rw [← h1]
    exact grownCap_ge w _ _ _
  · rw [hrun] at h1
    injection h1 with h1 _
    injection h1 with _ _ h1
    rw [← h1]
    have := grownCap_le_maxLen w s.size 0 5 (by unfold maxLen; omega)
    unfold maxLen at this
    omega

/-- The stream's first message. -/
theorem cut_first (lim : Int) (t : List UInt8) (h : 8 ≤ lim) : Cut lim ([48, 3, 2, 1, 5] ++ t) = FrMath.ahead [[48, 3, 2, 1, 5]] 5 (Cut lim t) := by
  refine cut_whole ?_
  show FrMath.within lim 0 5 = _
  unfold FrMath.within
  rw [if_neg (by omega)]
  rfl
end Go.Proofs.Ytddkefjcpgdomaa
