import Derived.WalkKit
namespace Go.Proofs.Ytddkefjcpgdomab
namespace FrMath

/-- What the front of a message tells: bytes of the header that are missing, bytes of the whole message, the error. -/
structure Hdr where
  mi : Nat
  sz : Nat
  er : Nat
/-- A byte by its place, 0 if it is missing. -/
def lb (b : List UInt8) (p : Nat) : Nat := (b.getD p 0).toNat
theorem lb_lt (b : List UInt8) (p : Nat) : lb b p < 256 := (b.getD p 0).toNat_lt
/-- The length that k further bytes say. -/
def bd (b : List UInt8) : Nat → Nat
  | 0 => 0
  | k + 1 => bd b k * 256 + lb b (2 + k)
def within (lim : Int) (m z : Nat) : Hdr := if m = 0 ∧ lim < (z : Int) then ⟨0, 0, 33⟩ else ⟨m, z, 0⟩
def look (lim : Int) (b : List UInt8) : Hdr :=
  if b.length = 0 then ⟨2, 2, 0⟩
  else if lb b 0 ≠ 48 then ⟨0, 0, 30⟩
  else if b.length < 2 then ⟨1, 2, 0⟩
  else if lb b 1 < 128 then within lim 0 (2 + lb b 1)
  else if lb b 1 = 128 then ⟨0, 0, 31⟩
  else if 132 < lb b 1 then ⟨0, 0, 32⟩
  else within lim (lb b 1 - 126 - b.length) (lb b 1 - 126 + bd b (lb b 1 - 128))

theorem bd_lt (b : List UInt8) (k : Nat) (h : k ≤ 4) : bd b k < 4294967296 := by
  have h2 := lb_lt b 2
  have h3 := lb_lt b (2 + 1)
  have h4 := lb_lt b (2 + 2)
  have h5 := lb_lt b (2 + 3)
  have : k = 0 ∨ k = 1 ∨ k = 2 ∨ k = 3 ∨ k = 4 := by omega
  rcases this with rfl | rfl | rfl | rfl | rfl <;> simp only [bd, Nat.add_zero] <;> omega

theorem lb_app (b m : List UInt8) (p : Nat) (h : p < b.length) : lb (b ++ m) p = lb b p := by
  unfold lb
  rw [List.getD_eq_getElem?_getD, List.getD_eq_getElem?_getD, List.getElem?_append_left h]
theorem lb_out (b : List UInt8) (p : Nat) (h : b.length ≤ p) : lb b p = 0 := by
  unfold lb
  rw [List.getD_eq_getElem?_getD, List.getElem?_eq_none h]
  rfl
theorem lb_le (b m : List UInt8) (p : Nat) : lb b p ≤ lb (b ++ m) p := by
  by_cases h : p < b.length
  · rw [lb_app b m p h]; exact Nat.le_refl _
  · rw [lb_out b p (by omega)]; exact Nat.zero_le _
theorem bd_le (b m : List UInt8) (k : Nat) : bd b k ≤ bd (b ++ m) k := by
  induction k with
  | zero => exact Nat.le_refl _
  | succ k ih =>
    have := lb_le b m (2 + k)
    show bd b k * 256 + lb b (2 + k) ≤ bd (b ++ m) k * 256 + lb (b ++ m) (2 + k)
    omega
theorem bd_app (b m : List UInt8) (k : Nat) (h : 2 + k ≤ b.length) : bd (b ++ m) k = bd b k := by
  induction k with
  | zero => rfl
  | succ k ih =>
    show bd (b ++ m) k * 256 + lb (b ++ m) (2 + k) = bd b k * 256 + lb b (2 + k)
    rw [ih (by omega), lb_app b m (2 + k) (by omega)]

theorem within_z (lim : Int) (m z : Nat) (h : (within lim m z).er = 0) : (within lim m z).mi = m ∧ (within lim m z).sz = z := by
  unfold within at *
  by_cases h1 : m = 0 ∧ lim < (z : Int)
  · rw [if_pos h1] at h; cases h
  · rw [if_neg h1]; exact ⟨rfl, rfl⟩
theorem within_e (lim : Int) (m z : Nat) (h : (within lim m z).er ≠ 0) : within lim m z = ⟨0, 0, 33⟩ ∧ m = 0 ∧ lim < (z : Int) := by
  unfold within at *
  by_cases h1 : m = 0 ∧ lim < (z : Int)
  · rw [if_pos h1]; exact ⟨rfl, h1⟩
  · rw [if_neg h1] at h; exact absurd rfl h
theorem within_m (lim : Int) (m z : Nat) (h : m ≠ 0) : within lim m z = ⟨m, z, 0⟩ := by
  unfold within
  rw [if_neg (fun hh => h hh.1)]

/-- The ways of look, one by one. -/
theorem look_ways (lim : Int) (b : List UInt8) :
    (b.length = 0 ∧ look lim b = ⟨2, 2, 0⟩) ∨ (0 < b.length ∧ lb b 0 ≠ 48 ∧ look lim b = ⟨0, 0, 30⟩) ∨ (b.length = 1 ∧ lb b 0 = 48 ∧ look lim b = ⟨1, 2, 0⟩)
    ∨ (2 ≤ b.length ∧ lb b 0 = 48 ∧ lb b 1 < 128 ∧ look lim b = within lim 0 (2 + lb b 1)) ∨ (2 ≤ b.length ∧ lb b 0 = 48 ∧ lb b 1 = 128 ∧ look lim b = ⟨0, 0, 31⟩)
    ∨ (2 ≤ b.length ∧ lb b 0 = 48 ∧ 132 < lb b 1 ∧ look lim b = ⟨0, 0, 32⟩)
    ∨ (2 ≤ b.length ∧ lb b 0 = 48 ∧ ∃ k, 1 ≤ k ∧ k ≤ 4 ∧ lb b 1 = 128 + k ∧ look lim b = within lim (2 + k - b.length) (2 + k + bd b k)) := by
  unfold look
  by_cases h0 : b.length = 0
  · rw [if_pos h0]; exact Or.inl ⟨h0, rfl⟩
  rw [if_neg h0]
  by_cases h1 : lb b 0 ≠ 48
  · rw [if_pos h1]; exact Or.inr (Or.inl ⟨by omega, h1, rfl⟩)
  rw [if_neg h1]
  have h1' : lb b 0 = 48 := by omega
  by_cases h2 : b.length < 2
  · rw [if_pos h2]; exact Or.inr (Or.inr (Or.inl ⟨by omega, h1', rfl⟩))
  rw [if_neg h2]
  by_cases h3 : lb b 1 < 128
  · rw [if_pos h3]; exact Or.inr (Or.inr (Or.inr (Or.inl ⟨by omega, h1', h3, rfl⟩)))
  rw [if_neg h3]
  by_cases h4 : lb b 1 = 128
  · rw [if_pos h4]; exact Or.inr (Or.inr (Or.inr (Or.inr (Or.inl ⟨by omega, h1', h4, rfl⟩))))
  rw [if_neg h4]
  by_cases h5 : 132 < lb b 1
  · rw [if_pos h5]; exact Or.inr (Or.inr (Or.inr (Or.inr (Or.inr (Or.inl ⟨by omega, h1', h5, rfl⟩)))))
  rw [if_neg h5]
  refine Or.inr (Or.inr (Or.inr (Or.inr (Or.inr (Or.inr ⟨by omega, h1', lb b 1 - 128, by omega, by omega, by omega, ?_⟩)))))
  have e : lb b 1 - 126 = 2 + (lb b 1 - 128) := by omega
  rw [e]

theorem look_er (lim : Int) (b : List UInt8) (h : (look lim b).er ≠ 0) : (look lim b).mi = 0 ∧ (look lim b).sz = 0 ∧ 30 ≤ (look lim b).er ∧ (look lim b).er ≤ 33 := by
  rcases look_ways lim b with ⟨_, e⟩ | ⟨_, _, e⟩ | ⟨_, _, e⟩ | ⟨_, _, _, e⟩ | ⟨_, _, _, e⟩ | ⟨_, _, _, e⟩ | ⟨_, _, k, _, _, _, e⟩ <;> rw [e] at h ⊢ <;> simp at h ⊢
  · rw [(within_e _ _ _ h).1]; simp
  · rw [(within_e _ _ _ h).1]; simp
theorem look_ok (lim : Int) (b : List UInt8) (h : (look lim b).er = 0) : 2 ≤ (look lim b).sz ∧ (look lim b).sz ≤ 4294967302 ∧ (look lim b).mi ≤ 4 ∧ ((look lim b).mi ≠ 0 → b.length + (look lim b).mi ≤ (look lim b).sz ∧ b.length < 6) ∧ ((look lim b).mi = 0 → ((look lim b).sz : Int) ≤ lim ∧ 2 ≤ b.length) := by
  rcases look_ways lim b with ⟨h0, e⟩ | ⟨_, _, e⟩ | ⟨h0, _, e⟩ | ⟨h0, _, h1, e⟩ | ⟨_, _, _, e⟩ | ⟨_, _, _, e⟩ | ⟨h0, _, k, h1, h2, h3, e⟩ <;> rw [e] at h ⊢
  · simp [h0]
  · cases h
  · simp [h0]
  · obtain ⟨h5, h6⟩ := within_z _ _ _ h
    rw [h5, h6]
    refine ⟨by omega, by omega, by omega, fun hh => absurd rfl hh, fun _ => ⟨?_, h0⟩⟩
    unfold within at h
    by_cases h7 : (0 : Nat) = 0 ∧ lim < ((2 + lb b 1 : Nat) : Int)
    · rw [if_pos h7] at h; cases h
    · have : ¬ lim < ((2 + lb b 1 : Nat) : Int) := fun hh => h7 ⟨rfl, hh⟩
      omega
  · cases h
  · cases h
  · obtain ⟨h5, h6⟩ := within_z _ _ _ h
    rw [h5, h6]
    have hb := bd_lt b k h2
    refine ⟨by omega, by omega, by omega, fun hh => ⟨by omega, by omega⟩, fun hh => ⟨?_, h0⟩⟩
    unfold within at h
    by_cases h7 : 2 + k - b.length = 0 ∧ lim < ((2 + k + bd b k : Nat) : Int)
    · rw [if_pos h7] at h; cases h
    · have : ¬ lim < ((2 + k + bd b k : Nat) : Int) := fun hh' => h7 ⟨hh, hh'⟩
      omega

theorem look_nil (lim : Int) : look lim [] = ⟨2, 2, 0⟩ := rfl

/-- A whole header is the same whatever stands behind it. -/
theorem look_whole (lim : Int) (b m : List UInt8) (h : (look lim b).mi = 0) : look lim (b ++ m) = look lim b := by
  rcases look_ways lim b with ⟨_, e⟩ | ⟨h0, h1, e⟩ | ⟨_, _, e⟩ | ⟨h0, h1, h2, e⟩ | ⟨h0, h1, h2, e⟩ | ⟨h0, h1, h2, e⟩ | ⟨h0, h1, k, h2, h3, h4, e⟩
  · rw [e] at h; cases h
  · rw [e]
    unfold look
    rw [if_neg (by rw [List.length_append]; omega), lb_app b m 0 (by omega), if_pos h1]
  · rw [e] at h; cases h
  · rw [e]
    unfold look
    rw [if_neg (by rw [List.length_append]; omega), lb_app b m 0 (by omega), if_neg (by omega), if_neg (by rw [List.length_append]; omega), lb_app b m 1 (by omega), if_pos h2]
  · rw [e]
    unfold look
    rw [if_neg (by rw [List.length_append]; omega), lb_app b m 0 (by omega), if_neg (by omega), if_neg (by rw [List.length_append]; omega), lb_app b m 1 (by omega), if_neg (by omega), if_pos h2]
  · rw [e]
    unfold look
    rw [if_neg (by rw [List.length_append]; omega), lb_app b m 0 (by omega), if_neg (by omega), if_neg (by rw [List.length_append]; omega), lb_app b m 1 (by omega), if_neg (by omega), if_neg (by omega), if_pos h2]
  · have hle : 2 + k ≤ b.length := by
      rw [e] at h
      by_cases hh : 2 + k - b.length = 0
      · omega
      · rw [within_m _ _ _ hh] at h; exact absurd h hh
    rw [e]
    unfold look
    rw [if_neg (by rw [List.length_append]; omega), lb_app b m 0 (by omega), if_neg (by omega), if_neg (by rw [List.length_append]; omega), lb_app b m 1 (by omega), if_neg (by omega), if_neg (by omega), if_neg (by omega)]
    have e1 : lb b 1 - 126 - (b ++ m).length = 0 := by rw [List.length_append]; omega
    have e2 : 2 + k - b.length = 0 := by omega
    have e3 : lb b 1 - 126 = 2 + k := by omega
    have e4 : lb b 1 - 128 = k := by omega
    rw [e1, e2, e3, e4, bd_app b m k hle]

/-- With more bytes a message that is not refused is no shorter. -/
theorem look_mono (lim : Int) (b m : List UInt8) (h : (look lim b).er = 0) (h' : (look lim (b ++ m)).er = 0) : (look lim b).sz ≤ (look lim (b ++ m)).sz := by
  rcases look_ways lim b with ⟨_, e⟩ | ⟨h0, h1, e⟩ | ⟨_, _, e⟩ | ⟨h0, h1, h2, e⟩ | ⟨h0, h1, h2, e⟩ | ⟨h0, h1, h2, e⟩ | ⟨h0, h1, k, h2, h3, h4, e⟩
  · rw [e]; exact (look_ok lim (b ++ m) h').1
  · rw [e] at h; cases h
  · rw [e]; exact (look_ok lim (b ++ m) h').1
  · rw [look_whole lim b m (by rw [e]; rw [e] at h; exact (within_z _ _ _ h).1)]; exact Nat.le_refl _
  · rw [e] at h; cases h
  · rw [e] at h; cases h
  · by_cases hz : 2 + k - b.length = 0
    · rw [look_whole lim b m (by rw [e]; rw [e] at h; rw [(within_z _ _ _ h).1]; exact hz)]; exact Nat.le_refl _
    · rw [e, within_m _ _ _ hz]
      rcases look_ways lim (b ++ m) with ⟨g0, g⟩ | ⟨g0, g1, g⟩ | ⟨g0, _, g⟩ | ⟨g0, g1, g2, g⟩ | ⟨g0, g1, g2, g⟩ | ⟨g0, g1, g2, g⟩ | ⟨g0, g1, k', g2, g3, g4, g⟩
      · rw [List.length_append] at g0; omega
      · rw [g] at h'; cases h'
      · rw [List.length_append] at g0; omega
      · rw [lb_app b m 1 (by omega)] at g2; omega
      · rw [g] at h'; cases h'
      · rw [g] at h'; cases h'
      · rw [lb_app b m 1 (by omega)] at g4
        have : k' = k := by omega
        subst this
        rw [g] at h' ⊢
        rw [(within_z _ _ _ h').2]
        have := bd_le b m k'
        show 2 + k' + bd b k' ≤ _
        omega
theorem look_six (lim : Int) (b : List UInt8) : look lim (b.take 6) = look lim b := by
  by_cases h : b.length ≤ 6
  · rw [List.take_of_length_le h]
  · have h6 : (b.take 6).length = 6 := by rw [List.length_take]; omega
    have hm : (look lim (b.take 6)).mi = 0 := by
      by_cases he : (look lim (b.take 6)).er = 0
      · have := (look_ok lim (b.take 6) he).2.2.2.1
        by_cases hz : (look lim (b.take 6)).mi = 0
        · exact hz
        · have := (this hz).2; omega
      · exact (look_er lim _ he).1
    have := look_whole lim (b.take 6) (b.drop 6) hm
    rw [List.take_append_drop] at this
    exact this.symm

/-- What a whole stream gives. -/
structure Out where
  ms : List (List UInt8)
  at_ : Nat
  er : Nat
abbrev ends (lim : Int) (r : List UInt8) : Prop := (look lim r).er ≠ 0 ∨ r.length < (look lim r).sz
def cut (lim : Int) : Nat → List UInt8 → Out
  | 0, _ => ⟨[], 0, 0⟩
  | f + 1, r =>
    if ends lim r then ⟨[], 0, (look lim r).er⟩
    else ⟨r.take (look lim r).sz :: (cut lim f (r.drop (look lim r).sz)).ms, (look lim r).sz + (cut lim f (r.drop (look lim r).sz)).at_, (cut lim f (r.drop (look lim r).sz)).er⟩
def ahead (ms : List (List UInt8)) (p : Nat) (o : Out) : Out := ⟨ms ++ o.ms, p + o.at_, o.er⟩
theorem ahead_nil (o : Out) : ahead [] 0 o = o := by unfold ahead; cases o; simp
theorem ahead_snoc (ms : List (List UInt8)) (m : List UInt8) (p z : Nat) (o : Out) : ahead (ms ++ [m]) (p + z) o = ahead ms p (ahead [m] z o) := by
  unfold ahead; simp; omega
theorem cut_end (lim : Int) (f : Nat) (r : List UInt8) (h : ends lim r) : cut lim (f + 1) r = ⟨[], 0, (look lim r).er⟩ := by
  show (if ends lim r then _ else _) = _
  rw [if_pos h]
theorem cut_on (lim : Int) (f : Nat) (r : List UInt8) (h : ¬ ends lim r) : cut lim (f + 1) r = ahead [r.take (look lim r).sz] (look lim r).sz (cut lim f (r.drop (look lim r).sz)) := by
  show (if ends lim r then _ else _) = _
  rw [if_neg h]
  rfl
theorem on_ok (lim : Int) (r : List UInt8) (h : ¬ ends lim r) : (look lim r).er = 0 ∧ (look lim r).sz ≤ r.length ∧ 2 ≤ (look lim r).sz ∧ (look lim r).mi = 0 := by
  have h1 : (look lim r).er = 0 := by
    by_cases hh : (look lim r).er = 0
    · exact hh
    · exact absurd (Or.inl hh) h
  have h2 : (look lim r).sz ≤ r.length := by
    by_cases hh : (look lim r).sz ≤ r.length
    · exact hh
    · exact absurd (Or.inr (by omega)) h
  have h3 := look_ok lim r h1
  refine ⟨h1, h2, h3.1, ?_⟩
  by_cases hz : (look lim r).mi = 0
  · exact hz
  · have := (h3.2.2.2.1 hz).1
    omega
/-- More fuel than bytes is enough. -/
theorem cut_fuel (lim : Int) (f g : Nat) (r : List UInt8) (hf : r.length < f) (hg : r.length < g) : cut lim f r = cut lim g r := by
  induction f generalizing g r with
  | zero => omega
  | succ f ih =>
    cases g with
    | zero => omega
    | succ g =>
      by_cases h : ends lim r
      · rw [cut_end lim f r h, cut_end lim g r h]
      · obtain ⟨_, h2, h3, _⟩ := on_ok lim r h
        rw [cut_on lim f r h, cut_on lim g r h, ih g (r.drop (look lim r).sz) (by rw [List.length_drop]; omega) (by rw [List.length_drop]; omega)]
def Cut (lim : Int) (b : List UInt8) : Out := cut lim (b.length + 1) b
theorem Cut_end (lim : Int) (r : List UInt8) (h : ends lim r) : Cut lim r = ⟨[], 0, (look lim r).er⟩ := cut_end lim _ r h
theorem Cut_on (lim : Int) (r : List UInt8) (h : ¬ ends lim r) : Cut lim r = ahead [r.take (look lim r).sz] (look lim r).sz (Cut lim (r.drop (look lim r).sz)) := by
  obtain ⟨_, h2, h3, _⟩ := on_ok lim r h
  unfold Cut
  rw [cut_on lim _ r h]
  rw [cut_fuel lim r.length ((r.drop (look lim r).sz).length + 1) (r.drop (look lim r).sz) (by rw [List.length_drop]; omega) (by omega)]
theorem cut_len (lim : Int) (f : Nat) (r : List UInt8) : 2 * (cut lim f r).ms.length ≤ (cut lim f r).at_ ∧ (cut lim f r).at_ ≤ r.length := by
  induction f generalizing r with
  | zero => exact ⟨Nat.le_refl _, Nat.zero_le _⟩
  | succ f ih =>
    by_cases h : ends lim r
    · rw [cut_end lim f r h]; exact ⟨Nat.le_refl _, Nat.zero_le _⟩
    · obtain ⟨_, h2, h3, _⟩ := on_ok lim r h
      have := ih (r.drop (look lim r).sz)
      rw [List.length_drop] at this
      rw [cut_on lim f r h]
      unfold ahead
      simp
      omega
theorem cut_er (lim : Int) (f : Nat) (r : List UInt8) : (cut lim f r).er = 0 ∨ (30 ≤ (cut lim f r).er ∧ (cut lim f r).er ≤ 33) := by
  induction f generalizing r with
  | zero => exact Or.inl rfl
  | succ f ih =>
    by_cases h : ends lim r
    · rw [cut_end lim f r h]
      by_cases he : (look lim r).er = 0
      · exact Or.inl he
      · exact Or.inr (look_er lim r he).2.2
    · rw [cut_on lim f r h]
      exact ih _
end FrMath
end Go.Proofs.Ytddkefjcpgdomab
