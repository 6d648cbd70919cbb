import Derived.Test.YtkcncepfncdbhaaDoorBase
namespace Go.Proofs.YtkcncepfncdbhaaDoor
open Go.RowKit
open TextMath (al grp b64)

set_option maxHeartbeats 1000000 in
theorem enc2 (s : ByteArray) (a b : Nat) (w : World) (hs : Hid (s.size = 2)) (h0 : ∀ h : 0 < s.size, (s[0]'h).toNat = a) (h1 : ∀ h : 1 < s.size, (s[1]'h).toNat = b) (hx : a < 256) (hy : b < 256) (ht : AlTab w) :
    Calls Tryd.prog 45 #[.string s] w fun e w' => e = .returned (.agg #[.int .u8 ((al (a / 4)).toNat : Int), .int .u8 ((al (a % 4 * 16 + b / 16)).toNat : Int), .int .u8 ((al (b % 16 * 4)).toNat : Int), .int .u8 61]) ∧ Below w.heap.size w w' := by
  have hblk : 1 < w.heap.size := blockA_lt (ht 0 (by omega))
  have hblk2 : 1 < w.heap.size + 1 := by omega
  have hblk3 : 0 < w.heap.size := by omega
  have t0 := ht (a / 4) (by omega)
  have t1 := ht (a % 4 * 16 + b / 16) (by omega)
  have t2 := ht (b % 16 * 4) (by omega)
  obtain ⟨u, hu⟩ : ∃ u, u = 256 * b := ⟨_, rfl⟩
  obtain ⟨v, hv⟩ : ∃ v, v = u + 65536 * a := ⟨_, rfl⟩
  have e0 : bits .or .i64 0 ((b : Int) * 256) = (u : Int) := orHigh 8 _ _ 0 (256 * b) u rfl (by omega) (by omega) (by omega) (by omega) (by omega) (by omega)
  have e4 : bits .and .i64 ((u : Int) / 64) 63 = ((b % 16 * 4 : Nat) : Int) := and63 _ (u / 64) _ (by omega) (by omega) (by omega)
  have e1 : bits .or .i64 (u : Int) ((a : Int) * 65536) = (v : Int) := orHigh 16 _ _ u (65536 * a) v rfl (by omega) (by omega) (by omega) (by omega) (by omega) (by omega)
  have e2 : bits .and .i64 ((v : Int) / 4096) 63 = ((a % 4 * 16 + b / 16 : Nat) : Int) := and63 _ (v / 4096) _ (by omega) (by omega) (by omega)
  have e3 : (v : Int) / 262144 = ((a / 4 : Nat) : Int) := by omega
  have b0 : a / 4 < 64 := by omega
  have b1 : a % 4 * 16 + b / 16 < 64 := by omega
  have b2 : b % 16 * 4 < 64 := by omega
  clear hv hu
  generalize a / 4 = i0 at *
  generalize a % 4 * 16 + b / 16 = i1 at *
  generalize b % 16 * 4 = i2 at *
  generalize ((al i0).toNat : Int) = d0 at *
  generalize ((al i1).toNat : Int) = d1 at *
  generalize ((al i2).toNat : Int) = d2 at *
  have hs' := hs.out
  have hsz : ((s.size : Int) == 3) = false := by simp; omega
  have hsz2 : ((s.size : Int) == 2) = true := by simp; omega
  have hp : (1 : Int) < s.size := by omega
  have hp' : 0 < s.size := by omega
  have hp1 : 1 < s.size := by omega
  have c0 : (i0 : Int) < 64 := by omega
  have c1 : (i1 : Int) < 64 := by omega
  have c2 : (i2 : Int) < 64 := by omega
  clear hs'
  go_enter Tryd.func45, Tryd.ntmps45
  go_wp2
  exact bodyPost_ret (v := .agg #[.int .u8 d0, .int .u8 d1, .int .u8 d2, .int .u8 61]) (by simp [results, Tryd.results45, go_sem]) rfl ⟨rfl, ((Below.refl _ _).alloc (Nat.le_refl _) _).alloc (by simp) _⟩

set_option maxHeartbeats 1000000 in
theorem enc3 (s : ByteArray) (a b c : Nat) (w : World) (hs : Hid (s.size = 3)) (h0 : ∀ h : 0 < s.size, (s[0]'h).toNat = a) (h1 : ∀ h : 1 < s.size, (s[1]'h).toNat = b) (h2 : ∀ h : 2 < s.size, (s[2]'h).toNat = c) (hx : a < 256) (hy : b < 256) (hzc : c < 256) (ht : AlTab w) :
    Calls Tryd.prog 45 #[.string s] w fun e w' => e = .returned (.agg #[.int .u8 ((al (a / 4)).toNat : Int), .int .u8 ((al (a % 4 * 16 + b / 16)).toNat : Int), .int .u8 ((al (b % 16 * 4 + c / 64)).toNat : Int), .int .u8 ((al (c % 64)).toNat : Int)]) ∧ Below w.heap.size w w' := by
  have hblk : 1 < w.heap.size := blockA_lt (ht 0 (by omega))
  have hblk2 : 1 < w.heap.size + 1 := by omega
  have hblk3 : 0 < w.heap.size := by omega
  have t0 := ht (a / 4) (by omega)
  have t1 := ht (a % 4 * 16 + b / 16) (by omega)
  have t2 := ht (b % 16 * 4 + c / 64) (by omega)
  have t3 := ht (c % 64) (by omega)
  obtain ⟨u, hu⟩ : ∃ u, u = c + 256 * b := ⟨_, rfl⟩
  obtain ⟨v, hv⟩ : ∃ v, v = u + 65536 * a := ⟨_, rfl⟩
  have e5 : bits .and .i64 (c : Int) 63 = ((c % 64 : Nat) : Int) := and63 _ c _ (by omega) (by omega) (by omega)
  have e0 : bits .or .i64 (c : Int) ((b : Int) * 256) = (u : Int) := orHigh 8 _ _ c (256 * b) u rfl (by omega) (by omega) (by omega) (by omega) (by omega) (by omega)
  have e4 : bits .and .i64 ((u : Int) / 64) 63 = ((b % 16 * 4 + c / 64 : Nat) : Int) := and63 _ (u / 64) _ (by omega) (by omega) (by omega)
  have e1 : bits .or .i64 (u : Int) ((a : Int) * 65536) = (v : Int) := orHigh 16 _ _ u (65536 * a) v rfl (by omega) (by omega) (by omega) (by omega) (by omega) (by omega)
  have e2 : bits .and .i64 ((v : Int) / 4096) 63 = ((a % 4 * 16 + b / 16 : Nat) : Int) := and63 _ (v / 4096) _ (by omega) (by omega) (by omega)
  have e3 : (v : Int) / 262144 = ((a / 4 : Nat) : Int) := by omega
  have b0 : a / 4 < 64 := by omega
  have b1 : a % 4 * 16 + b / 16 < 64 := by omega
  have b2 : b % 16 * 4 + c / 64 < 64 := by omega
  have b3 : c % 64 < 64 := by omega
  clear hv hu
  generalize a / 4 = i0 at *
  generalize a % 4 * 16 + b / 16 = i1 at *
  generalize b % 16 * 4 + c / 64 = i2 at *
  generalize c % 64 = i3 at *
  generalize ((al i0).toNat : Int) = d0 at *
  generalize ((al i1).toNat : Int) = d1 at *
  generalize ((al i2).toNat : Int) = d2 at *
  generalize ((al i3).toNat : Int) = d3 at *
  have hs' := hs.out
  have hsz : ((s.size : Int) == 3) = true := by simp; omega
  have hp : (2 : Int) < s.size := by omega
  have hp' : 0 < s.size := by omega
  have hp1 : 1 < s.size := by omega
  have hp2 : 2 < s.size := by omega
  have c0 : (i0 : Int) < 64 := by omega
  have c1 : (i1 : Int) < 64 := by omega
  have c2 : (i2 : Int) < 64 := by omega
  have c3 : (i3 : Int) < 64 := by omega
  clear hs'
  go_enter Tryd.func45, Tryd.ntmps45
  go_wp2
  exact bodyPost_ret (v := .agg #[.int .u8 d0, .int .u8 d1, .int .u8 d2, .int .u8 d3]) (by simp [results, Tryd.results45, go_sem]) rfl ⟨rfl, ((Below.refl _ _).alloc (Nat.le_refl _) _).alloc (by simp) _⟩

/-- A group's four characters. -/
theorem get_l (s : ByteArray) (l : List UInt8) (h : s.data.toList = l) (i : Nat) (hi : i < s.size) : (s[i]'hi) = l.getD i 0 := by rw [← h, getD_s s i hi]
theorem enc_any (s : ByteArray) (w : World) (h1 : 1 ≤ s.size) (h3 : s.size ≤ 3) (ht : AlTab w) :
    Calls Tryd.prog 45 #[.string s] w fun e w' => (∃ p q r t : UInt8, grp s.data.toList = [p, q, r, t] ∧ e = .returned (.agg #[.int .u8 (p.toNat : Int), .int .u8 (q.toNat : Int), .int .u8 (r.toNat : Int), .int .u8 (t.toNat : Int)])) ∧ Below w.heap.size w w' := by
  have hl := size_l s
  match hd : s.data.toList with
  | [] => rw [hd] at hl; simp at hl; omega
  | [x] =>
    have hs : s.size = 1 := by rw [hd] at hl; simpa using hl.symm
    refine (enc1 s x.toNat w hs (fun h => by rw [get_l s _ hd 0 h]; rfl) x.toNat_lt ht).mono fun e w' he => ?_
    exact ⟨⟨_, _, 61, 61, rfl, he.1⟩, he.2⟩
  | [x, y] =>
    have hs : s.size = 2 := by rw [hd] at hl; simpa using hl.symm
    refine (enc2 s x.toNat y.toNat w hs (fun h => by rw [get_l s _ hd 0 h]; rfl) (fun h => by rw [get_l s _ hd 1 h]; rfl) x.toNat_lt y.toNat_lt ht).mono fun e w' he => ?_
    exact ⟨⟨_, _, _, 61, rfl, he.1⟩, he.2⟩
  | [x, y, z] =>
    have hs : s.size = 3 := by rw [hd] at hl; simpa using hl.symm
    refine (enc3 s x.toNat y.toNat z.toNat w hs (fun h => by rw [get_l s _ hd 0 h]; rfl) (fun h => by rw [get_l s _ hd 1 h]; rfl) (fun h => by rw [get_l s _ hd 2 h]; rfl) x.toNat_lt y.toNat_lt z.toNat_lt ht).mono fun e w' he => ?_
    exact ⟨⟨_, _, _, _, rfl, he.1⟩, he.2⟩
  | x :: y :: z :: t :: r => rw [hd] at hl; simp at hl; omega
end Go.Proofs.YtkcncepfncdbhaaDoor
