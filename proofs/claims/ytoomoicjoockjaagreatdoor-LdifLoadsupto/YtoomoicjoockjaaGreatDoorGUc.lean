import Derived.Test.YtoomoicjoockjaaGreatDoorGUb
namespace Go.Proofs.YtoomoicjoockjaaGreatDoor
set_option maxRecDepth 100000
open Go.RowKit
open TextMath (al grp b64 bo wv ch Gd gF dec)

theorem World.grown_trans {a b c : World} {row : Option Nat} (h : a.grownBy b row) (k : b.grownBy c row) : a.grownBy c row :=
  ⟨k.os.trans h.os, k.tape.trans h.tape, k.output.trans h.output, Nat.le_trans h.size k.size, fun i hi hn => (k.block i (Nat.lt_of_lt_of_le hi h.size) hn).trans (h.block i hi hn)⟩
theorem World.grown_drewN (w : World) (n : Nat) (row : Option Nat) : w.grownBy (w.drewN n) row := ⟨rfl, rfl, rfl, Nat.le_refl _, fun _ _ _ => rfl⟩
theorem World.grown_alloc (w : World) (o : Obj) (row : Option Nat) : w.grownBy (w.alloc o) row := ⟨rfl, rfl, rfl, by simp, fun k hk _ => Below.heap_alloc _ _ _ hk⟩

theorem byteOf (n : Int) (m : Nat) (h : n = m) : IntKind.u8.wrap n = ((UInt8.ofNat m).toNat : Int) := by
  subst h
  rw [UInt8.toNat_ofNat']; simp [IntKind.wrap, IntKind.bits, IntKind.signed]

theorem worth_v (c : UInt8) (hc : ch c = true) (w : World) (ht : WTab w) :
    Calls Tryz.prog 108 #[.int .u8 (c.toNat : Int)] w fun e w' => e = .returned (.int .i64 ((wv c : Nat) : Int)) ∧ w' = w := by
  have := worth_any c w ht
  rw [bw_ch c hc] at this; exact this

set_option maxHeartbeats 2000000 in
theorem dec4 (g : ByteArray) (x y z t : UInt8) (w : World) (hd : Hid (g.data.toList = [x, y, z, t])) (hx : ch x = true) (hy : ch y = true) (hz : ch z = true) (htt : ch t = true)
    (base b n cap : Nat) (xs : List Value) (hown : w.ownsRow base 5 1 (.slice (some ⟨b, 0, none⟩) n cap) n xs) (hroom : n + 3 ≤ cap) (ht : WTab w) :
    Calls Tryz.prog 91 #[.slice (some ⟨b, 0, none⟩) n cap, .string g] w fun e w' => e = .returned (.slice (some ⟨b, 0, none⟩) (n + 3) cap) ∧ w'.ownsRow base 5 1 (.slice (some ⟨b, 0, none⟩) (n + 3) cap) (n + 3) (xs ++ bv (dec [x, y, z, t])) ∧ w.grownBy w' (some b) := by
  obtain ⟨i0, hi, hz0, hz1, hz2⟩ := info_parts info_u8
  have hsz : g.size = 4 := by have := size_l g; rw [hd.out] at this; simpa using this.symm
  have g0 : ∀ h : 0 < g.size, (g[0]'h) = x := fun h => by rw [get_l g _ hd.out 0 h]; rfl
  have g1 : ∀ h : 1 < g.size, (g[1]'h) = y := fun h => by rw [get_l g _ hd.out 1 h]; rfl
  have g2 : ∀ h : 2 < g.size, (g[2]'h) = z := fun h => by rw [get_l g _ hd.out 2 h]; rfl
  have g3 : ∀ h : 3 < g.size, (g[3]'h) = t := fun h => by rw [get_l g _ hd.out 3 h]; rfl
  have nt := (TextMath.ch_wv t htt).2.2.2
  have hfl : fl g.data.toList = 4 := by
    rw [hd.out]; unfold fl; simp [nt]
  have hct : ∀ W, Hid (Calls Tryz.prog 107 #[.string g, .string ⟨#[61]⟩] W fun e w' => (∃ s : ByteArray, e = .returned (.string s) ∧ s.size = 4) ∧ w' = W) := fun W => by
    have := trimRight_any g W hsz
    rw [hfl] at this; exact this
  have bx := (TextMath.ch_wv x hx).2.1
  have by_ := (TextMath.ch_wv y hy).2.1
  have bz := (TextMath.ch_wv z hz).2.1
  have bt := (TextMath.ch_wv t htt).2.1
  have hdec : Hid (bv (dec [x, y, z, t]) = [.int .u8 ((UInt8.ofNat (wv x * 4 + wv y / 16)).toNat : Int), .int .u8 ((UInt8.ofNat (wv y % 16 * 16 + wv z / 4)).toNat : Int), .int .u8 ((UInt8.ofNat (wv z % 4 * 64 + wv t)).toNat : Int)]) := by
    unfold Hid; simp only [dec]; rw [if_pos nt]; rfl
  obtain ⟨u, hu⟩ : ∃ u, u = wv t + 64 * wv z := ⟨_, rfl⟩
  obtain ⟨v, hv⟩ : ∃ v, v = 4096 * wv y + 262144 * wv x := ⟨_, rfl⟩
  obtain ⟨q, hq⟩ : ∃ q, q = u + v := ⟨_, rfl⟩
  have e0 : bits .or .i64 ((wv t : Nat) : Int) (((wv z : Nat) : Int) * 64) = (u : Int) := orHigh 6 _ _ (wv t) (64 * wv z) u rfl (by omega) (by omega) (by omega) (by omega) (by omega) hu
  have e1 : bits .or .i64 (((wv y : Nat) : Int) * 4096) (((wv x : Nat) : Int) * 262144) = (v : Int) := orHigh 18 _ _ (4096 * wv y) (262144 * wv x) v (by omega) (by omega) (by omega) (by omega) (by omega) (by omega) hv
  have e2 : bits .or .i64 (u : Int) (v : Int) = (q : Int) := orHigh 12 _ _ u v q rfl rfl (by omega) (by omega) (by omega) (by omega) hq
  have k0 : IntKind.u8.wrap ((q : Int) / 65536) = ((UInt8.ofNat (wv x * 4 + wv y / 16)).toNat : Int) := byteOf _ _ (by omega)
  have k1 : IntKind.u8.wrap ((q : Int) / 256) = ((UInt8.ofNat (wv y % 16 * 16 + wv z / 4)).toNat : Int) := by
    rw [UInt8.toNat_ofNat']; simp [IntKind.wrap, IntKind.bits, IntKind.signed]; omega
  have k2 : IntKind.u8.wrap (q : Int) = ((UInt8.ofNat (wv z % 4 * 64 + wv t)).toNat : Int) := by
    rw [UInt8.toNat_ofNat']; simp [IntKind.wrap, IntKind.bits, IntKind.signed]; omega
  generalize ((UInt8.ofNat (wv x * 4 + wv y / 16)).toNat : Int) = d0 at *
  generalize ((UInt8.ofNat (wv y % 16 * 16 + wv z / 4)).toNat : Int) = d1 at *
  generalize ((UInt8.ofNat (wv z % 4 * 64 + wv t)).toNat : Int) = d2 at *
  rw [hdec.out]
  have p3 : (3 : Int) < g.size := by omega
  have p3' : 3 < g.size := by omega
  have p2' : 2 < g.size := by omega
  have p1' : 1 < g.size := by omega
  have p0' : 0 < g.size := by omega
  have hu24 : u < 16777216 := by omega
  have hv24 : v < 16777216 := by omega
  have hq24 : q < 16777216 := by omega
  have HSZ : Hid (g.size = 4) := hsz
  clear hsz hfl hu hv hq nt hdec
  go_enter Tryz.func91, Tryz.ntmps91
  go_wp2_with (first
    | (go_at_call 107; refine (hct _).out.mono ?_; rintro e w' ⟨⟨s, rfl, hs4⟩, rfl⟩; have n4 : ((s.size : Int) == 4) = true := by rw [hs4]; rfl)
    | (go_at_call 108; refine (worth_v _ ?_ _ ht).mono ?_; assumption; rintro e w' ⟨rfl, rfl⟩))
  go_quiet ((go_at_call 108; exact Calls.quiet_of_same (worth_v _ (by assumption) _ (ht.drewN _))))
  have hown2 : (w'.drewN nq).ownsRow base 5 1 (.slice (some ⟨b, 0, none⟩) n cap) n xs := hown
  have hgr : w'.grownBy (w'.drewN nq) (some b) := World.grown_drewN _ _ _
  clear hown
  generalize w'.drewN nq = W2 at *
  go_wp2_with (at_builtin; refine wpList_append_fits _ rfl _ _ 51 rfl base 5 i0 1 Tryz.underlying51 hi hz1 b n cap xs rfl (hown2.alloc _) ⟨W2.heap.size, 0, none⟩ 3 3 [.int .u8 d0, .int .u8 d1, .int .u8 d2] rfl rfl (World.news_of_block (cs := #[.int .u8 d0, .int .u8 d1, .int .u8 d2]) (t := 150) (fr := (0, 0)) (heap_alloc_new W2 _)) (by intro u hu; simp at hu; rcases hu with rfl | rfl | rfl <;> rfl) hroom ?_; intro w1 hown1 hgrow1)
  go_ret
  exact ⟨rfl, hown1, World.grown_trans (World.grown_trans hgr (World.grown_alloc _ _ _)) hgrow1⟩
end Go.Proofs.YtoomoicjoockjaaGreatDoor

namespace Go.Proofs.YtoomoicjoockjaaGreatDoor
set_option maxRecDepth 100000
open Go.RowKit
open TextMath (al grp b64 bo wv ch Gd gF dec)

theorem two_of {a b c : Value} (j : Nat) (u : Value) (h : [a, b][j]? = some u) : (#[a, b, c] : Array Value).toList[j]? = some u := by
  match j, h with
  | 0, h => exact h
  | 1, h => exact h
  | j + 2, h => simp at h
theorem one_of {a b c : Value} (j : Nat) (u : Value) (h : [a][j]? = some u) : (#[a, b, c] : Array Value).toList[j]? = some u := by
  match j, h with
  | 0, h => exact h
  | j + 1, h => simp at h

set_option maxHeartbeats 2000000 in
theorem dec3 (g : ByteArray) (x y z : UInt8) (w : World) (hd : Hid (g.data.toList = [x, y, z, 61])) (hx : ch x = true) (hy : ch y = true) (hz : ch z = true)
    (base b n cap : Nat) (xs : List Value) (hown : w.ownsRow base 5 1 (.slice (some ⟨b, 0, none⟩) n cap) n xs) (hroom : n + 2 ≤ cap) (ht : WTab w) :
    Calls Tryz.prog 91 #[.slice (some ⟨b, 0, none⟩) n cap, .string g] w fun e w' => e = .returned (.slice (some ⟨b, 0, none⟩) (n + 2) cap) ∧ w'.ownsRow base 5 1 (.slice (some ⟨b, 0, none⟩) (n + 2) cap) (n + 2) (xs ++ bv (dec [x, y, z, 61])) ∧ w.grownBy w' (some b) := by
  obtain ⟨i0, hi, hz0, hz1, hz2⟩ := info_parts info_u8
  have hsz : g.size = 4 := by have := size_l g; rw [hd.out] at this; simpa using this.symm
  have g0 : ∀ h : 0 < g.size, (g[0]'h) = x := fun h => by rw [get_l g _ hd.out 0 h]; rfl
  have g1 : ∀ h : 1 < g.size, (g[1]'h) = y := fun h => by rw [get_l g _ hd.out 1 h]; rfl
  have g2 : ∀ h : 2 < g.size, (g[2]'h) = z := fun h => by rw [get_l g _ hd.out 2 h]; rfl
  have nz := (TextMath.ch_wv z hz).2.2.2
  have hfl : fl g.data.toList = 3 := by
    rw [hd.out]; unfold fl; simp [nz]
  have hct : ∀ W, Hid (Calls Tryz.prog 107 #[.string g, .string ⟨#[61]⟩] W fun e w' => (∃ s : ByteArray, e = .returned (.string s) ∧ s.size = 3) ∧ w' = W) := fun W => by
    have := trimRight_any g W hsz
    rw [hfl] at this; exact this
  have bx := (TextMath.ch_wv x hx).2.1
  have by_ := (TextMath.ch_wv y hy).2.1
  have bz := (TextMath.ch_wv z hz).2.1
  have hdec : Hid (bv (dec [x, y, z, 61]) = [.int .u8 ((UInt8.ofNat (wv x * 4 + wv y / 16)).toNat : Int), .int .u8 ((UInt8.ofNat (wv y % 16 * 16 + wv z / 4)).toNat : Int)]) := by
    unfold Hid; simp only [dec]; rw [if_neg (by simp), if_pos nz]; rfl
  obtain ⟨u, hu⟩ : ∃ u, u = 64 * wv z := ⟨_, rfl⟩
  obtain ⟨v, hv⟩ : ∃ v, v = 4096 * wv y + 262144 * wv x := ⟨_, rfl⟩
  obtain ⟨q, hq⟩ : ∃ q, q = u + v := ⟨_, rfl⟩
  have e0 : bits .or .i64 0 (((wv z : Nat) : Int) * 64) = (u : Int) := orHigh 6 _ _ 0 (64 * wv z) u rfl (by omega) (by omega) (by omega) (by omega) (by omega) (by omega)
  have e1 : bits .or .i64 (((wv y : Nat) : Int) * 4096) (((wv x : Nat) : Int) * 262144) = (v : Int) := orHigh 18 _ _ (4096 * wv y) (262144 * wv x) v (by omega) (by omega) (by omega) (by omega) (by omega) (by omega) hv
  have e2 : bits .or .i64 (u : Int) (v : Int) = (q : Int) := orHigh 12 _ _ u v q rfl rfl (by omega) (by omega) (by omega) (by omega) hq
  have k0 : IntKind.u8.wrap ((q : Int) / 65536) = ((UInt8.ofNat (wv x * 4 + wv y / 16)).toNat : Int) := byteOf _ _ (by omega)
  have k1 : IntKind.u8.wrap ((q : Int) / 256) = ((UInt8.ofNat (wv y % 16 * 16 + wv z / 4)).toNat : Int) := by
    rw [UInt8.toNat_ofNat']; simp [IntKind.wrap, IntKind.bits, IntKind.signed]; omega
  obtain ⟨d2, k2⟩ : ∃ d2, IntKind.u8.wrap (q : Int) = d2 := ⟨_, rfl⟩
  generalize ((UInt8.ofNat (wv x * 4 + wv y / 16)).toNat : Int) = d0 at *
  generalize ((UInt8.ofNat (wv y % 16 * 16 + wv z / 4)).toNat : Int) = d1 at *
  rw [hdec.out]
  have p3 : (3 : Int) < g.size := by omega
  have p3' : 3 < g.size := by omega
  have p2' : 2 < g.size := by omega
  have p1' : 1 < g.size := by omega
  have p0' : 0 < g.size := by omega
  have hu24 : u < 16777216 := by omega
  have hv24 : v < 16777216 := by omega
  have hq24 : q < 16777216 := by omega
  have HSZ : Hid (g.size = 4) := hsz
  clear hsz hfl hu hv hq nz hdec
  go_enter Tryz.func91, Tryz.ntmps91
  go_wp2_with (first
    | (go_at_call 107; refine (hct _).out.mono ?_; rintro e w' ⟨⟨s, rfl, hs4⟩, rfl⟩; have n4 : ((s.size : Int) == 4) = false := (by rw [hs4]; rfl); have n3 : ((s.size : Int) == 3) = true := (by rw [hs4]; rfl))
    | (go_at_call 108; refine (worth_v _ ?_ _ ht).mono ?_; assumption; rintro e w' ⟨rfl, rfl⟩))
  go_quiet ((go_at_call 108; exact Calls.quiet_of_same (worth_v _ (by assumption) _ (ht.drewN _))))
  have hown2 : (w'.drewN nq).ownsRow base 5 1 (.slice (some ⟨b, 0, none⟩) n cap) n xs := hown
  have hgr : w'.grownBy (w'.drewN nq) (some b) := World.grown_drewN _ _ _
  clear hown
  generalize w'.drewN nq = W2 at *
  go_wp2_with (at_builtin; refine wpList_append_fits _ rfl _ _ 51 rfl base 5 i0 1 Tryz.underlying51 hi hz1 b n cap xs rfl (hown2.alloc _) ⟨W2.heap.size, 0, none⟩ 2 3 [.int .u8 d0, .int .u8 d1] rfl rfl (fun j u hj => World.news_of_block (cs := #[.int .u8 d0, .int .u8 d1, .int .u8 d2]) (t := 150) (fr := (0, 0)) (heap_alloc_new W2 _) j u (two_of j u hj)) (by intro u hu; simp at hu; rcases hu with rfl | rfl <;> rfl) hroom ?_; intro w1 hown1 hgrow1)
  go_ret
  exact ⟨rfl, hown1, World.grown_trans (World.grown_trans hgr (World.grown_alloc _ _ _)) hgrow1⟩

set_option maxHeartbeats 2000000 in
theorem dec2 (g : ByteArray) (x y : UInt8) (w : World) (hd : Hid (g.data.toList = [x, y, 61, 61])) (hx : ch x = true) (hy : ch y = true)
    (base b n cap : Nat) (xs : List Value) (hown : w.ownsRow base 5 1 (.slice (some ⟨b, 0, none⟩) n cap) n xs) (hroom : n + 1 ≤ cap) (ht : WTab w) :
    Calls Tryz.prog 91 #[.slice (some ⟨b, 0, none⟩) n cap, .string g] w fun e w' => e = .returned (.slice (some ⟨b, 0, none⟩) (n + 1) cap) ∧ w'.ownsRow base 5 1 (.slice (some ⟨b, 0, none⟩) (n + 1) cap) (n + 1) (xs ++ bv (dec [x, y, 61, 61])) ∧ w.grownBy w' (some b) := by
  obtain ⟨i0, hi, hz0, hz1, hz2⟩ := info_parts info_u8
  have hsz : g.size = 4 := by have := size_l g; rw [hd.out] at this; simpa using this.symm
  have g0 : ∀ h : 0 < g.size, (g[0]'h) = x := fun h => by rw [get_l g _ hd.out 0 h]; rfl
  have g1 : ∀ h : 1 < g.size, (g[1]'h) = y := fun h => by rw [get_l g _ hd.out 1 h]; rfl
  have ny := (TextMath.ch_wv y hy).2.2.2
  have hfl : fl g.data.toList = 2 := by
    rw [hd.out]; unfold fl; simp [ny]
  have hct : ∀ W, Hid (Calls Tryz.prog 107 #[.string g, .string ⟨#[61]⟩] W fun e w' => (∃ s : ByteArray, e = .returned (.string s) ∧ s.size = 2) ∧ w' = W) := fun W => by
    have := trimRight_any g W hsz
    rw [hfl] at this; exact this
  have bx := (TextMath.ch_wv x hx).2.1
  have by_ := (TextMath.ch_wv y hy).2.1
  have hdec : Hid (bv (dec [x, y, 61, 61]) = [.int .u8 ((UInt8.ofNat (wv x * 4 + wv y / 16)).toNat : Int)]) := by
    unfold Hid; simp only [dec]; rw [if_neg (by simp), if_neg (by simp)]; rfl
  obtain ⟨v, hv⟩ : ∃ v, v = 4096 * wv y + 262144 * wv x := ⟨_, rfl⟩
  obtain ⟨q, hq⟩ : ∃ q, q = v := ⟨_, rfl⟩
  have e1 : bits .or .i64 (((wv y : Nat) : Int) * 4096) (((wv x : Nat) : Int) * 262144) = (v : Int) := orHigh 18 _ _ (4096 * wv y) (262144 * wv x) v (by omega) (by omega) (by omega) (by omega) (by omega) (by omega) hv
  have e2 : bits .or .i64 0 (v : Int) = (q : Int) := orHigh 12 _ _ 0 v q rfl rfl (by omega) (by omega) (by omega) (by omega) (by omega)
  have k0 : IntKind.u8.wrap ((q : Int) / 65536) = ((UInt8.ofNat (wv x * 4 + wv y / 16)).toNat : Int) := byteOf _ _ (by omega)
  obtain ⟨d1, k1⟩ : ∃ d1, IntKind.u8.wrap ((q : Int) / 256) = d1 := ⟨_, rfl⟩
  obtain ⟨d2, k2⟩ : ∃ d2, IntKind.u8.wrap (q : Int) = d2 := ⟨_, rfl⟩
  generalize ((UInt8.ofNat (wv x * 4 + wv y / 16)).toNat : Int) = d0 at *
  rw [hdec.out]
  have p3 : (3 : Int) < g.size := by omega
  have p3' : 3 < g.size := by omega
  have p2' : 2 < g.size := by omega
  have p1' : 1 < g.size := by omega
  have p0' : 0 < g.size := by omega
  have hv24 : v < 16777216 := by omega
  have hq24 : q < 16777216 := by omega
  have HSZ : Hid (g.size = 4) := hsz
  clear hsz hfl hv hq ny hdec
  go_enter Tryz.func91, Tryz.ntmps91
  go_wp2_with (first
    | (go_at_call 107; refine (hct _).out.mono ?_; rintro e w' ⟨⟨s, rfl, hs4⟩, rfl⟩; have n4 : ((s.size : Int) == 4) = false := (by rw [hs4]; rfl); have n3 : ((s.size : Int) == 3) = false := (by rw [hs4]; rfl); have n2 : ((s.size : Int) == 2) = true := (by rw [hs4]; rfl))
    | (go_at_call 108; refine (worth_v _ ?_ _ ht).mono ?_; assumption; rintro e w' ⟨rfl, rfl⟩))
  go_quiet ((go_at_call 108; exact Calls.quiet_of_same (worth_v _ (by assumption) _ (ht.drewN _))))
  have hown2 : (w'.drewN nq).ownsRow base 5 1 (.slice (some ⟨b, 0, none⟩) n cap) n xs := hown
  have hgr : w'.grownBy (w'.drewN nq) (some b) := World.grown_drewN _ _ _
  clear hown
  generalize w'.drewN nq = W2 at *
  go_wp2_with (at_builtin; refine wpList_append_fits _ rfl _ _ 51 rfl base 5 i0 1 Tryz.underlying51 hi hz1 b n cap xs rfl (hown2.alloc _) ⟨W2.heap.size, 0, none⟩ 1 3 [.int .u8 d0] rfl rfl (fun j u hj => World.news_of_block (cs := #[.int .u8 d0, .int .u8 d1, .int .u8 d2]) (t := 150) (fr := (0, 0)) (heap_alloc_new W2 _) j u (one_of j u hj)) (by intro u hu; simp at hu; subst hu; rfl) hroom ?_; intro w1 hown1 hgrow1)
  go_ret
  exact ⟨rfl, hown1, World.grown_trans (World.grown_trans hgr (World.grown_alloc _ _ _)) hgrow1⟩

end Go.Proofs.YtoomoicjoockjaaGreatDoor
