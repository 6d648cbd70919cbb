import Derived.Test.YthgpinamglpniaaDoorHexOnly
import Derived.ProofKit
import Derived.Deep.Slices
namespace Go.Proofs.YthgpinamglpniaaDoor
open Go.RowKit
open TextMath (dg hex wo unhex pre fold)

/-- A slice of bools that came in: where there is an element, its cell holds a bool. -/
def IsBools (w : World) (a : Option Addr) (len : Nat) : Prop := ∀ i, i < len → ∃ b off v, a = some ⟨b, off, none⟩ ∧ w.cell? ⟨b, off + i, none⟩ = some (.bool v)

theorem isBools_of {H : Type} {enc : TypeId × Value → H} {P : Program} {w : World} {base : Nat} {spare : Nat → Bool} {held : Bool} {t e : TypeId} {a : Option Addr} {len cap : Nat} {d : DataW H} {p : List MemPlace}
    (ht : P.underlying t = some (.slice e)) (he : P.underlying e = some .bool) (hc : P.cellsOf e = 1) (h : DataW.Trod enc P w base spare held t (.slice a len cap) d p) : IsBools w a len := by
  obtain ⟨fuel, hf⟩ := h
  rcases Deep.open_slice1 ht hc hf with ⟨hcs, _⟩ | ⟨x, l, c, m, n, V, D, Pl, hcs, _, hl, _, hm, _, hx⟩
  · simp [Value.cells] at hcs
    obtain ⟨_, rfl, _⟩ := hcs
    intro i hi; omega
  · simp [Value.cells] at hcs
    obtain ⟨rfl, rfl, rfl⟩ := hcs
    intro i hi
    have him : i < m := by rw [hm]; split <;> omega
    obtain ⟨h1, h2⟩ := hx i him
    obtain ⟨v, hv, _⟩ := DataW.trod_bool he h2
    obtain ⟨b, off, spot⟩ := x
    have hspot : spot = none := by
      have h0 := (hx 0 (by omega)).1
      have := World.cell?_spot h0
      simpa [Addr.add] using this
    subst hspot
    refine ⟨b, off, v, rfl, ?_⟩
    have e : (⟨b, off, none⟩ : Addr).add i = ⟨b, off + i, none⟩ := by
      unfold Addr.add
      by_cases h0 : i = 0
      · subst h0; rfl
      · simp [h0]
    rw [e] at h1
    rw [h1]
    simp at hv
    rw [hv]

theorem hex_low (l : List UInt8) (k : Nat) (hk : k < (hex l).length) : (48 ≤ (hex l)[k].toNat ∧ (hex l)[k].toNat ≤ 57) ∨ (97 ≤ (hex l)[k].toNat ∧ (hex l)[k].toNat ≤ 102) := by
  have hm := List.getElem_mem hk
  unfold hex at hm
  rw [List.mem_flatMap] at hm
  obtain ⟨b, _, hb⟩ := hm
  have b1 := b.toNat_lt
  simp only [List.mem_cons, List.mem_nil_iff, or_false] at hb
  rcases hb with hb | hb
  all_goals
    have hd := congrArg UInt8.toNat hb
    rw [TextMath.dg_toNat _ (by omega)] at hd
    have hd2 : (hex l)[k].toNat = _ := hd
    rw [hd2]
    split <;> omega

theorem wo_up (c : UInt8) (h1 : 97 ≤ c.toNat) (h2 : c.toNat ≤ 102) : wo (UInt8.ofNat (c.toNat - 32)) = wo c := by
  have e : (UInt8.ofNat (c.toNat - 32)).toNat = c.toNat - 32 := by rw [UInt8.toNat_ofNat']; omega
  unfold wo
  rw [e, if_neg (by omega), if_neg (by omega), if_pos (by omega), if_neg (by omega), if_pos (by omega)]
  congr 1

/-- The digits so far, in either case. -/
def Mix (h m : List UInt8) (k : Nat) : Prop := m.length = h.length ∧ (∀ i, i < m.length → wo (m.getD i 0) = wo (h.getD i 0)) ∧ ∀ i, k ≤ i → m.getD i 0 = h.getD i 0
theorem Mix.next {h m : List UInt8} {k : Nat} (x : Mix h m k) : Mix h m (k + 1) := ⟨x.1, x.2.1, fun i hi => x.2.2 i (by omega)⟩
theorem Mix.set {h m : List UInt8} {k : Nat} (x : Mix h m k) (c : UInt8) (hc : wo c = wo (h.getD k 0)) : Mix h (m.set k c) (k + 1) := by
  refine ⟨by simpa using x.1, fun i hi => ?_, fun i hi => ?_⟩
  · rw [List.length_set] at hi
    by_cases e : k = i
    · subst e; simp [List.getD, hi]; simpa [List.getD] using hc
    · have := x.2.1 i hi
      simpa [List.getD, List.getElem?_set, e] using this
  · have := x.2.2 i (by omega)
    have e : k ≠ i := by omega
    simpa [List.getD, List.getElem?_set, e] using this

set_option maxRecDepth 100000 in
set_option maxHeartbeats 2000000 in
theorem hexRound_walk (s : ByteArray) (a : Option Addr) (len cap : Nat) (w : World) (hs : s.size ≤ 140737488351232) (hu : IsBools w a len) (ht : HexTab w) :
    Calls Tryd.prog 3 #[.string s, .slice a len cap] w fun e w' => e = .returned (.bool true) ∧ Below w.heap.size w w' := by
  have HB := Below.refl w.heap.size w
  have hlenh := TextMath.hex_len s.data.toList
  rw [size_l] at hlenh
  have hlow : Hid (∀ k (hk : k < (hex s.data.toList).length), (48 ≤ (hex s.data.toList)[k].toNat ∧ (hex s.data.toList)[k].toNat ≤ 57) ∨ (97 ≤ (hex s.data.toList)[k].toNat ∧ (hex s.data.toList)[k].toNat ≤ 102)) := hex_low s.data.toList
  have hlike : Hid (∀ m, Mix (hex s.data.toList) m (hex s.data.toList).length → unhex m 0 = .ok s.data.toList) := fun m hm => TextMath.unhex_like _ m 0 hm.1 hm.2.1
  have hcall : ∀ W, HexTab W → Hid (Calls Tryd.prog 7 #[.string s] W fun e w' => e = .returned (.string (S (hex s.data.toList))) ∧ Below W.heap.size W w') := fun W h => hex_any s W (by omega) h
  generalize hex s.data.toList = h at *
  have hsz : (S h).size = 2 * s.size := by rw [S_size]; exact hlenh
  have hne : (((S h).size : Int) != 2 * (s.size : Int)) = false := by rw [hsz]; simp
  have HSZ : Hid ((S h).size = 2 * s.size) := hsz
  have hshb : (S h).size ≤ 281474976710656 := by omega
  have HHL : Hid (h.length = 2 * s.size) := hlenh
  clear hsz hlenh
  go_enter Tryd.func3, Tryd.ntmps3
  go_wp2_with (go_at_call 7; refine (hcall _ ht).out.mono ?_; rintro e w1 ⟨rfl, hb1⟩; obtain ⟨W1, cap1, hconv, hbW, hzW, hrW⟩ := conv_bytes (P := Tryd.prog) w1 9 24 5 (S h) Tryd.underlying9 Tryd.underlying24 Tryd.underlying5)
  have hbw : Below w.heap.size w W1 := hb1.trans (hbW.mono hb1.size)
  have hgs := hb1.size
  rw [S_l] at hrW
  go_loopw [7] (fun i wr => ∃ (k : Nat) (m : List UInt8), k ≤ (S h).size ∧ i = .int .i64 k ∧ Below w.heap.size w wr ∧ w1.heap.size < wr.heap.size ∧ BRow wr w1.heap.size m ∧ Hid (Mix h m k)) (fun i _ => (S h).size - (intOf i).toNat)
  case atStart => exact ⟨0, h, Nat.zero_le _, rfl, hbw, by omega, hrW, ⟨rfl, fun _ _ => rfl, fun _ _ => rfl⟩⟩
  case round =>
    clear hconv hrW hbw hbW hzW hne
    obtain ⟨k, m, hk, rfl, hb, hlt1, hr, hmix⟩ := hrel
    by_cases hlt : k < (S h).size
    · have hkl : k < h.length := by rw [S_size] at hlt; exact hlt
      have hkm : k < m.length := by rw [hmix.out.1]; exact hkl
      obtain ⟨hc, hf⟩ := hr k hkm
      have hmk : m[k] = h[k] := by
        have := hmix.out.2.2 k (Nat.le_refl _)
        simpa [List.getD, hkm, hkl] using this
      rw [hmk] at hc
      have hl := hlow.out k hkl
      have hgd : h.getD k 0 = h[k] := by simp [List.getD, hkl]
      have hset := fun c => hr.set k hkm c
      have hup : ∀ (h1 : 97 ≤ h[k].toNat) (h2 : h[k].toNat ≤ 102), Hid (Mix h (m.set k (UInt8.ofNat (h[k].toNat - 32))) (k + 1)) := fun h1 h2 => hmix.out.set _ (by rw [hgd]; exact wo_up _ h1 h2)
      have hmn : Hid (Mix h m (k + 1)) := hmix.out.next
      have hc256 : h[k].toNat < 256 := h[k].toNat_lt
      clear hmk hgd hmix
      generalize h[k] = c at *
      rcases hl with ⟨l1, l2⟩ | ⟨l1, l2⟩
      · clear hset hup
        go_wp2
        go_roundw
        case rel => exact ⟨k + 1, m, by omega, by go_num, hb, hlt1, hr, hmn⟩
        case measure => simp [intOf]; omega
      · have e1 : decide ((c.toNat : Int) ≤ 57) = false := by simp; omega
        have e2 : decide ((c.toNat : Int) ≤ 102) = true := by simp; omega
        by_cases hkn : k < len
        · obtain ⟨b, off, v, rfl, hcell⟩ := hu k hkn
          have hcell' : wr.cell? ⟨b, off + k, none⟩ = some (.bool v) := by rw [hb.cell (block_lt hcell)]; exact hcell
          have hkn' : (k : Int) < (len : Int) := by omega
          cases v
          · clear hset hup
            go_wp2
            go_roundw
            case rel => exact ⟨k + 1, m, by omega, by go_num, hb, hlt1, hr, hmn⟩
            case measure => simp [intOf]; omega
          · have HU := hup l1 l2
            have HS := hset (UInt8.ofNat (c.toNat - 32))
            have e : ((UInt8.ofNat (c.toNat - 32)).toNat : Int) = (c.toNat : Int) - 32 := by rw [UInt8.toNat_ofNat', Nat.mod_eq_of_lt (by omega)]; omega
            rw [e] at HS
            have HS' : Hid (BRow _ _ _) := HS
            clear hset hup HS e
            go_wp2
            go_roundw
            case rel => exact ⟨k + 1, _, by omega, by go_num, hb.setCell hgs _, by rw [World.size_setCell]; exact hlt1, HS'.out, HU⟩
            case measure => simp [intOf]; omega
        · have hkn' : ¬ (k : Int) < (len : Int) := by omega
          clear hset hup
          go_wp2
          go_roundw
          case rel => exact ⟨k + 1, m, by omega, by go_num, hb, hlt1, hr, hmn⟩
          case measure => simp [intOf]; omega
    · have hke : k = h.length := by rw [S_size] at hk hlt; omega
      subst hke
      have hml := hmix.out.1
      have hun := hlike.out m hmix.out
      have hback := fun W (e : W.heap[w1.heap.size]? = wr.heap[w1.heap.size]?) => conv_back (P := Tryd.prog) W 24 9 5 w1.heap.size (S h).size cap1 m Tryd.underlying24 Tryd.underlying5 Tryd.underlying9 (by rw [S_size, hml]) (hr.alike e)
      have hb0 := hback wr rfl
      have hms : (S m).size = 2 * s.size := by rw [S_size, hml]; exact HHL.out
      have U1 : Hid (uhV (S m).size (unhex (S m).data.toList 0) = .tuple #[.string s, .int .i64 0, .int .i64 ((S h).size : Nat)]) := by
        unfold Hid; rw [S_l, hun]; show Value.tuple #[.string (S s.data.toList), _, _] = _; rw [S_of, hms, HSZ.out]
      have U2 : Hid (uhV (S m ++ (⟨#[55]⟩ : ByteArray)).size (unhex (S m ++ (⟨#[55]⟩ : ByteArray)).data.toList 0) = .tuple #[.string ⟨#[]⟩, .int .i64 11, .int .i64 ((S h).size + 1 : Nat)]) := by
        unfold Hid; rw [app_l, S_l, TextMath.unhex_more m 0 _ 55 hun (by decide)]
        show Value.tuple #[_, _, .int .i64 ((0 + m.length + 1 : Nat) : Int)] = _
        rw [Nat.zero_add, hml, HSZ.out, HHL.out]
      have hz2 : Hid ((S m ++ (⟨#[55]⟩ : ByteArray)).size ≤ 281474976710656) := by
        unfold Hid; rw [ByteArray.size_append, hms]; show 2 * s.size + 1 ≤ _; omega
      have hz1 : (S m).size ≤ 281474976710656 := by omega
      have hcall1 : Hid (Calls Tryd.prog 8 #[.string (S m)] wr fun e w' => e = .returned (uhV (S m).size (unhex (S m).data.toList 0)) ∧ Below wr.heap.size wr w') := unhex_any (S m) wr hz1
      have hcall2 : ∀ W, Hid (Calls Tryd.prog 8 #[.string (S m ++ (⟨#[55]⟩ : ByteArray))] W fun e w' => e = .returned (uhV (S m ++ (⟨#[55]⟩ : ByteArray)).size (unhex (S m ++ (⟨#[55]⟩ : ByteArray)).data.toList 0)) ∧ Below W.heap.size W w') := fun W => unhex_any _ W hz2.out
      rw [U1.out] at hcall1
      simp only [U2.out] at hcall2
      have hsum : (S m).size + 1 ≤ 9223372036854775807 := by omega
      clear hmix hr hlow hlike hun hml hk U1 U2 hz1 hz2 hcall
      have t0 : True := trivial
      go_wp2_with (first | (go_at_call 8; have _t := t0; refine hcall1.out.mono ?_; clear t0; rintro e w2 ⟨rfl, hb2⟩; have hb3 := hback w2 (hb2.block _ hlt1)) | (go_at_call 8; refine (hcall2 _).out.mono ?_; rintro e w3 ⟨rfl, hb4⟩) | go_in)
      go_ret
      exact ⟨rfl, hb.trans ((hb2.mono hb.size).trans (hb4.mono (Nat.le_trans hb.size hb2.size)))⟩
end Go.Proofs.YthgpinamglpniaaDoor
