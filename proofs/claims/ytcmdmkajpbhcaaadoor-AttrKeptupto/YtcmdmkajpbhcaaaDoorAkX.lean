import Derived.Test.YtcmdmkajpbhcaaaDoorAkB
import Derived.Test.YtcmdmkajpbhcaaaDoorARX
import Derived.Test.YtcmdmkajpbhcaaaDoorAtParse
import Derived.Test.YtcmdmkajpbhcaaaDoorRfSyn
import Derived.Test.YtcmdmkajpbhcaaaDoorRfParsW
import Derived.Test.YtcmdmkajpbhcaaaDoorASF
import Derived.Test.YtcmdmkajpbhcaaaDoorRows
import Derived.OpenShut
import Derived.ShutString
import Derived.Deep.Slices
namespace Go.Proofs.YtcmdmkajpbhcaaaDoor
namespace Ak
open Go.RowKit
open TextMath (fold lo)
set_option linter.unusedVariables false
set_option maxRecDepth 100000

theorem parseU (s : ByteArray) (w : World) (hs : s.size ≤ 1048576) :
    Calls Tryd.prog 4 #[.string s] w fun e w' => ∃ t v L p q, e = .returned (.tuple #[.agg #[.string t, v], .int .i64 p, .int .i64 q]) ∧ OwnS w' w.heap.size v L ∧ L.length ≤ 4194304 ∧ Below w.heap.size w w' := by
  refine (parse_any s _ rfl w (by omega)).mono ?_
  rintro e w' ⟨hI, hb⟩
  rcases hI with ⟨ok, v, L, rfl, hO, hn, hm⟩ | ⟨ok, rfl⟩
  · refine ⟨_, v, _, _, _, rfl, hO, ?_, hb⟩
    rw [srt_len]
    refine Nat.le_trans (sub_len L _ hn (fun x hx => (hm x).1 hx)) ?_
    refine Nat.le_trans (desc_len _).1 ?_
    rw [fold_size]
    omega
  · exact ⟨_, _, [], _, _, rfl, ownS_nil _ _, by simp, hb⟩
theorem findU (s : ByteArray) (w : World) (hs : s.size ≤ 1048576) (ht : NumT3 w) :
    Calls Tryd.prog 6 #[.string s] w fun e w' => ∃ n al o sp y1 y2 b L, e = .returned (.tuple #[.agg #[.string n, al, .string o, .string sp, .int .i64 y1, .int .i64 y2], .bool b]) ∧ OwnS w' w.heap.size al L ∧ L.length ≤ 4194304 ∧ Below w.heap.size w w' := by
  refine (findX_any s w (by omega) ht).mono ?_
  rintro e w' ⟨hI, hb⟩
  rcases hI with ⟨_, rfl⟩ | ⟨i, v, _, rfl, al, rfl, h4⟩
  · exact ⟨_, _, _, _, _, _, _, [], rfl, ownS_nil _ _, by simp, hb⟩
  · rcases h4 with ⟨_, rfl⟩ | ⟨_, g, c, hB, rfl, rfl, hg⟩
    · exact ⟨_, _, _, _, _, _, _, [], rfl, ownS_nil _ _, by simp, hb⟩
    · refine ⟨_, _, _, _, _, _, _, [(rowL i).2.1.data.toList], rfl, ?_, by simp, hb⟩
      exact ⟨rfl, Or.inr ⟨g, 1, _, rfl, hB, hg, Nat.le_refl _, by unfold maxLen; omega, rfl, by simp [sv, S_of]⟩⟩
theorem supersU (s : ByteArray) (w : World) (hs : s.size ≤ 1048576) (hS : SupTab w) :
    Calls Tryd.prog 5 #[.string s] w fun e w' => ∃ v L, e = .returned v ∧ OwnS w' w.heap.size v L ∧ L.length ≤ 4194304 ∧ Below w.heap.size w w' ∧ L = lin (S (fold s.data.toList)) := by
  refine (supers_any s w (by omega) hS).mono ?_
  rintro e w' ⟨v, rfl, hO, hb⟩
  exact ⟨v, _, rfl, hO, lin_small _, hb, rfl⟩
theorem two_conv (W : World) (f g : UInt8) (x y : Int) (hx : x = (f.toNat : Int)) (hy : y = (g.toNat : Int)) : (convert 37 9 (.slice (some ⟨W.heap.size, 0, none⟩) 2 2)).run Tryd.prog (W.alloc (.cells #[.int .u8 x, .int .u8 y] 5)) = .ok (.string (S [f, g])) (W.alloc (.cells #[.int .u8 x, .int .u8 y] 5)) := by
  subst hx hy
  exact own_back_any _ W.heap.size 37 9 5 _ 2 [f, g] Tryd.underlying37 Tryd.underlying5 Tryd.underlying9 ⟨rfl, Or.inr ⟨W.heap.size, 2, #[.int .u8 (f.toNat : Int), .int .u8 (g.toNat : Int)], rfl, Nat.le_refl _, hp_new W _, Nat.le_refl _, by unfold maxLen; omega, rfl, rfl⟩⟩
theorem mk_c (r : Nat) (h : r < 41) : ∃ c : UInt8, IntKind.u8.wrap ((48 : Int) + (r : Int)) = (c.toNat : Int) ∧ wrap64 ((48 : Int) + (r : Int)) = (48 : Int) + (r : Int) := by
  refine ⟨UInt8.ofNat (48 + r), ?_, by unfold wrap64; omega⟩
  rw [UInt8.toNat_ofNat']
  simp only [IntKind.wrap, IntKind.bits, IntKind.signed]
  simp
def lf (v u al : Value) (j : Nat) : Value := if j = 0 then v else if j = 1 then u else al
def Lf (v u al : List (List UInt8)) (j : Nat) : List (List UInt8) := if j = 0 then v else if j = 1 then u else al
end Ak
end Go.Proofs.YtcmdmkajpbhcaaaDoor

namespace Go.Proofs.YtcmdmkajpbhcaaaDoor
namespace Ak
open Go.RowKit
open TextMath (fold lo)
set_option linter.unusedVariables false
set_option maxRecDepth 100000

/-- The tables that the calls read. -/
def Tabs (W : World) : Prop := NumTab W ∧ KndTab W ∧ SupTab W
theorem Tabs.below {w w' : World} (h : Tabs w) (hb : Below w.heap.size w w') : Tabs w' := ⟨h.1.below hb, h.2.1.below hb, h.2.2.below hb⟩
theorem box_cell {W : World} {g j : Nat} {t : TypeId} {cs : Array Value} {v : Value} (hb : W.heap[g]? = some (.cells cs t (0, 0))) (h1 : cs[j]? = some v) : W.cell? ⟨g, j, none⟩ = some v := by
  rw [cell_of_row W g j cs t (0, 0) hb]
  exact h1
theorem sum5 (n : Nat) (h : n = 2) : ¬ 5 + n > 9223372036854775807 := by omega
theorem ks_nil (W : World) (B : Nat) : KS W B (.slice none 0 0) (.slice none 0 0) [] := ⟨⟨rfl, Or.inl ⟨rfl, rfl⟩⟩, ownS_nil _ _, fun x hx => by simp at hx, fun g hg => by cases hg⟩
/-- How it stands within a round: from the k-th list on they are untouched. -/
structure Rd (w : World) (B i k b13 : Nat) (v u al : Value) (Lv Lu La : List (List UInt8)) (bv mv : Value) (bs : List KE) (W : World) : Prop where
  len : bs.length = 6 * i + 2 * k
  ks : KS W B bv mv bs
  left : ∀ j, k ≤ j → j < 3 → OwnS W B (lf v u al j) (Lf Lv Lu La j) ∧ ∀ g, (lf v u al j).ownBlock = some g → Free bv mv bs g
  box : W.heap[b13]? = some (.cells #[v, u, al] 36 (0, 0))
  fre : Free bv mv bs b13
  bel : Below w.heap.size w W
theorem lf_at (v u al : Value) (k : Nat) (h : k < 3) : (#[v, u, al] : Array Value)[k]? = some (lf v u al k) := by
  have : k = 0 ∨ k = 1 ∨ k = 2 := by omega
  rcases this with rfl | rfl | rfl <;> rfl
/-- The next list is kept. -/
theorem rd_step {w W W' W6 : World} {i k b13 n : Nat} {v u al bv mv bv' mv' l more : Value} {Lv Lu La : List (List UInt8)} {bs : List KE} {m : List UInt8} (h : Rd w w.heap.size i k b13 v u al Lv Lu La bv mv bs W) (hk : k < 3) (hdis : ∀ j, j < 3 → j ≠ k → ∀ g, (lf v u al j).ownBlock = some g → l.ownBlock ≠ some g) (hlb : l.ownBlock ≠ some b13) (hll : ∀ g, l.ownBlock = some g → w.heap.size ≤ g)
    (hc : Ch (fun g => l.ownBlock = some g) W W') (hc6 : Ch (fun g => l.ownBlock = some g ∨ bv.ownBlock = some g ∨ mv.ownBlock = some g) W' W6) (hK6 : KS W6 w.heap.size bv' mv' (bs ++ [(l, m, n), (more, m, n + 1)])) (hF : ∀ g, g < W'.heap.size → l.ownBlock ≠ some g → Free bv mv bs g → Free bv' mv' (bs ++ [(l, m, n), (more, m, n + 1)]) g) :
    Rd w w.heap.size i (k + 1) b13 v u al Lv Lu La bv' mv' (bs ++ [(l, m, n), (more, m, n + 1)]) W6 := by
  have hb13 : b13 < W.heap.size := (Array.getElem?_eq_some_iff.1 h.box).1
  have hs := hc.2.2.2.1
  refine ⟨by rw [List.length_append, h.len]; simp; omega, hK6, fun j hj hj3 => ?_, ?_, ?_, ?_⟩
  · obtain ⟨hO, hf⟩ := h.left j (by omega) hj3
    have hd := hdis j hj3 (by omega)
    refine ⟨ownS_ch (ownS_ch hO hc (fun g hg q => hd g hg q)) hc6 (fun g hg q => ?_), fun g hg => ?_⟩
    · rcases q with q | q | q
      · exact hd g hg q
      · exact (hf g hg).1 q
      · exact (hf g hg).2.1 q
    · exact hF g (by have := (ownS_lt hO hg).2; omega) (fun q => hd g hg q) (hf g hg)
  · rw [hc6.2.2.2.2 b13 (by omega) (fun q => by
      rcases q with q | q | q
      · exact hlb q
      · exact h.fre.1 q
      · exact h.fre.2.1 q), hc.2.2.2.2 b13 hb13 (fun q => hlb q)]
    exact h.box
  · exact hF b13 (by omega) hlb h.fre
  · have b1 : Below w.heap.size W W' := hc.below h.bel.size hll
    refine (h.bel.trans b1).trans (hc6.below (by have := h.bel.size; omega) (fun g q => ?_))
    rcases q with q | q | q
    · exact hll g q
    · exact (ownB_lt h.ks.book q).1
    · exact (ownS_lt h.ks.marks q).1

set_option maxHeartbeats 4000000 in
theorem attrKept_walk (ws : List (List UInt8)) (a : Option Addr) (c : Nat) (w : World) (hrow : Row w a ws) (hsz : ws.length ≤ 1048576 ∧ ∀ b ∈ ws, b.length ≤ 1048576) (hT : Tabs w) :
    Calls Tryd.prog 3 #[.slice a ws.length c] w fun e w' => e = .returned (.bool true) ∧ Below w.heap.size w w' := by
  have hsz' : Hid (ws.length ≤ 1048576 ∧ ∀ b ∈ ws, b.length ≤ 1048576) := hsz
  have hT' : Hid (Tabs w) := hT
  have hrow' : Hid (Row w a ws) := hrow
  clear hsz hT hrow
  go_enter Tryd.func3, Tryd.ntmps3
  go_wp2_with fail
  go_loopw [3, 4, 5] (fun bv mv iv wr => ∃ (i : Nat) (bs : List KE), i ≤ 40 ∧ i ≤ ws.length ∧ iv = .int .i64 (i : Int) ∧ Hid (bs.length = 6 * i) ∧ Hid (KS wr w.heap.size bv mv bs) ∧ Below w.heap.size w wr) (fun _ _ iv _ => 41 - (intOf iv).toNat)
  case atStart => exact ⟨0, [], by omega, Nat.zero_le _, rfl, rfl, ks_nil _ _, Below.refl _ _⟩
  case round =>
    obtain ⟨i, bs, hi40, hil, rfl, hbl, hKS, HB⟩ := hrel
    obtain ⟨ba, bc, rfl, hbcell⟩ := ownB_any hKS.out.book
    obtain ⟨ma, mc, rfl⟩ := own_base2 hKS.out.marks
    have hBs : w.heap.size ≤ wr.heap.size := HB.size
    by_cases hgo : i < ws.length ∧ i < 40
    · obtain ⟨h1, h2⟩ := hgo
      obtain ⟨rb, roff, rfl, hcell⟩ := hrow'.out.below HB i h1
      obtain ⟨b, hb⟩ : ∃ b, ws[i] = b := ⟨_, rfl⟩
      have hbl2 : b.length ≤ 1048576 := by rw [← hb]; exact hsz'.out.2 _ (List.getElem_mem h1)
      rw [hb] at hcell
      obtain ⟨X, hX⟩ : ∃ X, S b = X := ⟨_, rfl⟩
      rw [hX] at hcell
      have hXs : X.size ≤ 1048576 := by rw [← hX, S_size]; exact hbl2
      have hTr : Hid (∀ W, Below w.heap.size w W → Tabs W) := fun W hb => hT'.out.below hb
      have i0 : (0 : Int) ≤ (i : Int) := Int.natCast_nonneg _
      have i1 : (i : Int) < (ws.length : Int) := Int.ofNat_lt.2 h1
      have i2 : (i : Int) < 40 := by omega
      have HP := parseU X wr hXs
      have hig : Hid (i < ws.length ∧ i < 40 ∧ X.size ≤ 1048576) := ⟨h1, h2, hXs⟩
      clear hb hbl2 hX hbcell h1 h2 hi40 hil hXs
      go_wp2_with fail
      refine HP.mono ?_
      rintro e w1 ⟨t1, v, Lv, p1, q1, rfl, hOv, hLv, hb1⟩
      obtain ⟨va, vc, rfl⟩ := own_base2 hOv
      obtain ⟨W1, hW1⟩ : ∃ W1, w1.alloc (.cells #[.string t1, .slice va Lv.length vc] 25) = W1 := ⟨_, rfl⟩
      have hbW1 : Below w1.heap.size w1 W1 := by rw [← hW1]; exact (Below.refl _ _).alloc (Nat.le_refl _) _
      have hd1 : W1.heap[w1.heap.size]? = some (.cells #[.string t1, .slice va Lv.length vc] 25 (0, 0)) := by rw [← hW1]; exact hp_new _ _
      have HBW1 : Below w.heap.size w W1 := HB.trans ((hb1.trans (hbW1.mono hb1.size)).mono hBs)
      have HSu := supersU X W1 hig.out.2.2 (hTr.out W1 HBW1).2.2
      clear HP
      go_wp2_with fail
      try rw [hW1]
      refine HSu.mono ?_
      rintro e w2 ⟨u, Lu, rfl, hOu, hLu, hb2, hlin⟩
      clear hlin
      obtain ⟨ua, uc, rfl⟩ := own_base2 hOu
      have HB2 : Below w.heap.size w w2 := HBW1.trans (hb2.mono HBW1.size)
      have HFi := findU X w2 hig.out.2.2 (hTr.out w2 HB2).1.t3
      clear HSu
      go_wp2_with fail
      refine HFi.mono ?_
      rintro e w3 ⟨n3, al, o3, s3, y1, y2, b3, La, rfl, hOa, hLa, hb3⟩
      obtain ⟨aa, ac, rfl⟩ := own_base2 hOa
      have hbO : Below w3.heap.size w3 (w3.alloc (.cells #[.string n3, .slice aa La.length ac, .string o3, .string s3, .int .i64 y1, .int .i64 y2] 33)) := (Below.refl _ _).alloc (Nat.le_refl _) _
      have hd3 : (w3.alloc (.cells #[.string n3, .slice aa La.length ac, .string o3, .string s3, .int .i64 y1, .int .i64 y2] 33)).heap[w1.heap.size]? = some (.cells #[.string t1, .slice va Lv.length vc] 25 (0, 0)) := by
        have l1 := (Array.getElem?_eq_some_iff.1 hd1).1
        have l2 := hb2.size
        have l3 := hb3.size
        rw [hbO.block _ (by omega), hb3.block _ (by omega), hb2.block _ l1]
        exact hd1
      have hd4 : (w3.alloc (.cells #[.string n3, .slice aa La.length ac, .string o3, .string s3, .int .i64 y1, .int .i64 y2] 33)).heap[w3.heap.size]? = some (.cells #[.string n3, .slice aa La.length ac, .string o3, .string s3, .int .i64 y1, .int .i64 y2] 33 (0, 0)) := hp_new _ _
      have x1 : (w3.alloc (.cells #[.string n3, .slice aa La.length ac, .string o3, .string s3, .int .i64 y1, .int .i64 y2] 33)).cell? ⟨w1.heap.size, 1, none⟩ = some (.slice va Lv.length vc) := box_cell hd3 rfl
      have x2 : (w3.alloc (.cells #[.string n3, .slice aa La.length ac, .string o3, .string s3, .int .i64 y1, .int .i64 y2] 33)).cell? ⟨w3.heap.size, 1, none⟩ = some (.slice aa La.length ac) := box_cell hd4 rfl
      obtain ⟨WL, hWL⟩ : ∃ WL, (w3.alloc (.cells #[.string n3, .slice aa La.length ac, .string o3, .string s3, .int .i64 y1, .int .i64 y2] 33)).alloc (.cells #[.slice va Lv.length vc, .slice ua Lu.length uc, .slice aa La.length ac] 36) = WL := ⟨_, rfl⟩
      have hsW1 : W1.heap.size = w1.heap.size + 1 := by rw [← hW1]; simp
      have hord : wr.heap.size ≤ w1.heap.size ∧ w1.heap.size < W1.heap.size ∧ W1.heap.size ≤ w2.heap.size ∧ w2.heap.size ≤ w3.heap.size := ⟨hb1.size, by omega, hb2.size, hb3.size⟩
      have hbL3 : Below w3.heap.size w3 WL := by rw [← hWL]; exact hbO.alloc hbO.size _
      have hbL : Below wr.heap.size wr WL := (((hb1.trans (hbW1.mono hb1.size)).trans (hb2.mono (by omega))).trans (hb3.mono (by omega))).trans (hbL3.mono (by omega))
      have rv : ∀ g, (Value.slice va Lv.length vc).ownBlock = some g → wr.heap.size ≤ g ∧ g < w1.heap.size := fun g hg => ownS_lt hOv hg
      have ru : ∀ g, (Value.slice ua Lu.length uc).ownBlock = some g → W1.heap.size ≤ g ∧ g < w2.heap.size := fun g hg => ownS_lt hOu hg
      have ra : ∀ g, (Value.slice aa La.length ac).ownBlock = some g → w2.heap.size ≤ g ∧ g < w3.heap.size := fun g hg => ownS_lt hOa hg
      have hdis : Hid (∀ j k, j < 3 → k < 3 → j ≠ k → ∀ g, (lf (.slice va Lv.length vc) (.slice ua Lu.length uc) (.slice aa La.length ac) j).ownBlock = some g → (lf (.slice va Lv.length vc) (.slice ua Lu.length uc) (.slice aa La.length ac) k).ownBlock ≠ some g) := by
        intro j k hj hk hjk g h1 h2
        have cj : j = 0 ∨ j = 1 ∨ j = 2 := by omega
        have ck : k = 0 ∨ k = 1 ∨ k = 2 := by omega
        rcases cj with rfl | rfl | rfl <;> rcases ck with rfl | rfl | rfl
        all_goals first
          | exact hjk rfl
          | (have e1 := rv g (by assumption); have e2 := ru g (by assumption); omega)
          | (have e1 := rv g (by assumption); have e2 := ra g (by assumption); omega)
          | (have e1 := ru g (by assumption); have e2 := ra g (by assumption); omega)
      have hrng : Hid (∀ j, j < 3 → ∀ g, (lf (.slice va Lv.length vc) (.slice ua Lu.length uc) (.slice aa La.length ac) j).ownBlock = some g → wr.heap.size ≤ g ∧ g < w3.heap.size) := by
        intro j hj g h1
        have cj : j = 0 ∨ j = 1 ∨ j = 2 := by omega
        rcases cj with rfl | rfl | rfl
        · have := rv g h1; omega
        · have := ru g h1; omega
        · have := ra g h1; omega
      have hfree : ∀ g, wr.heap.size ≤ g → Free (.slice ba (kb bs).length bc) (.slice ma (km bs).length mc) bs g := fun g hg => ⟨fun e => by have := (ownB_lt hKS.out.book e).2; omega, fun e => by have := (ownS_lt hKS.out.marks e).2; omega, fun x hx e => by have := (hKS.out.all x hx).1.2.1 g e; omega⟩
      have hRd : Hid (Rd w w.heap.size i 0 (w3.heap.size + 1) (.slice va Lv.length vc) (.slice ua Lu.length uc) (.slice aa La.length ac) Lv Lu La (.slice ba (kb bs).length bc) (.slice ma (km bs).length mc) bs WL) := by
        refine ⟨hbl.out, hKS.out.below hbL, fun j _ hj => ⟨?_, fun g hg => hfree g (hrng.out j hj g hg).1⟩, ?_, hfree _ (by omega), HB.trans (hbL.mono hBs)⟩
        · have cj : j = 0 ∨ j = 1 ∨ j = 2 := by omega
          rcases cj with rfl | rfl | rfl
          · exact ownS_base (ownS_below (ownS_below (ownS_below (ownS_below hOv hbW1) hb2) hb3) hbL3) hBs
          · exact ownS_base (ownS_below (ownS_below hOu hb3) hbL3) (by omega)
          · exact ownS_base (ownS_below hOa hbL3) (by omega)
        · have h := hp_new (w3.alloc (.cells #[.string n3, .slice aa La.length ac, .string o3, .string s3, .int .i64 y1, .int .i64 y2] 33)) (.cells #[.slice va Lv.length vc, .slice ua Lu.length uc, .slice aa La.length ac] 36)
          rw [hWL, World.size_alloc] at h
          exact h
      have hLs : Hid (Lv.length ≤ 4194304 ∧ Lu.length ≤ 4194304 ∧ La.length ≤ 4194304) := ⟨hLv, hLu, hLa⟩
      have hb13 : Hid (∀ j, j < 3 → (lf (.slice va Lv.length vc) (.slice ua Lu.length uc) (.slice aa La.length ac) j).ownBlock ≠ some (w3.heap.size + 1)) := fun j hj e => by have := hrng.out j hj _ e; omega
      have hw3 : Hid (w.heap.size ≤ wr.heap.size) := hBs
      clear HFi hbO hd3 hd4 hsW1 hord hbL3 hbL rv ru ra hfree hLv hLu hLa hOv hOu hOa hb1 hb2 hb3 hbW1 hd1 HBW1 HB2 hKS hbl hW1 HB hBs
      go_wp2_with fail
      try rw [hWL]
      go_loopw [3, 4, 14] (fun bv mv kv wr => ∃ (k : Nat) (bs : List KE), k ≤ 3 ∧ kv = .int .i64 (k : Int) ∧ Hid (Rd w w.heap.size i k (w3.heap.size + 1) (.slice va Lv.length vc) (.slice ua Lu.length uc) (.slice aa La.length ac) Lv Lu La bv mv bs wr)) (fun _ _ kv _ => 3 - (intOf kv).toNat)
      case atStart => exact ⟨0, bs, by omega, rfl, hRd.out⟩
      case round =>
        obtain ⟨k, bs, hk3, rfl, hR⟩ := hrel
        clear hRd
        obtain ⟨ba2, bc2, rfl, _⟩ := ownB_any hR.out.ks.book
        obtain ⟨ma2, mc2, rfl⟩ := own_base2 hR.out.ks.marks
        by_cases hk : k < 3
        · obtain ⟨hOl, hFl⟩ := hR.out.left k (Nat.le_refl _) hk
          obtain ⟨L, hL⟩ : ∃ L, Lf Lv Lu La k = L := ⟨_, rfl⟩
          have hLn : L.length ≤ 4194304 := by
            rw [← hL]
            have ck : k = 0 ∨ k = 1 ∨ k = 2 := by omega
            rcases ck with rfl | rfl | rfl
            · exact hLs.out.1
            · exact hLs.out.2.1
            · exact hLs.out.2.2
          have hcl := box_cell hR.out.box (lf_at (.slice va Lv.length vc) (.slice ua Lu.length uc) (.slice aa La.length ac) k hk)
          have hdk := fun j hj hjk => hdis.out j k hj hk hjk
          have hbk := hb13.out k hk
          have hrk := hrng.out k hk
          obtain ⟨lv, hlv⟩ : ∃ lv, (lf (.slice va Lv.length vc) (.slice ua Lu.length uc) (.slice aa La.length ac) k) = lv := ⟨_, rfl⟩
          rw [hL, hlv] at hOl
          rw [hlv] at hFl hcl hdk hbk hrk
          obtain ⟨la, lc, rfl⟩ := own_base2 hOl
          obtain ⟨n, hn⟩ : ∃ n, L.length = n := ⟨_, rfl⟩
          rw [hn] at hOl hFl hcl hdk hbk hrk hLn
          have k0 : (0 : Int) ≤ (k : Int) := Int.natCast_nonneg _
          have k1 : (k : Int) < 3 := by omega
          have hFl' : Hid (∀ g, (Value.slice la n lc).ownBlock = some g → Free (.slice ba2 (kb bs).length bc2) (.slice ma2 (km bs).length mc2) bs g) := hFl
          have hdk' : Hid (∀ j, j < 3 → j ≠ k → ∀ g, (lf (.slice va Lv.length vc) (.slice ua Lu.length uc) (.slice aa La.length ac) j).ownBlock = some g → (Value.slice la n lc).ownBlock ≠ some g) := hdk
          have hbk' : Hid ((Value.slice la n lc).ownBlock ≠ some (w3.heap.size + 1) ∧ ∀ g, (Value.slice la n lc).ownBlock = some g → w.heap.size ≤ g) := ⟨hbk, fun g hg => by have := (hrk g hg).1; have := hw3.out; omega⟩
          have hki : i < 41 ∧ k < 41 := by have := hig.out.2.1; omega
          obtain ⟨c1, e1, e2⟩ := mk_c i hki.1
          obtain ⟨c2, e3, e4⟩ := mk_c k hki.2
          have hcv := two_conv wr c1 c2 _ _ rfl rfl
          obtain ⟨N2, hN2⟩ : ∃ N2, S [c1, c2] = N2 := ⟨_, rfl⟩
          have hs5 : ¬ 5 + N2.size > 9223372036854775807 := sum5 _ (by rw [← hN2, S_size]; rfl)
          rw [hN2] at hcv
          obtain ⟨M, hM⟩ : ∃ M, (⟨#[109, 97, 114, 107, 32]⟩ : ByteArray) ++ N2 = M := ⟨_, rfl⟩
          have hMm : Hid (M = S [109, 97, 114, 107, 32, c1, c2]) := by
            unfold Hid
            rw [← hM, ← hN2]
            rfl
          obtain ⟨m, hm⟩ : ∃ m, ([109, 97, 114, 107, 32, c1, c2] : List UInt8) = m := ⟨_, rfl⟩
          rw [hm] at hMm
          obtain ⟨Wk, hWk⟩ : ∃ Wk, wr.alloc (.cells #[.int .u8 (c1.toNat : Int), .int .u8 (c2.toNat : Int)] 5) = Wk := ⟨_, rfl⟩
          rw [hWk] at hcv
          have hbk0 : Hid (Below wr.heap.size wr Wk) := by unfold Hid; rw [← hWk]; exact (Below.refl _ _).alloc (Nat.le_refl _) _
          have hO0 : Hid (OwnS Wk w.heap.size (.slice la n lc) L ∧ L.length = n ∧ n ≤ 4194304 ∧ k < 3) := ⟨ownS_below hOl hbk0.out, hn, hLn, hk⟩
          clear hOl hL hLn hdk hbk hrk hlv hFl hn hN2 hm hk hk3 hki
          go_wp2_with fail
          clear e1 e2 e3 e4 hcv hs5 hM hcl
          go_loopw [17] (fun jv wr => ∃ j : Nat, j ≤ n ∧ jv = .int .i64 (j : Int) ∧ Hid (OwnS wr w.heap.size (.slice la n lc) (msL m j L) ∧ Ch (fun g => (Value.slice la n lc).ownBlock = some g) Wk wr)) (fun jv _ => n - (intOf jv).toNat)
          case atStart => exact ⟨0, Nat.zero_le _, rfl, by rw [show msL m 0 L = L by unfold msL; simp]; exact hO0.out.1, ⟨rfl, rfl, rfl, Nat.le_refl _, fun _ _ _ => rfl⟩⟩
          case round =>
            obtain ⟨j, hj, rfl, HO⟩ := hrel
            have j0 : (0 : Int) ≤ (j : Int) := Int.natCast_nonneg _
            have hn4 := hO0.out.2.2.1
            by_cases hlt : j < n
            · have j1 : (j : Int) < (n : Int) := Int.ofNat_lt.2 hlt
              have hlk : (msL m j L).length = n := by rw [msL_len m j L (by have := hO0.out.2.1; omega), hO0.out.2.1]
              obtain ⟨g, rfl⟩ : ∃ g, la = some ⟨g, 0, none⟩ := by
                rcases ownS_form HO.out.1 with ⟨h, h'⟩ | ⟨g, cap, h⟩
                · rw [h'] at hlk; simp at hlk; omega
                · injection h with h; exact ⟨g, h⟩
              have hO1 : OwnS wr w.heap.size (.slice (some ⟨g, 0, none⟩) (msL m j L).length lc) (msL m j L) := by rw [hlk]; exact HO.out.1
              have q0 := ownS_cell hO1 j (by omega)
              have r0 := own_free (show wr.ownsRow w.heap.size 9 1 _ (msL m j L).length (sv (msL m j L)) from hO1) j
              have hset := ownS_set hO1 j m
              rw [msL_step m j L (by have := hO0.out.2.1; omega), hlk, ← hMm.out] at hset
              have hfin : Hid (OwnS (wr.setCell ⟨g, j, none⟩ (.string M)) w.heap.size (.slice (some ⟨g, 0, none⟩) n lc) (msL m (j + 1) L) ∧ Ch (fun x => (Value.slice (some ⟨g, 0, none⟩) n lc).ownBlock = some x) Wk (wr.setCell ⟨g, j, none⟩ (.string M))) := ⟨hset, HO.out.2.put g _ _ rfl⟩
              have hlt' : Hid (j < n) := hlt
              generalize S (msL m j L)[j] = z0 at *
              clear HO hO1 hset hlk hlt
              go_wp2_with fail
              refine ⟨⟨j + 1, hlt'.out, by simp, hfin.out⟩, ?_⟩
              have := hlt'.out
              simp [intOf]
              omega
            · have hje : j = n := by omega
              have hOr : OwnS wr w.heap.size (.slice la n lc) (List.replicate n m) := by
                have h := HO.out.1
                rw [hje, ← hO0.out.2.1, msL_end, hO0.out.2.1] at h
                exact h
              have hKr := (hR.out.ks.below hbk0.out).ch HO.out.2 (fun g hg q => (hFl'.out g q).1 hg) (fun g hg q => (hFl'.out g q).2.1 hg) (fun x hx g hg q => (hFl'.out g q).2.2 x hx hg)
              have hszr : w.heap.size ≤ wr.heap.size := by have := hR.out.bel.size; have := hbk0.out.size; have := HO.out.2.2.2.2.1; omega
              obtain ⟨more, W2, bv', W4, mv', W6, r1, r2, r3, hK6, ⟨xa, xc, rfl⟩, hc6, hF6⟩ := keep_step wr w.heap.size w.heap.size n (.slice la n lc) _ _ bs m hOr hKr hFl'.out hszr hszr (by omega) (by have := hR.out.len; have := hig.out.2.1; have := hO0.out.2.2.2; omega)
              rw [← hMm.out] at r1 r3
              have hRn : Hid (Rd w w.heap.size i (k + 1) (w3.heap.size + 1) (.slice va Lv.length vc) (.slice ua Lu.length uc) (.slice aa La.length ac) Lv Lu La bv' mv' (bs ++ [(.slice la n lc, m, n), (.slice xa (n + 1) xc, m, n + 1)]) W6) := rd_step hR.out hO0.out.2.2.2 hdk'.out hbk'.out.1 hbk'.out.2 ((Ch.of_below hbk0.out).trans HO.out.2) hc6 hK6 hF6
              have hkk : Hid (k + 1 ≤ 3) := hO0.out.2.2.2
              have j1 : ¬ (j : Int) < (n : Int) := by omega
              clear hOr hKr hszr hK6 hc6 hF6 HO hO0 hFl' hdk' hbk' hbk0 hR hlt hje hj hn4 hdis hrng hLs hb13
              go_wp2_with (first
                | (at_builtin; refine Lib.wpList_append_run _ rfl _ _ _ _ rfl _ _ rfl rfl _ _ r1 ?_; clear r1)
                | (at_builtin; refine Lib.wpList_append_run _ rfl _ _ _ _ rfl _ _ rfl rfl _ _ r2 ?_; clear r2)
                | (at_builtin; refine Lib.wpList_append_run _ rfl _ _ _ _ rfl _ _ rfl rfl _ _ r3 ?_; clear r3))
              refine ⟨⟨k + 1, _, hkk.out, by simp, hRn⟩, ?_⟩
              have := hkk.out
              simp [intOf]
              omega
        · have hk33 : Hid (k = 3) := by unfold Hid; omega
          have k1 : ¬ (k : Int) < 3 := by omega
          have hlenN : Hid (bs.length = 6 * (i + 1)) := by unfold Hid; have := hR.out.len; have := hk33.out; omega
          have hKS3 : Hid (KS wr w.heap.size (.slice ba2 (kb bs).length bc2) (.slice ma2 (km bs).length mc2) bs) := hR.out.ks
          have HB3 : Below w.heap.size w wr := hR.out.bel
          have HPa := parses_any X wr hig.out.2.2
          clear hR hk hk3 hdis hrng hLs hb13 hk33
          go_wp2_with fail
          refine HPa.mono ?_
          rintro e w5 ⟨rfl, hb5⟩
          have HB5 : Below w.heap.size w w5 := HB3.trans (hb5.mono HB3.size)
          have hK5 : Hid (KS w5 w.heap.size (.slice ba2 (kb bs).length bc2) (.slice ma2 (km bs).length mc2) bs) := hKS3.out.below hb5
          have HS5 := supersU X w5 hig.out.2.2 (hTr.out w5 HB5).2.2
          clear HPa HB3 hKS3 hb5
          go_wp2_with fail
          refine HS5.mono ?_
          rintro e w6 ⟨u6, L6, rfl, hO6, hL6, hb6, hlin6⟩
          obtain ⟨ua6, uc6, rfl⟩ := own_base2 hO6
          have HB6 : Below w.heap.size w w6 := HB5.trans (hb6.mono HB5.size)
          have hK6 : Hid (KS w6 w.heap.size (.slice ba2 (kb bs).length bc2) (.slice ma2 (km bs).length mc2) bs) := hK5.out.below hb6
          have HR6 := supersR_any X w6 (by have := hig.out.2.2; omega) (hTr.out w6 HB6).2.1
          rw [← hlin6] at HR6
          clear HS5 HB5 hK5 hb6 hlin6
          go_wp2_with fail
          refine HR6.mono ?_
          rintro e w7 ⟨⟨ra7, rc7, rfl, hr7⟩, hb7⟩
          have HB7 : Below w.heap.size w w7 := HB6.trans (hb7.mono HB6.size)
          have hK7 : Hid (KS w7 w.heap.size (.slice ba2 (kb bs).length bc2) (.slice ma2 (km bs).length mc2) bs) := hK6.out.below hb7
          have hSa := same04_loop L6 L6 ua6 ra7 uc6 rc7 w7 rfl hL6 ((ownS_row hO6).1.below hb7) hr7
          rw [decide_eq_true rfl] at hSa
          clear HR6 HB6 hK6 hb7 hO6 hr7
          go_wp2_with fail
          refine hSa.mono ?_
          rintro e w8 ⟨rfl, q8, hw8⟩
          have hb8 : Below w7.heap.size w7 w8 := by rw [hw8]; exact drewN_belowS _ _ _
          have HB8 : Below w.heap.size w w8 := HB7.trans (hb8.mono HB7.size)
          have hK8 : Hid (KS w8 w.heap.size (.slice ba2 (kb bs).length bc2) (.slice ma2 (km bs).length mc2) bs) := hK7.out.below hb8
          have HFa := attrFinds_any X w8 (by have := hig.out.2.2; omega) (hTr.out w8 HB8).1
          clear hSa HB7 hK7 hb8 hw8
          go_wp2_with fail
          refine HFa.mono ?_
          rintro e w9 ⟨rfl, hb9⟩
          have hig' : Hid (i + 1 ≤ 40 ∧ i + 1 ≤ ws.length) := ⟨hig.out.2.1, hig.out.1⟩
          have hK9 : Hid (KS w9 w.heap.size (.slice ba2 (kb bs).length bc2) (.slice ma2 (km bs).length mc2) bs ∧ Below w.heap.size w w9) := ⟨hK8.out.below hb9, HB8.trans (hb9.mono HB8.size)⟩
          clear HFa HB8 hK8 hb9 hL6
          go_wp2_with fail
          refine ⟨⟨i + 1, bs, hig'.out.1, hig'.out.2, by simp, hlenN, hK9.out.1, hK9.out.2⟩, ?_⟩
          have := hig'.out.1
          simp [intOf]
          omega
    · have hKr : Hid (KS wr w.heap.size (.slice ba (kb bs).length bc) (.slice ma (km bs).length mc) bs) := hKS.out
      have hsm : Hid ((kb bs).length = bs.length ∧ (km bs).length = bs.length ∧ bs.length ≤ 240) := ⟨List.length_map _, List.length_map _, by have := hbl.out; omega⟩
      have hbc : Hid (∀ i (hi : i < (kb bs).length), ∃ b, ba = some ⟨b, 0, none⟩ ∧ wr.cell? ⟨b, i, none⟩ = some (kb bs)[i]) := hbcell
      have HB' : Hid (Below w.heap.size w wr) := HB
      have hcs : (¬ i < ws.length) ∨ (i < ws.length ∧ ¬ i < 40) := by omega
      have hcs' : (¬ (i : Int) < (ws.length : Int)) ∨ ((i : Int) < (ws.length : Int) ∧ ¬ (i : Int) < 40) := by omega
      clear hgo hbcell hKS hbl hi40 hil hBs hcs HB hsz' hT' hrow'
      obtain ⟨wo, hwo⟩ : ∃ wo, wo = wr := ⟨_, rfl⟩
      rcases hcs' with i1 | ⟨i1, i2⟩
      all_goals
        go_wp2_with fail
        go_loopw [19] (fun xv w' => ∃ x : Nat, x ≤ (kb bs).length ∧ xv = .int .i64 (x : Int) ∧ Below wo.heap.size wo w') (fun xv _ => (kb bs).length - (intOf xv).toNat)
        case atStart => exact ⟨0, Nat.zero_le _, rfl, by rw [hwo]; exact Below.refl _ _⟩
        case round =>
          obtain ⟨x, hx, rfl, HBx⟩ := hrel
          rw [← hwo] at hKr hbc HB'
          have h240 : (kb bs).length ≤ 240 := by have := hsm.out; omega
          by_cases hlt : x < (kb bs).length
          · obtain ⟨bb, rfl, cb⟩ := hbc.out x hlt
            have hxb : x < bs.length := by have := hsm.out.1; omega
            have hxm : x < (km bs).length := by have := hsm.out.2.1; omega
            have hmr := (ownS_row hKr.out.marks).1
            obtain ⟨mb, mo, rfl, cm⟩ := hmr x hxm
            obtain ⟨⟨la, lc, hle, hlr⟩, hq9, hn8⟩ := (hKr.out.all bs[x] (List.getElem_mem hxb)).1
            clear hq9
            have ekb : (kb bs)[x] = bs[x].1 := by simp [kb]
            have ekm : (km bs)[x] = bs[x].2.1 := by simp [km]
            rw [ekb, hle] at cb
            rw [ekm] at cm
            obtain ⟨n, hn⟩ : ∃ n, bs[x].2.2 = n := ⟨_, rfl⟩
            obtain ⟨m, hm⟩ : ∃ m, bs[x].2.1 = m := ⟨_, rfl⟩
            rw [hn] at cb hlr hn8
            rw [hm] at cm hlr
            obtain ⟨M, hM⟩ : ∃ M, S m = M := ⟨_, rfl⟩
            rw [hM] at cm
            have hcell5 : Hid (∀ j, j < n → ∃ b off, la = some ⟨b, off, none⟩ ∧ wo.cell? ⟨b, off + j, none⟩ = some (.string M)) := fun j hj => by
              obtain ⟨b, off, e, h⟩ := hlr j (by rw [List.length_replicate]; exact hj)
              rw [List.getElem_replicate, hM] at h
              exact ⟨b, off, e, h⟩
            have x0 : (0 : Int) ≤ (x : Int) := Int.natCast_nonneg _
            have x1 : (x : Int) < ((kb bs).length : Int) := Int.ofNat_lt.2 hlt
            have x2 : (x : Int) < ((km bs).length : Int) := Int.ofNat_lt.2 hxm
            have hcb : Hid (wo.cell? ⟨bb, x, none⟩ = some (.slice la n lc) ∧ wo.cell? ⟨mb, mo + x, none⟩ = some (.string M)) := ⟨cb, cm⟩
            have hxx : Hid (x + 1 ≤ (kb bs).length) := hlt
            have hx240 : (x : Int) < 240 := by omega
            have hn9 : Hid (n ≤ 8388608) := hn8
            clear hmr hlr hle hn8 ekb ekm hn hm hM cb cm hbc hKr hwo hx hxb hxm hlt h240
            go_wp2_with fail
            go_loopw [20] (fun jv w' => ∃ j : Nat, j ≤ n ∧ jv = .int .i64 (j : Int) ∧ Below wo.heap.size wo w') (fun jv _ => n - (intOf jv).toNat)
            case atStart => exact ⟨0, Nat.zero_le _, rfl, HBx⟩
            case round =>
              obtain ⟨j, hj, rfl, HBj⟩ := hrel
              have hn8 := hn9.out
              have c1 := hcb.out.1
              have c2 := hcb.out.2
              rw [← HBj.cell (p := ⟨bb, x, none⟩) (World.block_lt_of_cell? wo _ c1)] at c1
              rw [← HBj.cell (p := ⟨mb, mo + x, none⟩) (World.block_lt_of_cell? wo _ c2)] at c2
              by_cases hjl : j < n
              · obtain ⟨lb, loff, rfl, c3⟩ := hcell5.out j hjl
                rw [← HBj.cell (p := ⟨lb, loff + j, none⟩) (World.block_lt_of_cell? wo _ c3)] at c3
                have j0 : (0 : Int) ≤ (j : Int) := Int.natCast_nonneg _
                have j1 : (j : Int) < (n : Int) := Int.ofNat_lt.2 hjl
                have hjj : Hid (j + 1 ≤ n) := hjl
                clear hjl hj
                go_wp2_with fail
                go_quiet (fail)
                go_wp2_with fail
                refine ⟨⟨j + 1, hjj.out, by simp, HBj.trans (drewN_belowS _ _ _)⟩, ?_⟩
                have := hjj.out
                simp [intOf]
                omega
              · have j1 : ¬ (j : Int) < (n : Int) := by omega
                clear hjl hj
                go_wp2_with fail
                refine ⟨⟨x + 1, hxx.out, by simp, HBj⟩, ?_⟩
                have := hxx.out
                simp [intOf]
                omega
          · have x1 : ¬ (x : Int) < ((kb bs).length : Int) := by omega
            clear hbc hKr hwo
            go_wp2_with fail
            go_ret
            exact ⟨rfl, HB'.out.trans (HBx.mono HB'.out.size)⟩
end Ak
end Go.Proofs.YtcmdmkajpbhcaaaDoor

namespace Go.Proofs.YtcmdmkajpbhcaaaDoor
namespace Ak
open Go.RowKit Go.WideShapes
set_option linter.unusedVariables false

def wsum (l : List (List UInt8)) : Nat := (l.map (fun t => t.length + 1)).sum
theorem wsum_len : ∀ l : List (List UInt8), l.length ≤ wsum l
  | [] => Nat.le_refl _
  | b :: l => by
    have := wsum_len l
    show l.length + 1 ≤ (b.length + 1) + wsum l
    omega
theorem wsum_mem : ∀ (l : List (List UInt8)) (b : List UInt8), b ∈ l → b.length + 1 ≤ wsum l
  | x :: l, b, h => by
    show b.length + 1 ≤ (x.length + 1) + wsum l
    rcases List.mem_cons.1 h with rfl | h
    · omega
    · have := wsum_mem l b h; omega
theorem bulk_sum {H : Type} : ∀ l : List (DataW H), Rows.uptoBulkAll l = (l.map Rows.uptoBulk).sum
  | [] => by simp [Rows.uptoBulkAll]
  | d :: l => by
    have := bulk_sum l
    simp only [Rows.uptoBulkAll, List.map_cons, List.sum_cons]
    omega
set_option maxRecDepth 100000 in
theorem wrow_of {H : Type} {enc : TypeId × Value → H} {w : World} {base : Nat} {spare : Nat → Bool} {held : Bool} {a : Option Addr} {len cap : Nat} {d : DataW H} {p : List MemPlace}
    (h : DataW.Trod enc Tryd.prog w base spare held 22 (.slice a len cap) d p) :
    ∃ l, len = l.length ∧ Row w a l ∧ wsum l ≤ Rows.uptoBulk d := by
  obtain ⟨fuel, hf⟩ := h
  have e1 : Tryd.prog.cellsOf 9 = 1 := by kernel_rfl
  rcases Deep.open_slice1 Tryd.underlying22 e1 hf with ⟨hcs, hx⟩ | ⟨x, l, c, m, n, V, D, Pl, hcs, _, hl, _, hm, hxd, hx⟩
  · simp [Value.cells] at hcs
    obtain ⟨_, rfl, rfl⟩ := hcs
    exact ⟨[], rfl, fun i hi => by simp at hi, Nat.zero_le _⟩
  · simp [Value.cells] at hcs
    obtain ⟨rfl, rfl, rfl⟩ := hcs
    have key : ∀ i, i < len → ∃ q : ByteArray, w.cell? (x.add i) = some (.string q) ∧ Rows.uptoBulk (D i) = q.size + 1 := fun i hi => by
      have him : i < m := by rw [hm]; split <;> omega
      obtain ⟨h1, h2⟩ := hx i him
      obtain ⟨s, hs, hs2, _⟩ := DataW.trod_string Tryd.underlying9 h2
      simp at hs
      refine ⟨s, by rw [h1, hs], ?_⟩
      replace hs2 := congrArg Prod.fst hs2
      simp only at hs2
      rw [hs2]
      simp [Rows.uptoBulk]
    obtain ⟨Q, hQ⟩ := Deep.choose_lt key
    injection hxd with hxd _
    have hle : Rows.uptoBulkAll ((List.range len).map D) ≤ Rows.uptoBulk d := by
      rw [hxd]
      simp only [Rows.uptoBulk]
      omega
    refine ⟨(List.range len).map fun i => (Q i).data.toList, by simp, ?_, ?_⟩
    · intro i hi
      have hi' : i < len := by simpa using hi
      have h1 := (hQ i hi').1
      obtain ⟨b, off, spot⟩ := x
      have hspot : spot = none := by
        have h0 := (hQ 0 (by omega)).1
        have := World.cell?_spot h0
        simpa [Addr.add] using this
      subst hspot
      rw [add_off] at h1
      refine ⟨b, off, rfl, ?_⟩
      rw [h1]
      simp [S_of]
    · refine Nat.le_trans (Nat.le_of_eq ?_) hle
      unfold wsum
      rw [bulk_sum, List.map_map, List.map_map]
      congr 1
      refine List.map_congr_left (fun i hi => ?_)
      have h1 := (hQ i (List.mem_range.1 hi)).2
      simp only [Function.comp]
      rw [h1, size_l]

end Ak
end Go.Proofs.YtcmdmkajpbhcaaaDoor
