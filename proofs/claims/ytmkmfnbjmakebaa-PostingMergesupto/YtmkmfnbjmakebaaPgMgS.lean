import Derived.Test.YtmkmfnbjmakebaaPgMgR
namespace Go.Proofs.Ytmkmfnbjmakebaa
open Go.RowKit Go.Sort Go.Lib Go.Shelf
open PgMath (Inc setOf cnt)
open PgHpM (Hd)
open PgCnM (occ)
open PgSeq (Mv Still SeqT range_t range_tn)
set_option linter.unusedVariables false
set_option maxRecDepth 100000
attribute [local go_sem] Oper.semAt_some

/-- The first loop that ranges over a function. -/
def loopR : Code → Option Code
  | .seq a b => match loopR a with
    | some c => some c
    | none => loopR b
  | .cond _ a b => match loopR a with
    | some c => some c
    | none => loopR b
  | .block _ a => loopR a
  | .loop a => if (rng1 a).isSome then some (.loop a) else loopR a
  | .scope a => loopR a
  | _ => none

set_option maxHeartbeats 2000000 in
theorem one_round (w A : World) (hi2 bw bs lo hi bx uc : Nat) (mst : Int) (ua : Option Addr) (U : List Int) (Qs : List Hd) (r : Int) (hr : 0 ≤ r ∧ r < 3) (D : List Deferred) (Q : Exit → Act → World → Prop)
    {a0 a1 a2 a5 a6 a9 a10 a12 a13 a14 a15 a16 a17 a18 a19 a20 a21 a22 a23 a24 a25 a26 a27 a28 a29 a30 a31 a32 a33 a34 a35 a36 a37 a38 a39 a40 a41 a42 a43 a44 a45 a46 a47 a48 a49 a50 a51 a52 a53 a54 a55 a56 a57 a58 a59 a60 a61 a62 a63 a64 a65 a66 a67 a68 a69 a70 a71 a72 a73 a74 a75 a76 a77 a78 a79 a80 a81 a82 a83 a84 a85 a86 a87 a88 a89 a90 a91 a92 a93 a94 a95 a96 a97 a98 a99 a100 a101 a102 a103 a104 a105 a106 a107 a108 a109 a110 a111 a112 a113 a114 a115 a116 a117 a118 a119 a120 a121 a122 a123 a124 a125 a126 : Value}
    (hB : Bas w A hi2 bw bs lo hi bx uc mst ua U Qs) (hms : 1 ≤ mst ∧ mst ≤ (U.length : Int) + 1) (hQl : Qs.length * 24 ≤ 140737488355328 ∧ IsU (lsts (some1 Qs)) U) (hU : U.length ≤ 1048576)
    (hQ : ∀ d W' {b0 b1 b2 b5 b6 b9 b10 b12 b13 b14 b15 b16 b17 b18 b19 b20 b21 b22 b23 b24 b25 b26 b27 b28 b29 b30 b31 b32 b33 b34 b35 b36 b37 b38 b39 b40 b41 b42 b43 b44 b45 b46 b47 b48 b49 b50 b51 b52 b53 b54 b55 b56 b57 b58 b59 b60 b61 b62 b63 b64 b65 b66 b67 b68 b69 b70 b71 b72 b73 b74 b75 b76 b77 b78 b79 b80 b81 b82 b83 b84 b85 b86 b87 b88 b89 b90 b91 b92 b93 b94 b95 b96 b97 b98 b99 b100 b101 b102 b103 b104 b105 b106 b107 b108 b109 b110 b111 b112 b113 b114 b115 b116 b117 b118 b119 b120 b121 b122 b123 b124 b125 b126 : Value}, A.heap.size ≤ d → Below A.heap.size A W' → W'.heap[d]? = some (.deferred (some [])) → Q .normal { tmps := (List.toArray (b0 :: b1 :: b2 :: (.pointer (some ⟨w.heap.size, 0, none⟩)) :: (.pointer (some ⟨w.heap.size + 1, 0, none⟩)) :: b5 :: b6 :: (.pointer (some ⟨bw, 0, none⟩)) :: (.pointer (some ⟨bs, 0, none⟩)) :: b9 :: b10 :: (.int .i64 (r + 1)) :: b12 :: b13 :: b14 :: b15 :: b16 :: b17 :: b18 :: b19 :: b20 :: b21 :: b22 :: b23 :: b24 :: b25 :: b26 :: b27 :: b28 :: b29 :: b30 :: b31 :: b32 :: b33 :: b34 :: b35 :: b36 :: b37 :: b38 :: b39 :: b40 :: b41 :: b42 :: b43 :: b44 :: b45 :: b46 :: b47 :: b48 :: b49 :: b50 :: b51 :: b52 :: b53 :: b54 :: b55 :: b56 :: b57 :: b58 :: b59 :: b60 :: b61 :: b62 :: b63 :: b64 :: b65 :: b66 :: b67 :: b68 :: b69 :: b70 :: b71 :: b72 :: b73 :: b74 :: b75 :: b76 :: b77 :: b78 :: b79 :: b80 :: b81 :: b82 :: b83 :: b84 :: b85 :: b86 :: b87 :: b88 :: b89 :: b90 :: b91 :: b92 :: b93 :: b94 :: b95 :: b96 :: b97 :: b98 :: b99 :: b100 :: b101 :: b102 :: b103 :: b104 :: b105 :: b106 :: b107 :: b108 :: b109 :: b110 :: b111 :: b112 :: b113 :: b114 :: b115 :: b116 :: b117 :: b118 :: b119 :: b120 :: b121 :: b122 :: b123 :: b124 :: b125 :: b126 :: [])), defers := { target := .collected d, args := #[] } :: D } W')
    (c : Code) (hc : (Try.f4.body.bind loopR) = some (.loop c)) :
    c.wpIn Fence.wide 8 Try.prog Q { tmps := (List.toArray (a0 :: a1 :: a2 :: (.pointer (some ⟨w.heap.size, 0, none⟩)) :: (.pointer (some ⟨w.heap.size + 1, 0, none⟩)) :: a5 :: a6 :: (.pointer (some ⟨bw, 0, none⟩)) :: (.pointer (some ⟨bs, 0, none⟩)) :: a9 :: a10 :: (.int .i64 r) :: a12 :: a13 :: a14 :: a15 :: a16 :: a17 :: a18 :: a19 :: a20 :: a21 :: a22 :: a23 :: a24 :: a25 :: a26 :: a27 :: a28 :: a29 :: a30 :: a31 :: a32 :: a33 :: a34 :: a35 :: a36 :: a37 :: a38 :: a39 :: a40 :: a41 :: a42 :: a43 :: a44 :: a45 :: a46 :: a47 :: a48 :: a49 :: a50 :: a51 :: a52 :: a53 :: a54 :: a55 :: a56 :: a57 :: a58 :: a59 :: a60 :: a61 :: a62 :: a63 :: a64 :: a65 :: a66 :: a67 :: a68 :: a69 :: a70 :: a71 :: a72 :: a73 :: a74 :: a75 :: a76 :: a77 :: a78 :: a79 :: a80 :: a81 :: a82 :: a83 :: a84 :: a85 :: a86 :: a87 :: a88 :: a89 :: a90 :: a91 :: a92 :: a93 :: a94 :: a95 :: a96 :: a97 :: a98 :: a99 :: a100 :: a101 :: a102 :: a103 :: a104 :: a105 :: a106 :: a107 :: a108 :: a109 :: a110 :: a111 :: a112 :: a113 :: a114 :: a115 :: a116 :: a117 :: a118 :: a119 :: a120 :: a121 :: a122 :: a123 :: a124 :: a125 :: a126 :: [])), defers := D } A := by
  have hc2 : some (Code.loop _) = some (Code.loop c) := hc
  injection hc2 with hc3
  injection hc3 with hc4
  rw [← hc4]
  clear hc hc4
  have hq : Hid (∀ d W' {b0 b1 b2 b5 b6 b9 b10 b12 b13 b14 b15 b16 b17 b18 b19 b20 b21 b22 b23 b24 b25 b26 b27 b28 b29 b30 b31 b32 b33 b34 b35 b36 b37 b38 b39 b40 b41 b42 b43 b44 b45 b46 b47 b48 b49 b50 b51 b52 b53 b54 b55 b56 b57 b58 b59 b60 b61 b62 b63 b64 b65 b66 b67 b68 b69 b70 b71 b72 b73 b74 b75 b76 b77 b78 b79 b80 b81 b82 b83 b84 b85 b86 b87 b88 b89 b90 b91 b92 b93 b94 b95 b96 b97 b98 b99 b100 b101 b102 b103 b104 b105 b106 b107 b108 b109 b110 b111 b112 b113 b114 b115 b116 b117 b118 b119 b120 b121 b122 b123 b124 b125 b126 : Value}, A.heap.size ≤ d → Below A.heap.size A W' → W'.heap[d]? = some (.deferred (some [])) → Q .normal { tmps := (List.toArray (b0 :: b1 :: b2 :: (.pointer (some ⟨w.heap.size, 0, none⟩)) :: (.pointer (some ⟨w.heap.size + 1, 0, none⟩)) :: b5 :: b6 :: (.pointer (some ⟨bw, 0, none⟩)) :: (.pointer (some ⟨bs, 0, none⟩)) :: b9 :: b10 :: (.int .i64 (r + 1)) :: b12 :: b13 :: b14 :: b15 :: b16 :: b17 :: b18 :: b19 :: b20 :: b21 :: b22 :: b23 :: b24 :: b25 :: b26 :: b27 :: b28 :: b29 :: b30 :: b31 :: b32 :: b33 :: b34 :: b35 :: b36 :: b37 :: b38 :: b39 :: b40 :: b41 :: b42 :: b43 :: b44 :: b45 :: b46 :: b47 :: b48 :: b49 :: b50 :: b51 :: b52 :: b53 :: b54 :: b55 :: b56 :: b57 :: b58 :: b59 :: b60 :: b61 :: b62 :: b63 :: b64 :: b65 :: b66 :: b67 :: b68 :: b69 :: b70 :: b71 :: b72 :: b73 :: b74 :: b75 :: b76 :: b77 :: b78 :: b79 :: b80 :: b81 :: b82 :: b83 :: b84 :: b85 :: b86 :: b87 :: b88 :: b89 :: b90 :: b91 :: b92 :: b93 :: b94 :: b95 :: b96 :: b97 :: b98 :: b99 :: b100 :: b101 :: b102 :: b103 :: b104 :: b105 :: b106 :: b107 :: b108 :: b109 :: b110 :: b111 :: b112 :: b113 :: b114 :: b115 :: b116 :: b117 :: b118 :: b119 :: b120 :: b121 :: b122 :: b123 :: b124 :: b125 :: b126 :: [])), defers := { target := .collected d, args := #[] } :: D } W') := hQ
  clear hQ
  have cs1 := (hB.below ((Below.refl A.heap.size A).alloc (Nat.le_refl _) (.cells #[.int .i64 0] 3))).2.2.2.2.1.1.cell
  have hBh : Hid (Bas w A hi2 bw bs lo hi bx uc mst ua U Qs) := hB
  have hmh : Hid (1 ≤ mst ∧ mst ≤ (U.length : Int) + 1) := hms
  have hQh : Hid (Qs.length * 24 ≤ 140737488355328 ∧ IsU (lsts (some1 Qs)) U) := hQl
  have u0 : (0 : Int) ≤ (U.length : Int) := Int.natCast_nonneg _
  have ul : (U.length : Int) ≤ 1048576 := by omega
  obtain ⟨r0, r3⟩ := hr
  clear hB hms hQl
  gi_wp2
  refine range_round w A hi2 bw bs lo hi bx uc mst ua U Qs _ _ hBh.out hBh.out.2.2.2.2.2.1.1.2.2.2.1 hmh.out hQh.out hU ?kn ?kx _ (by kernel_rfl)
  case kn =>
    intro d W' hd hb hK hbx hlt
    have cm := (hBh.out.below hb).1.cell
    have cw := (hBh.out.below hb).2.2.1.1.cell
    have cn := hbx.cell
    have hne : ¬ (U.length : Int) = mst := by omega
    have hfin : Hid (A.heap.size ≤ d ∧ Below A.heap.size A W' ∧ W'.heap[d]? = some (.deferred (some []))) := ⟨hd, hb, hK⟩
    clear hd hb hK hbx cs1 hU
    generalize U.length = u at *
    gi_wp2
    exact hq.out d W' hfin.out.1 hfin.out.2.1 hfin.out.2.2
  case kx =>
    intro d W' hd hb hK hbx
    have cm := (hBh.out.below hb).1.cell
    have cw := (hBh.out.below hb).2.2.1.1.cell
    have cn := hbx.cell
    have hfin : Hid (A.heap.size ≤ d ∧ Below A.heap.size A W' ∧ W'.heap[d]? = some (.deferred (some []))) := ⟨hd, hb, hK⟩
    clear hd hb hK hbx cs1 hU
    gi_wp2
    exact hq.out d W' hfin.out.1 hfin.out.2.1 hfin.out.2.2
set_option maxHeartbeats 2000000 in
theorem last_round (w A : World) (bw bs : Nat) (D : List Deferred) (Q : Exit → Act → World → Prop)
    {a0 a1 a2 a5 a6 a9 a10 a12 a13 a14 a15 a16 a17 a18 a19 a20 a21 a22 a23 a24 a25 a26 a27 a28 a29 a30 a31 a32 a33 a34 a35 a36 a37 a38 a39 a40 a41 a42 a43 a44 a45 a46 a47 a48 a49 a50 a51 a52 a53 a54 a55 a56 a57 a58 a59 a60 a61 a62 a63 a64 a65 a66 a67 a68 a69 a70 a71 a72 a73 a74 a75 a76 a77 a78 a79 a80 a81 a82 a83 a84 a85 a86 a87 a88 a89 a90 a91 a92 a93 a94 a95 a96 a97 a98 a99 a100 a101 a102 a103 a104 a105 a106 a107 a108 a109 a110 a111 a112 a113 a114 a115 a116 a117 a118 a119 a120 a121 a122 a123 a124 a125 a126 : Value}
    (hQ : ∀ {b0 b1 b2 b5 b6 b9 b10 b12 b13 b14 b15 b16 b17 b18 b19 b20 b21 b22 b23 b24 b25 b26 b27 b28 b29 b30 b31 b32 b33 b34 b35 b36 b37 b38 b39 b40 b41 b42 b43 b44 b45 b46 b47 b48 b49 b50 b51 b52 b53 b54 b55 b56 b57 b58 b59 b60 b61 b62 b63 b64 b65 b66 b67 b68 b69 b70 b71 b72 b73 b74 b75 b76 b77 b78 b79 b80 b81 b82 b83 b84 b85 b86 b87 b88 b89 b90 b91 b92 b93 b94 b95 b96 b97 b98 b99 b100 b101 b102 b103 b104 b105 b106 b107 b108 b109 b110 b111 b112 b113 b114 b115 b116 b117 b118 b119 b120 b121 b122 b123 b124 b125 b126 b11 : Value}, Q (.exit 4) { tmps := (List.toArray (b0 :: b1 :: b2 :: (.pointer (some ⟨w.heap.size, 0, none⟩)) :: (.pointer (some ⟨w.heap.size + 1, 0, none⟩)) :: b5 :: b6 :: (.pointer (some ⟨bw, 0, none⟩)) :: (.pointer (some ⟨bs, 0, none⟩)) :: b9 :: b10 :: b11 :: b12 :: b13 :: b14 :: b15 :: b16 :: b17 :: b18 :: b19 :: b20 :: b21 :: b22 :: b23 :: b24 :: b25 :: b26 :: b27 :: b28 :: b29 :: b30 :: b31 :: b32 :: b33 :: b34 :: b35 :: b36 :: b37 :: b38 :: b39 :: b40 :: b41 :: b42 :: b43 :: b44 :: b45 :: b46 :: b47 :: b48 :: b49 :: b50 :: b51 :: b52 :: b53 :: b54 :: b55 :: b56 :: b57 :: b58 :: b59 :: b60 :: b61 :: b62 :: b63 :: b64 :: b65 :: b66 :: b67 :: b68 :: b69 :: b70 :: b71 :: b72 :: b73 :: b74 :: b75 :: b76 :: b77 :: b78 :: b79 :: b80 :: b81 :: b82 :: b83 :: b84 :: b85 :: b86 :: b87 :: b88 :: b89 :: b90 :: b91 :: b92 :: b93 :: b94 :: b95 :: b96 :: b97 :: b98 :: b99 :: b100 :: b101 :: b102 :: b103 :: b104 :: b105 :: b106 :: b107 :: b108 :: b109 :: b110 :: b111 :: b112 :: b113 :: b114 :: b115 :: b116 :: b117 :: b118 :: b119 :: b120 :: b121 :: b122 :: b123 :: b124 :: b125 :: b126 :: [])), defers := D } A)
    (c : Code) (hc : (Try.f4.body.bind loopR) = some (.loop c)) :
    c.wpIn Fence.wide 8 Try.prog Q { tmps := (List.toArray (a0 :: a1 :: a2 :: (.pointer (some ⟨w.heap.size, 0, none⟩)) :: (.pointer (some ⟨w.heap.size + 1, 0, none⟩)) :: a5 :: a6 :: (.pointer (some ⟨bw, 0, none⟩)) :: (.pointer (some ⟨bs, 0, none⟩)) :: a9 :: a10 :: (.int .i64 3) :: a12 :: a13 :: a14 :: a15 :: a16 :: a17 :: a18 :: a19 :: a20 :: a21 :: a22 :: a23 :: a24 :: a25 :: a26 :: a27 :: a28 :: a29 :: a30 :: a31 :: a32 :: a33 :: a34 :: a35 :: a36 :: a37 :: a38 :: a39 :: a40 :: a41 :: a42 :: a43 :: a44 :: a45 :: a46 :: a47 :: a48 :: a49 :: a50 :: a51 :: a52 :: a53 :: a54 :: a55 :: a56 :: a57 :: a58 :: a59 :: a60 :: a61 :: a62 :: a63 :: a64 :: a65 :: a66 :: a67 :: a68 :: a69 :: a70 :: a71 :: a72 :: a73 :: a74 :: a75 :: a76 :: a77 :: a78 :: a79 :: a80 :: a81 :: a82 :: a83 :: a84 :: a85 :: a86 :: a87 :: a88 :: a89 :: a90 :: a91 :: a92 :: a93 :: a94 :: a95 :: a96 :: a97 :: a98 :: a99 :: a100 :: a101 :: a102 :: a103 :: a104 :: a105 :: a106 :: a107 :: a108 :: a109 :: a110 :: a111 :: a112 :: a113 :: a114 :: a115 :: a116 :: a117 :: a118 :: a119 :: a120 :: a121 :: a122 :: a123 :: a124 :: a125 :: a126 :: [])), defers := D } A := by
  have hc2 : some (Code.loop _) = some (Code.loop c) := hc
  injection hc2 with hc3
  injection hc3 with hc4
  rw [← hc4]
  clear hc hc4
  have hq : Hid (∀ {b0 b1 b2 b5 b6 b9 b10 b12 b13 b14 b15 b16 b17 b18 b19 b20 b21 b22 b23 b24 b25 b26 b27 b28 b29 b30 b31 b32 b33 b34 b35 b36 b37 b38 b39 b40 b41 b42 b43 b44 b45 b46 b47 b48 b49 b50 b51 b52 b53 b54 b55 b56 b57 b58 b59 b60 b61 b62 b63 b64 b65 b66 b67 b68 b69 b70 b71 b72 b73 b74 b75 b76 b77 b78 b79 b80 b81 b82 b83 b84 b85 b86 b87 b88 b89 b90 b91 b92 b93 b94 b95 b96 b97 b98 b99 b100 b101 b102 b103 b104 b105 b106 b107 b108 b109 b110 b111 b112 b113 b114 b115 b116 b117 b118 b119 b120 b121 b122 b123 b124 b125 b126 b11 : Value}, Q (.exit 4) { tmps := (List.toArray (b0 :: b1 :: b2 :: (.pointer (some ⟨w.heap.size, 0, none⟩)) :: (.pointer (some ⟨w.heap.size + 1, 0, none⟩)) :: b5 :: b6 :: (.pointer (some ⟨bw, 0, none⟩)) :: (.pointer (some ⟨bs, 0, none⟩)) :: b9 :: b10 :: b11 :: b12 :: b13 :: b14 :: b15 :: b16 :: b17 :: b18 :: b19 :: b20 :: b21 :: b22 :: b23 :: b24 :: b25 :: b26 :: b27 :: b28 :: b29 :: b30 :: b31 :: b32 :: b33 :: b34 :: b35 :: b36 :: b37 :: b38 :: b39 :: b40 :: b41 :: b42 :: b43 :: b44 :: b45 :: b46 :: b47 :: b48 :: b49 :: b50 :: b51 :: b52 :: b53 :: b54 :: b55 :: b56 :: b57 :: b58 :: b59 :: b60 :: b61 :: b62 :: b63 :: b64 :: b65 :: b66 :: b67 :: b68 :: b69 :: b70 :: b71 :: b72 :: b73 :: b74 :: b75 :: b76 :: b77 :: b78 :: b79 :: b80 :: b81 :: b82 :: b83 :: b84 :: b85 :: b86 :: b87 :: b88 :: b89 :: b90 :: b91 :: b92 :: b93 :: b94 :: b95 :: b96 :: b97 :: b98 :: b99 :: b100 :: b101 :: b102 :: b103 :: b104 :: b105 :: b106 :: b107 :: b108 :: b109 :: b110 :: b111 :: b112 :: b113 :: b114 :: b115 :: b116 :: b117 :: b118 :: b119 :: b120 :: b121 :: b122 :: b123 :: b124 :: b125 :: b126 :: [])), defers := D } A) := hQ
  clear hQ
  gi_wp2
  exact hq.out
/-- A result that lies in a box: a bool. -/
theorem results_b {fn : Func} {p : Tmp} (h : fn.results = #[.cell p 4]) (tmps : Array Value) (w : World) (g : Nat) (v : Value) (hp : tmps.getD p undef = .pointer (some ⟨g, 0, none⟩)) (hg : Boxed w g 4 v) : (results fn tmps).run Try.prog w = .ok v w := by
  have hc := hg.cell
  have hA : (isAgg 4).run Try.prog w = .ok false w := by
    unfold isAgg
    simp only [Sem.run_bind, run_underlying Try.underlying4, Result.andThen_ok]
    rfl
  have h1 : (loadVar 4 ⟨g, 0, none⟩).run Try.prog w = .ok v w := by simp [loadVar, hA, go_sem, hc]
  have hp' : tmps[p]?.getD undef = .pointer (some ⟨g, 0, none⟩) := by simpa using hp
  simp [results, h, hp', asAddr, h1]
theorem boxed_put {W : World} {b d : Nat} {t : TypeId} {v : Value} (h : Boxed W b t v) (o : Obj) (hne : b ≠ d) : Boxed (W.putObj d o) b t v := (World.putObj_heap_other hne).trans h
theorem below_put {B : Nat} {w W : World} (h : Below B w W) (d : Nat) (o : Obj) (hd : B ≤ d) : Below B w (W.putObj d o) :=
  ⟨h.os, h.tape, h.output, Nat.le_trans h.size (by simp [World.putObj]), fun k hk => (World.putObj_heap_other (by omega)).trans (h.block k hk)⟩
end Go.Proofs.Ytmkmfnbjmakebaa
