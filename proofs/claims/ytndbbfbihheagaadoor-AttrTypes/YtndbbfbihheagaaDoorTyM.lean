import Derived.Test.YtndbbfbihheagaaDoorTyW
namespace Go.Proofs.YtndbbfbihheagaaDoor
namespace Ty
open Go.RowKit Go.Shelf
open Ak (KE EK kb OwnB)
set_option linter.unusedVariables false
set_option maxRecDepth 1000000
attribute [local go_sem] Oper.semAt_some

/-- The first loop that ranges over a function. -/
def loopR : Code → Option Code
  | .seq a b => match loopR a with
    | some c => some c
    | none => loopR b
  | .cond _ a b => match loopR a with
    | some c => some c
    | none => loopR b
  | .block _ a => loopR a
  | .loop a => if (rng1 a).isSome then some (.loop a) else loopR a
  | .scope a => loopR a
  | _ => none
theorem Sb.bel {wM W : World} {bb c0 : Nat} (h : Sb wM bb c0 W) : Below wM.heap.size wM W := by
  obtain ⟨_, _, _, h1, _⟩ := h
  exact h1
theorem regionW {P : Program} {ops : Array Oper} {Q : Exit → Act → World → Prop} {m : Nat} (N : Nat → Bool) (S : World → Prop) {id : Nat} {a : Act} {w : World} (hm : P.follows .mixedOrders = true)
    (h : RgN.wpAnyN P .any ops (RgN.Only Q) N S ops.size (Array.replicate ops.size false) a w.drew) : (Code.region id ops true).wpIn Fence.wide m P Q a w :=
  wpIn_wide.2 (Code.wp_mono RgN.only_post (wp_region_any hm (RgN.any_of_n _ _ _ _ h)))

set_option maxHeartbeats 4000000 in
theorem one_round (w wM A : World) (bw bq b wc bb c0 : Nat) (mst : Int) (r : Int) (hr : 0 ≤ r ∧ r < 2) (D : List Deferred) (Q : Exit → Act → World → Prop)
    {a0 a7 a8 a9 a10 a11 a12 a13 a14 a15 a16 a17 a18 a19 a20 a21 a22 a23 a24 a25 a26 a27 a28 a29 a30 a31 a32 a33 a34 a35 a36 a37 a38 a39 a40 a41 a42 a43 a44 a45 a46 a47 a48 a49 a50 a51 a52 a53 a54 a55 a56 a57 a58 a59 a60 a61 a62 a63 a64 a65 a66 a67 a68 a69 a70 a71 a72 a73 a74 a75 a76 a77 a78 a79 a80 a81 a82 a83 a84 a85 a86 a87 a88 a89 a90 a91 a92 a93 a94 a95 a96 a97 a98 a99 a100 a101 a102 a103 a104 a105 a106 a107 a108 a109 a110 a111 a112 a113 a114 a115 a116 a117 a118 a119 a120 a121 a122 a123 a124 a125 a126 a127 a128 a129 a130 a131 a132 a133 a134 a135 a136 a137 a138 a139 a140 a141 a142 a143 a144 a145 a146 a147 a148 a149 a150 : Value}
    (hBs : Bs w wM bw bq b wc mst) (hSb : Sb wM bb c0 A) (hc0 : c0 ≤ 500)
    (hQ : ∀ d W' p {b0 b7 b8 b9 b10 b11 b12 b13 b14 b15 b16 b17 b18 b19 b20 b21 b22 b23 b24 b25 b26 b27 b28 b29 b30 b31 b32 b33 b34 b35 b36 b37 b38 b39 b40 b41 b42 b43 b44 b45 b46 b47 b48 b49 b50 b51 b52 b53 b54 b55 b56 b57 b58 b59 b60 b61 b62 b63 b64 b65 b66 b67 b68 b69 b70 b71 b72 b73 b74 b75 b76 b77 b78 b79 b80 b81 b82 b83 b84 b85 b86 b87 b88 b89 b90 b91 b92 b93 b94 b95 b96 b97 b98 b99 b100 b101 b102 b103 b104 b105 b106 b107 b108 b109 b110 b111 b112 b113 b114 b115 b116 b117 b118 b119 b120 b121 b122 b123 b124 b125 b126 b127 b128 b129 b130 b131 b132 b133 b134 b135 b136 b137 b138 b139 b140 b141 b142 b143 b144 b145 b146 b147 b148 b149 b150 : Value}, A.heap.size ≤ d → p ≤ 62 → Sb wM bb (c0 + p) W' → Nc A W' → W'.heap[d]? = some (.deferred (some [])) → Q .normal { tmps := (List.toArray (b0 :: (.pointer (some ⟨w.heap.size, 0, none⟩)) :: (.pointer (some ⟨w.heap.size + 1, 0, none⟩)) :: (.pointer (some ⟨bw, 0, none⟩)) :: (.pointer (some ⟨bq, 0, none⟩)) :: (.pointer (some ⟨bb, 0, none⟩)) :: (.int .i64 (r + 1)) :: b7 :: b8 :: b9 :: b10 :: b11 :: b12 :: b13 :: b14 :: b15 :: b16 :: b17 :: b18 :: b19 :: b20 :: b21 :: b22 :: b23 :: b24 :: b25 :: b26 :: b27 :: b28 :: b29 :: b30 :: b31 :: b32 :: b33 :: b34 :: b35 :: b36 :: b37 :: b38 :: b39 :: b40 :: b41 :: b42 :: b43 :: b44 :: b45 :: b46 :: b47 :: b48 :: b49 :: b50 :: b51 :: b52 :: b53 :: b54 :: b55 :: b56 :: b57 :: b58 :: b59 :: b60 :: b61 :: b62 :: b63 :: b64 :: b65 :: b66 :: b67 :: b68 :: b69 :: b70 :: b71 :: b72 :: b73 :: b74 :: b75 :: b76 :: b77 :: b78 :: b79 :: b80 :: b81 :: b82 :: b83 :: b84 :: b85 :: b86 :: b87 :: b88 :: b89 :: b90 :: b91 :: b92 :: b93 :: b94 :: b95 :: b96 :: b97 :: b98 :: b99 :: b100 :: b101 :: b102 :: b103 :: b104 :: b105 :: b106 :: b107 :: b108 :: b109 :: b110 :: b111 :: b112 :: b113 :: b114 :: b115 :: b116 :: b117 :: b118 :: b119 :: b120 :: b121 :: b122 :: b123 :: b124 :: b125 :: b126 :: b127 :: b128 :: b129 :: b130 :: b131 :: b132 :: b133 :: b134 :: b135 :: b136 :: b137 :: b138 :: b139 :: b140 :: b141 :: b142 :: b143 :: b144 :: b145 :: b146 :: b147 :: b148 :: b149 :: b150 :: [])), defers := { target := .collected d, args := #[] } :: D } W')
    (c : Code) (hc : (Tryd.f3.body.bind loopR) = some (.loop c)) :
    c.wpIn Fence.wide 8 Tryd.prog Q { tmps := (List.toArray (a0 :: (.pointer (some ⟨w.heap.size, 0, none⟩)) :: (.pointer (some ⟨w.heap.size + 1, 0, none⟩)) :: (.pointer (some ⟨bw, 0, none⟩)) :: (.pointer (some ⟨bq, 0, none⟩)) :: (.pointer (some ⟨bb, 0, none⟩)) :: (.int .i64 r) :: a7 :: a8 :: a9 :: a10 :: a11 :: a12 :: a13 :: a14 :: a15 :: a16 :: a17 :: a18 :: a19 :: a20 :: a21 :: a22 :: a23 :: a24 :: a25 :: a26 :: a27 :: a28 :: a29 :: a30 :: a31 :: a32 :: a33 :: a34 :: a35 :: a36 :: a37 :: a38 :: a39 :: a40 :: a41 :: a42 :: a43 :: a44 :: a45 :: a46 :: a47 :: a48 :: a49 :: a50 :: a51 :: a52 :: a53 :: a54 :: a55 :: a56 :: a57 :: a58 :: a59 :: a60 :: a61 :: a62 :: a63 :: a64 :: a65 :: a66 :: a67 :: a68 :: a69 :: a70 :: a71 :: a72 :: a73 :: a74 :: a75 :: a76 :: a77 :: a78 :: a79 :: a80 :: a81 :: a82 :: a83 :: a84 :: a85 :: a86 :: a87 :: a88 :: a89 :: a90 :: a91 :: a92 :: a93 :: a94 :: a95 :: a96 :: a97 :: a98 :: a99 :: a100 :: a101 :: a102 :: a103 :: a104 :: a105 :: a106 :: a107 :: a108 :: a109 :: a110 :: a111 :: a112 :: a113 :: a114 :: a115 :: a116 :: a117 :: a118 :: a119 :: a120 :: a121 :: a122 :: a123 :: a124 :: a125 :: a126 :: a127 :: a128 :: a129 :: a130 :: a131 :: a132 :: a133 :: a134 :: a135 :: a136 :: a137 :: a138 :: a139 :: a140 :: a141 :: a142 :: a143 :: a144 :: a145 :: a146 :: a147 :: a148 :: a149 :: a150 :: [])), defers := D } A := by
  have hc2 : some (Code.loop _) = some (Code.loop c) := hc
  injection hc2 with hc3
  injection hc3 with hc4
  rw [← hc4]
  clear hc hc4
  have hq : Hid (∀ d W' p {b0 b7 b8 b9 b10 b11 b12 b13 b14 b15 b16 b17 b18 b19 b20 b21 b22 b23 b24 b25 b26 b27 b28 b29 b30 b31 b32 b33 b34 b35 b36 b37 b38 b39 b40 b41 b42 b43 b44 b45 b46 b47 b48 b49 b50 b51 b52 b53 b54 b55 b56 b57 b58 b59 b60 b61 b62 b63 b64 b65 b66 b67 b68 b69 b70 b71 b72 b73 b74 b75 b76 b77 b78 b79 b80 b81 b82 b83 b84 b85 b86 b87 b88 b89 b90 b91 b92 b93 b94 b95 b96 b97 b98 b99 b100 b101 b102 b103 b104 b105 b106 b107 b108 b109 b110 b111 b112 b113 b114 b115 b116 b117 b118 b119 b120 b121 b122 b123 b124 b125 b126 b127 b128 b129 b130 b131 b132 b133 b134 b135 b136 b137 b138 b139 b140 b141 b142 b143 b144 b145 b146 b147 b148 b149 b150 : Value}, A.heap.size ≤ d → p ≤ 62 → Sb wM bb (c0 + p) W' → Nc A W' → W'.heap[d]? = some (.deferred (some [])) → Q .normal { tmps := (List.toArray (b0 :: (.pointer (some ⟨w.heap.size, 0, none⟩)) :: (.pointer (some ⟨w.heap.size + 1, 0, none⟩)) :: (.pointer (some ⟨bw, 0, none⟩)) :: (.pointer (some ⟨bq, 0, none⟩)) :: (.pointer (some ⟨bb, 0, none⟩)) :: (.int .i64 (r + 1)) :: b7 :: b8 :: b9 :: b10 :: b11 :: b12 :: b13 :: b14 :: b15 :: b16 :: b17 :: b18 :: b19 :: b20 :: b21 :: b22 :: b23 :: b24 :: b25 :: b26 :: b27 :: b28 :: b29 :: b30 :: b31 :: b32 :: b33 :: b34 :: b35 :: b36 :: b37 :: b38 :: b39 :: b40 :: b41 :: b42 :: b43 :: b44 :: b45 :: b46 :: b47 :: b48 :: b49 :: b50 :: b51 :: b52 :: b53 :: b54 :: b55 :: b56 :: b57 :: b58 :: b59 :: b60 :: b61 :: b62 :: b63 :: b64 :: b65 :: b66 :: b67 :: b68 :: b69 :: b70 :: b71 :: b72 :: b73 :: b74 :: b75 :: b76 :: b77 :: b78 :: b79 :: b80 :: b81 :: b82 :: b83 :: b84 :: b85 :: b86 :: b87 :: b88 :: b89 :: b90 :: b91 :: b92 :: b93 :: b94 :: b95 :: b96 :: b97 :: b98 :: b99 :: b100 :: b101 :: b102 :: b103 :: b104 :: b105 :: b106 :: b107 :: b108 :: b109 :: b110 :: b111 :: b112 :: b113 :: b114 :: b115 :: b116 :: b117 :: b118 :: b119 :: b120 :: b121 :: b122 :: b123 :: b124 :: b125 :: b126 :: b127 :: b128 :: b129 :: b130 :: b131 :: b132 :: b133 :: b134 :: b135 :: b136 :: b137 :: b138 :: b139 :: b140 :: b141 :: b142 :: b143 :: b144 :: b145 :: b146 :: b147 :: b148 :: b149 :: b150 :: [])), defers := { target := .collected d, args := #[] } :: D } W') := hQ
  clear hQ
  have hbA : Below A.heap.size A (A.alloc (.cells #[.int .i64 0] 3)) := (Below.refl _ _).alloc (Nat.le_refl _) _
  have cs1 : (A.alloc (.cells #[.int .i64 0] 3)).cell? ⟨bq, 0, none⟩ = some (.func (.func 9) #[] #[]) := (boxed_bel hBs.seq (hSb.bel.trans (hbA.mono hSb.bel.size)) hBs.seq.lt).cell
  have hB' : Hid (Bs w wM bw bq b wc mst ∧ Sb wM bb c0 A ∧ c0 ≤ 500) := ⟨hBs, hSb, hc0⟩
  obtain ⟨r0, r3⟩ := hr
  clear hBs hSb hc0 hbA
  gi_wp2
  refine range_round w wM A bw bq b wc bb c0 mst _ _ hB'.out.1 hB'.out.2.1 hB'.out.2.2 ?kn ?kx _ (by kernel_rfl)
  case kn =>
    intro d W' hd hs hnc hK hbx
    have cm := (boxed_bel hB'.out.1.most hs.bel hB'.out.1.most.lt).cell
    have cw := (boxed_bel hB'.out.1.want hs.bel hB'.out.1.want.lt).cell
    have cn := hbx.cell
    have hfin : Hid (A.heap.size ≤ d ∧ Sb wM bb (c0 + 62) W' ∧ Nc A W' ∧ W'.heap[d]? = some (.deferred (some []))) := ⟨hd, hs, hnc, hK⟩
    clear hd hs hnc hK hbx cs1
    by_cases hm : (62 : Int) = mst
    · subst hm
      gi_wp2
      exact hq.out d W' 62 hfin.out.1 (by omega) hfin.out.2.1 hfin.out.2.2.1 hfin.out.2.2.2
    · gi_wp2
      exact hq.out d W' 62 hfin.out.1 (by omega) hfin.out.2.1 hfin.out.2.2.1 hfin.out.2.2.2
  case kx =>
    intro d W' p hd hp hs hnc hK hbx
    have cm := (boxed_bel hB'.out.1.most hs.bel hB'.out.1.most.lt).cell
    have cw := (boxed_bel hB'.out.1.want hs.bel hB'.out.1.want.lt).cell
    have cn := hbx.cell
    have hfin : Hid (A.heap.size ≤ d ∧ p ≤ 62 ∧ Sb wM bb (c0 + p) W' ∧ Nc A W' ∧ W'.heap[d]? = some (.deferred (some []))) := ⟨hd, hp, hs, hnc, hK⟩
    clear hd hs hnc hK hbx cs1 hp
    gi_wp2
    exact hq.out d W' p hfin.out.1 hfin.out.2.1 hfin.out.2.2.1 hfin.out.2.2.2.1 hfin.out.2.2.2.2

set_option maxHeartbeats 4000000 in
theorem last_round (w A : World) (bw bq bb : Nat) (D : List Deferred) (Q : Exit → Act → World → Prop)
    {a0 a7 a8 a9 a10 a11 a12 a13 a14 a15 a16 a17 a18 a19 a20 a21 a22 a23 a24 a25 a26 a27 a28 a29 a30 a31 a32 a33 a34 a35 a36 a37 a38 a39 a40 a41 a42 a43 a44 a45 a46 a47 a48 a49 a50 a51 a52 a53 a54 a55 a56 a57 a58 a59 a60 a61 a62 a63 a64 a65 a66 a67 a68 a69 a70 a71 a72 a73 a74 a75 a76 a77 a78 a79 a80 a81 a82 a83 a84 a85 a86 a87 a88 a89 a90 a91 a92 a93 a94 a95 a96 a97 a98 a99 a100 a101 a102 a103 a104 a105 a106 a107 a108 a109 a110 a111 a112 a113 a114 a115 a116 a117 a118 a119 a120 a121 a122 a123 a124 a125 a126 a127 a128 a129 a130 a131 a132 a133 a134 a135 a136 a137 a138 a139 a140 a141 a142 a143 a144 a145 a146 a147 a148 a149 a150 : Value}
    (hQ : ∀ {b0 b6 b7 b8 b9 b10 b11 b12 b13 b14 b15 b16 b17 b18 b19 b20 b21 b22 b23 b24 b25 b26 b27 b28 b29 b30 b31 b32 b33 b34 b35 b36 b37 b38 b39 b40 b41 b42 b43 b44 b45 b46 b47 b48 b49 b50 b51 b52 b53 b54 b55 b56 b57 b58 b59 b60 b61 b62 b63 b64 b65 b66 b67 b68 b69 b70 b71 b72 b73 b74 b75 b76 b77 b78 b79 b80 b81 b82 b83 b84 b85 b86 b87 b88 b89 b90 b91 b92 b93 b94 b95 b96 b97 b98 b99 b100 b101 b102 b103 b104 b105 b106 b107 b108 b109 b110 b111 b112 b113 b114 b115 b116 b117 b118 b119 b120 b121 b122 b123 b124 b125 b126 b127 b128 b129 b130 b131 b132 b133 b134 b135 b136 b137 b138 b139 b140 b141 b142 b143 b144 b145 b146 b147 b148 b149 b150 : Value}, Q (.exit 0) { tmps := (List.toArray (b0 :: (.pointer (some ⟨w.heap.size, 0, none⟩)) :: (.pointer (some ⟨w.heap.size + 1, 0, none⟩)) :: (.pointer (some ⟨bw, 0, none⟩)) :: (.pointer (some ⟨bq, 0, none⟩)) :: (.pointer (some ⟨bb, 0, none⟩)) :: b6 :: b7 :: b8 :: b9 :: b10 :: b11 :: b12 :: b13 :: b14 :: b15 :: b16 :: b17 :: b18 :: b19 :: b20 :: b21 :: b22 :: b23 :: b24 :: b25 :: b26 :: b27 :: b28 :: b29 :: b30 :: b31 :: b32 :: b33 :: b34 :: b35 :: b36 :: b37 :: b38 :: b39 :: b40 :: b41 :: b42 :: b43 :: b44 :: b45 :: b46 :: b47 :: b48 :: b49 :: b50 :: b51 :: b52 :: b53 :: b54 :: b55 :: b56 :: b57 :: b58 :: b59 :: b60 :: b61 :: b62 :: b63 :: b64 :: b65 :: b66 :: b67 :: b68 :: b69 :: b70 :: b71 :: b72 :: b73 :: b74 :: b75 :: b76 :: b77 :: b78 :: b79 :: b80 :: b81 :: b82 :: b83 :: b84 :: b85 :: b86 :: b87 :: b88 :: b89 :: b90 :: b91 :: b92 :: b93 :: b94 :: b95 :: b96 :: b97 :: b98 :: b99 :: b100 :: b101 :: b102 :: b103 :: b104 :: b105 :: b106 :: b107 :: b108 :: b109 :: b110 :: b111 :: b112 :: b113 :: b114 :: b115 :: b116 :: b117 :: b118 :: b119 :: b120 :: b121 :: b122 :: b123 :: b124 :: b125 :: b126 :: b127 :: b128 :: b129 :: b130 :: b131 :: b132 :: b133 :: b134 :: b135 :: b136 :: b137 :: b138 :: b139 :: b140 :: b141 :: b142 :: b143 :: b144 :: b145 :: b146 :: b147 :: b148 :: b149 :: b150 :: [])), defers := D } A)
    (c : Code) (hc : (Tryd.f3.body.bind loopR) = some (.loop c)) :
    c.wpIn Fence.wide 8 Tryd.prog Q { tmps := (List.toArray (a0 :: (.pointer (some ⟨w.heap.size, 0, none⟩)) :: (.pointer (some ⟨w.heap.size + 1, 0, none⟩)) :: (.pointer (some ⟨bw, 0, none⟩)) :: (.pointer (some ⟨bq, 0, none⟩)) :: (.pointer (some ⟨bb, 0, none⟩)) :: (.int .i64 2) :: a7 :: a8 :: a9 :: a10 :: a11 :: a12 :: a13 :: a14 :: a15 :: a16 :: a17 :: a18 :: a19 :: a20 :: a21 :: a22 :: a23 :: a24 :: a25 :: a26 :: a27 :: a28 :: a29 :: a30 :: a31 :: a32 :: a33 :: a34 :: a35 :: a36 :: a37 :: a38 :: a39 :: a40 :: a41 :: a42 :: a43 :: a44 :: a45 :: a46 :: a47 :: a48 :: a49 :: a50 :: a51 :: a52 :: a53 :: a54 :: a55 :: a56 :: a57 :: a58 :: a59 :: a60 :: a61 :: a62 :: a63 :: a64 :: a65 :: a66 :: a67 :: a68 :: a69 :: a70 :: a71 :: a72 :: a73 :: a74 :: a75 :: a76 :: a77 :: a78 :: a79 :: a80 :: a81 :: a82 :: a83 :: a84 :: a85 :: a86 :: a87 :: a88 :: a89 :: a90 :: a91 :: a92 :: a93 :: a94 :: a95 :: a96 :: a97 :: a98 :: a99 :: a100 :: a101 :: a102 :: a103 :: a104 :: a105 :: a106 :: a107 :: a108 :: a109 :: a110 :: a111 :: a112 :: a113 :: a114 :: a115 :: a116 :: a117 :: a118 :: a119 :: a120 :: a121 :: a122 :: a123 :: a124 :: a125 :: a126 :: a127 :: a128 :: a129 :: a130 :: a131 :: a132 :: a133 :: a134 :: a135 :: a136 :: a137 :: a138 :: a139 :: a140 :: a141 :: a142 :: a143 :: a144 :: a145 :: a146 :: a147 :: a148 :: a149 :: a150 :: [])), defers := D } A := by
  have hc2 : some (Code.loop _) = some (Code.loop c) := hc
  injection hc2 with hc3
  injection hc3 with hc4
  rw [← hc4]
  clear hc hc4
  have hq : Hid (∀ {b0 b6 b7 b8 b9 b10 b11 b12 b13 b14 b15 b16 b17 b18 b19 b20 b21 b22 b23 b24 b25 b26 b27 b28 b29 b30 b31 b32 b33 b34 b35 b36 b37 b38 b39 b40 b41 b42 b43 b44 b45 b46 b47 b48 b49 b50 b51 b52 b53 b54 b55 b56 b57 b58 b59 b60 b61 b62 b63 b64 b65 b66 b67 b68 b69 b70 b71 b72 b73 b74 b75 b76 b77 b78 b79 b80 b81 b82 b83 b84 b85 b86 b87 b88 b89 b90 b91 b92 b93 b94 b95 b96 b97 b98 b99 b100 b101 b102 b103 b104 b105 b106 b107 b108 b109 b110 b111 b112 b113 b114 b115 b116 b117 b118 b119 b120 b121 b122 b123 b124 b125 b126 b127 b128 b129 b130 b131 b132 b133 b134 b135 b136 b137 b138 b139 b140 b141 b142 b143 b144 b145 b146 b147 b148 b149 b150 : Value}, Q (.exit 0) { tmps := (List.toArray (b0 :: (.pointer (some ⟨w.heap.size, 0, none⟩)) :: (.pointer (some ⟨w.heap.size + 1, 0, none⟩)) :: (.pointer (some ⟨bw, 0, none⟩)) :: (.pointer (some ⟨bq, 0, none⟩)) :: (.pointer (some ⟨bb, 0, none⟩)) :: b6 :: b7 :: b8 :: b9 :: b10 :: b11 :: b12 :: b13 :: b14 :: b15 :: b16 :: b17 :: b18 :: b19 :: b20 :: b21 :: b22 :: b23 :: b24 :: b25 :: b26 :: b27 :: b28 :: b29 :: b30 :: b31 :: b32 :: b33 :: b34 :: b35 :: b36 :: b37 :: b38 :: b39 :: b40 :: b41 :: b42 :: b43 :: b44 :: b45 :: b46 :: b47 :: b48 :: b49 :: b50 :: b51 :: b52 :: b53 :: b54 :: b55 :: b56 :: b57 :: b58 :: b59 :: b60 :: b61 :: b62 :: b63 :: b64 :: b65 :: b66 :: b67 :: b68 :: b69 :: b70 :: b71 :: b72 :: b73 :: b74 :: b75 :: b76 :: b77 :: b78 :: b79 :: b80 :: b81 :: b82 :: b83 :: b84 :: b85 :: b86 :: b87 :: b88 :: b89 :: b90 :: b91 :: b92 :: b93 :: b94 :: b95 :: b96 :: b97 :: b98 :: b99 :: b100 :: b101 :: b102 :: b103 :: b104 :: b105 :: b106 :: b107 :: b108 :: b109 :: b110 :: b111 :: b112 :: b113 :: b114 :: b115 :: b116 :: b117 :: b118 :: b119 :: b120 :: b121 :: b122 :: b123 :: b124 :: b125 :: b126 :: b127 :: b128 :: b129 :: b130 :: b131 :: b132 :: b133 :: b134 :: b135 :: b136 :: b137 :: b138 :: b139 :: b140 :: b141 :: b142 :: b143 :: b144 :: b145 :: b146 :: b147 :: b148 :: b149 :: b150 :: [])), defers := D } A) := hQ
  clear hQ
  gi_wp2
  exact hq.out

end Ty
end Go.Proofs.YtndbbfbihheagaaDoor
