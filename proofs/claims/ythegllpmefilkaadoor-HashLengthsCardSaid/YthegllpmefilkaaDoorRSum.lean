/-
  The document's own sum.
-/
import Derived.Test.YthegllpmefilkaaDoorRSumB
namespace Go.Proofs.YthegllpmefilkaaDoor
open Go.RowKit Go.MapKept
set_option maxRecDepth 1000000 in
set_option maxHeartbeats 16000000 in
theorem sum_calls (w : World) (gk gh : Nat) (hc : ConstAt w gk gh) (m : List UInt8) (hl : m.length ≤ 1073741824) :
    Calls Tryd.prog 21 #[.agg #[.slice (some ⟨gk, 0, none⟩) 64 64, .slice (some ⟨gh, 0, none⟩) 8 8], .string ⟨m.toArray⟩] w (NewB w (shaB m)) := by
  obtain ⟨i0, hi, hz0, hz1, hz2⟩ := info_parts Tryd.info5
  have HI := Lib.hid hi; have HZ0 := Lib.hid hz0; have HZ1 := Lib.hid hz1; have HZ2 := Lib.hid hz2; clear hi hz0 hz1 hz2
  obtain ⟨L, hL⟩ : ∃ L, m.length = L := ⟨_, rfl⟩
  rw [hL] at hl
  have HC := Lib.hid hc; clear hc
  have hF1 : Fr [] w (w.alloc (.cells #[.slice (some ⟨gk, 0, none⟩) 64 64, .slice (some ⟨gh, 0, none⟩) 8 8] 45)) := (Fr.refl [] w).alloc _
  have hbx : (w.alloc (.cells #[.slice (some ⟨gk, 0, none⟩) 64 64, .slice (some ⟨gh, 0, none⟩) 8 8] 45)).heap[w.heap.size]? = some (.cells #[.slice (some ⟨gk, 0, none⟩) 64 64, .slice (some ⟨gh, 0, none⟩) 8 8] 45 (0, 0)) := heap_alloc_last _ _
  have HF1 := Lib.hid hF1; have HBX := Lib.hid hbx; clear hF1 hbx
  have hln : m.length ≤ maxLen := by rw [hL]; unfold maxLen; omega
  have HLN := Lib.hid hln; clear hln
  go_enter Tryd.func21, Tryd.ntmps21
  go_wp2_with (first
    | ((with_reducible_and_instances refine id (α := wpList _ _ _ (⟨some 27, .convert _ _ _, _, _, _, _⟩ :: _) _ _) ?_); refine wL_bytesLies rfl 9 23 5 _ rfl Tryd.underlying9 Tryd.underlying23 Tryd.underlying5 m rfl HLN.out ?_)
    | fail)
  intro v w2 hf2 hv
  have hbx0 : (w.alloc (.cells #[.slice (some ⟨gk, 0, none⟩) 64 64, .slice (some ⟨gh, 0, none⟩) 8 8] 45)).heap[w.heap.size]? = some (.cells #[.slice (some ⟨gk, 0, none⟩) 64 64, .slice (some ⟨gh, 0, none⟩) 8 8] 45 (0, 0)) := heap_alloc_last _ _
  have HF1' := HF1.out
  have hwb : (w.alloc (.cells #[.slice (some ⟨gk, 0, none⟩) 64 64, .slice (some ⟨gh, 0, none⟩) 8 8] 45)).heap.size = w.heap.size + 1 := by simp
  generalize w.alloc (.cells #[.slice (some ⟨gk, 0, none⟩) 64 64, .slice (some ⟨gh, 0, none⟩) 8 8] 45) = wb at *
  have hs2 : w.heap.size + 1 ≤ w2.heap.size := by have := hf2.size; omega
  have HF2 := Lib.hid hf2; have HV := Lib.hid hv; have HBX0 := Lib.hid hbx0; have HWB := Lib.hid HF1'
  clear hf2 hv hbx0 HF1' HF1 HBX
  have HNC := Lib.hid (new_cell1 w2 128 128 5 rfl)
  go_wp2_with (first
    | (at_builtin; refine wL_append1 rfl _ _ 23 rfl 5 i0 (.int .u8 0) Tryd.underlying23 HI.out HZ0.out HZ1.out HZ2.out rfl v rfl (w.heap.size + 1) m (HV.out.alloc _) 128 ⟨w2.heap.size, 0, none⟩ 1 rfl HNC.out (by rw [hL]; omega) (by simp; omega) wb (HF2.out.alloc _) (by omega) ?_)
    | fail)
  intro v3 w3 hv3 hf3
  have HF3 := Lib.hid hf3; have HV3 := Lib.hid hv3
  clear hv3 hf3 HV HNC HF2
  obtain ⟨Z, hZ⟩ : ∃ Z, padZ L = Z := ⟨_, rfl⟩
  have hz64 : Z < 64 := by rw [← hZ]; unfold padZ; omega
  have hzm : (L + 1 + Z) % 64 = 56 := by rw [← hZ]; unfold padZ; omega
  have HZZ := Lib.hid hZ; clear hZ
  go_wp2_with fail
  go_loopw [6] (fun v6 wr => ∃ j : Nat, j ≤ Z ∧ LiesB 5 wr (w.heap.size + 1) v6 (m ++ [128] ++ List.replicate j 0) ∧ Fr [] wb wr) (fun v6 _ => 64 - (lenOfV v6 - (L + 1)))
  case atStart => exact ⟨0, by omega, by simpa using HV3.out, HF3.out⟩
  case round =>
    clear HV3 HF3
    obtain ⟨j, hj, hlv, hfr⟩ := hrel
    have hlen : (m ++ [128] ++ List.replicate j (0 : UInt8)).length = L + 1 + j := by simp [hL]; omega
    obtain ⟨g, cap, hv6, hBg, hglt, hcap, hcap2, hbytes⟩ := hlv.range
    rw [hlen] at hv6
    subst hv6
    have HV6 : Hid ((Value.slice (some ⟨g, 0, none⟩) (L + 1 + j) cap) = .slice (some ⟨g, 0, none⟩) (L + 1 + j) cap) := Lib.hid rfl
    by_cases hlt : j < Z
    · have hne : ¬ ((L : Int) + 1 + j) % 64 = 56 := by omega
      have hsz := hfr.size
      have HLV := Lib.hid hlv; have HFR := Lib.hid hfr; have HLEN := Lib.hid hlen
      have HNC := Lib.hid (new_cell1 wr 0 0 5 rfl)
      have hsn : m ++ [128] ++ List.replicate j (0 : UInt8) ++ [0] = m ++ [128] ++ List.replicate (j + 1) 0 := by rw [List.replicate_succ']; simp
      have HSN := Lib.hid hsn
      obtain ⟨xs, hxs⟩ : ∃ xs, m ++ [128] ++ List.replicate j (0 : UInt8) = xs := ⟨_, rfl⟩
      rw [hxs] at HLV HLEN HSN
      clear hlv hfr hlen hsn hxs hbytes hBg
      go_wp2_with (first
        | (at_builtin; refine wL_append1 rfl _ _ 23 rfl 5 i0 (.int .u8 0) Tryd.underlying23 HI.out HZ0.out HZ1.out HZ2.out rfl (.slice (some ⟨g, 0, none⟩) (L + 1 + j) cap) rfl (w.heap.size + 1) xs (HLV.out.alloc _) 0 ⟨wr.heap.size, 0, none⟩ 1 rfl HNC.out (by rw [HLEN.out]; omega) (by simp; omega) wb (HFR.out.alloc _) (by omega) ?_)
        | fail)
      intro v' w' hv' hf'
      rw [HSN.out] at hv'
      have HVn := Lib.hid hv'; have HFn := Lib.hid hf'
      have hm1 : lenOfV v' = L + 1 + (j + 1) := by
        obtain ⟨g', cap', hg', _⟩ := hv'.range
        rw [hg']
        show (m ++ [128] ++ List.replicate (j + 1) (0 : UInt8)).length = _
        simp [hL]; omega
      have HM1 := Lib.hid hm1
      clear hv' hf' hm1
      go_wp2_with fail
      go_roundw
      case rel => exact ⟨j + 1, by omega, HVn.out, HFn.out⟩
      case measure =>
        show 64 - (lenOfV v' - (L + 1)) < 64 - (lenOfV (.slice (some ⟨g, 0, none⟩) (L + 1 + j) cap) - (L + 1))
        rw [HM1.out]
        simp only [lenOfV]
        omega
    · obtain rfl : j = Z := by omega
      have heq : ((L : Int) + 1 + j) % 64 = 56 := by omega
      obtain ⟨xs, hxs⟩ : ∃ xs, m ++ [128] ++ List.replicate j (0 : UInt8) = xs := ⟨_, rfl⟩
      rw [hxs] at hlv hlen
      have hpd : padded m = xs ++ lenB L := by unfold padded; rw [hL, HZZ.out, hxs]
      have HPD := Lib.hid hpd; have HLEN := Lib.hid hlen
      have HLV := Lib.hid hlv; have HFR := Lib.hid hfr
      clear hlv hfr hbytes hxs hpd hlen
      go_wp2_with fail
      go_loopw [6, 7] (fun v6 v7 wr => ∃ k : Nat, k ≤ 8 ∧ v7 = .int .i64 (56 - 8 * (k : Int)) ∧ LiesB 5 wr (w.heap.size + 1) v6 (xs ++ (lenB L).take k) ∧ Fr [] wb wr) (fun _ v7 _ => (intOf v7 + 8).toNat)
      case atStart => exact ⟨0, by omega, rfl, by simpa using HLV.out, HFR.out⟩
      case round =>
        clear HLV HFR
        obtain ⟨k, hk, rfl, hlv, hfr⟩ := hrel
        have hl2 : (xs ++ (lenB L).take k).length = L + 1 + j + k := by rw [List.length_append, HLEN.out, List.length_take, lenB_length]; omega
        obtain ⟨g2, cap2, hv6, hBg2, hglt2, hcap3, hcap4, hbytes⟩ := hlv.range
        rw [hl2] at hv6
        subst hv6
        by_cases hlt : k < 8
        · have hsz := hfr.size
          have hge : (0 : Int) ≤ 56 - 8 * (k : Int) := by omega
          have hle : (56 : Int) - 8 * (k : Int) ≤ 64 := by omega
          have hb := byteI_toNat ((L : Int) * 8 / 2 ^ (56 - 8 * k))
          have htn : ((56 : Int) - 8 * (k : Int)).toNat = 56 - 8 * k := by omega
          have hsn : xs ++ (lenB L).take k ++ [byteI ((L : Int) * 8 / 2 ^ (56 - 8 * k))] = xs ++ (lenB L).take (k + 1) := by
            rw [List.append_assoc, List.take_succ_eq_append_getElem (by rw [lenB_length]; exact hlt)]
            congr 2
            have := lenB_get L k hlt
            rw [List.getElem?_eq_getElem (by rw [lenB_length]; exact hlt)] at this
            rw [Option.some.inj this]
          generalize byteI ((L : Int) * 8 / 2 ^ (56 - 8 * k)) = b at *
          have HNC := Lib.hid (new_cell1 wr _ b 5 hb)
          have HSN := Lib.hid hsn; have HLV := Lib.hid hlv; have HFR := Lib.hid hfr; have HL2 := Lib.hid hl2
          obtain ⟨ys, hys⟩ : ∃ ys, xs ++ (lenB L).take k = ys := ⟨_, rfl⟩
          rw [hys] at HSN HLV HL2
          clear hb hsn hlv hfr hbytes hl2 hys
          go_wp2_with (first
            | (at_builtin; refine wL_append1 rfl _ _ 23 rfl 5 i0 (.int .u8 0) Tryd.underlying23 HI.out HZ0.out HZ1.out HZ2.out rfl (.slice (some ⟨g2, 0, none⟩) (L + 1 + j + k) cap2) rfl (w.heap.size + 1) ys (HLV.out.alloc _) b ⟨wr.heap.size, 0, none⟩ 1 rfl HNC.out (by rw [HL2.out]; omega) (by simp; omega) wb (HFR.out.alloc _) (by omega) ?_)
            | fail)
          intro v' w' hv' hf'
          rw [HSN.out] at hv'
          have HVn := Lib.hid hv'; have HFn := Lib.hid hf'
          clear hv' hf'
          go_wp2_with fail
          go_roundw
          case rel => exact ⟨k + 1, by omega, by go_num, HVn.out, HFn.out⟩
          case measure => simp [intOf]; omega
        · obtain rfl : k = 8 := by omega
          have hfull : xs ++ (lenB L).take 8 = padded m := by rw [HPD.out, List.take_of_length_le (by rw [lenB_length]; exact Nat.le_refl _)]
          rw [hfull] at hlv hl2 hbytes
          have HLV := Lib.hid hlv; have HFR := Lib.hid hfr; have HL2 := Lib.hid hl2; have HBY := Lib.hid hbytes
          clear hlv hfr hl2 hfull hbytes
          obtain ⟨j0, hj0, hj1, hj2, hj3⟩ := info_parts Tryd.info34
          have hb4 : Hid (j0.bytes * 64 ≤ 281474976710656) := Lib.hid (by rw [hj3]; decide)
          have JI := Lib.hid hj0; have J0 := Lib.hid hj1; have J1 := Lib.hid hj2; have J2 := Lib.hid hj3; clear hj0 hj1 hj2 hj3
          have hbox : (wr.alloc (.cells #[] 34)).cell? ⟨w.heap.size, 1, none⟩ = some (.slice (some ⟨gh, 0, none⟩) 8 8) := box_cell ((HFR.out.alloc _).keep HBX0.out (by simp)) 1
          have hbd := run_build0w
          have hca : ConstAt (wr.alloc (.cells #[] 34)) gk gh := HC.out.keep ((HWB.out.trans HFR.out).alloc _)
          have HNW := Lib.hid (wv_cells hca.h)
          have HO0 := Lib.hid (ownsRow_empty wr 34 1 wr.heap.size (Nat.le_refl _))
          have h88 : (wc st0.l).length = 8 * 1 := rfl
          have H88 := Lib.hid h88
          obtain ⟨l0, hl0⟩ : ∃ l0, st0.l = l0 := ⟨_, rfl⟩
          rw [hl0] at HNW H88
          have HL0 := Lib.hid hl0
          clear hca h88 hl0
          go_wp2_with (first
            | (at_builtin; refine wpList_append_own _ rfl _ _ 43 rfl wr.heap.size 34 j0 (.int .u32 0) 1 4 Tryd.underlying43 JI.out J0.out J1.out J2.out rfl (by decide) _ 0 [] rfl HO0.out ⟨gh, 0, none⟩ 8 8 (wc l0) rfl H88.out HNW.out (wc_one _) (by unfold maxLen; decide) (by decide) (by simp) ?_)
            | fail)
          intro v8 w8 hown8 hgr8 _
          have hf8 : Fr [] wr w8 := ((Fr.refl [] wr).alloc _).grown hgr8 (fun k hk => .inr (by have := ownBlock_ge HO0.out k hk; omega))
          have HF8 := Lib.hid (HFR.out.trans hf8); have HO8 := Lib.hid hown8
          have HLV8 := Lib.hid (HLV.out.keep hf8 (by simp)); have HBY8 := Lib.hid (HBY.out.stay hf8)
          have hlt8 : g2 < wr.heap.size := hglt2
          have hsz8 := hf8.size
          clear hown8 hgr8 hf8 HLV HBY HNW HO0 hbd
          have HMW : Hid (w8.alloc (.cells (madeCells (Value.int .u32 0).cells (64 * j0.size)) 34) = w8.alloc (.cells (wv (List.replicate 64 0)) 34)) := Lib.hid (by rw [J1.out, Nat.mul_one, made_words])
          go_upto_block 4 with (first
            | ((with_reducible_and_instances refine id (α := wpList _ _ _ (⟨some 52, .makeSlice _ _ _, _, _, _, _⟩ :: _) _ _) ?_); refine wL_make rfl _ _ 43 rfl 34 j0 (.int .u32 0) Tryd.underlying43 JI.out J0.out 64 rfl rfl hb4.out (by decide) ?_; rw [HMW.out])
            | fail)
          obtain ⟨gH, capH, hv8, hBH, hHlt, _, _⟩ := owns_range HO8.out (by decide)
          subst hv8
          have hpl : (padded m).length = L + 1 + j + 8 := HL2.out
          have hp64 : (L + 1 + j + 8) % 64 = 0 := by rw [← hpl]; exact padded_length m
          have hst0 : wc l0 = wc (mixN st0 (padded m) 0).l := by rw [← HL0.out]; rfl
          have hS0 : SumAt wb (w8.alloc (.cells (wv (List.replicate 64 0)) 34)) g2 wr.heap.size gH capH w8.heap.size (padded m) (mixN st0 (padded m) 0).l (List.replicate 64 0) :=
            ⟨HF8.out.alloc _, HBY8.out.stay ((Fr.refl [] w8).alloc _), by rw [← hst0]; exact own_keep (by simpa using HO8.out) ((Fr.refl [] w8).alloc _), heap_alloc_last _ _, by simp⟩
          have HS0 := Lib.hid hS0
          have hgw : wb.heap.size ≤ w8.heap.size := HF8.out.size
          have hHgw : gH < w8.heap.size := hHlt
          have h2gw : g2 < w8.heap.size := by omega
          obtain ⟨gw, hgweq⟩ : ∃ gw, w8.heap.size = gw := ⟨_, rfl⟩
          rw [hgweq] at hgw hHgw h2gw HS0 ⊢
          obtain ⟨PL, hPL⟩ : ∃ n, L + 1 + j + 8 = n := ⟨_, rfl⟩
          rw [hPL] at hpl hp64 ⊢
          have hPB : PL ≤ 2000000000 := by omega
          generalize hpq : padded m = p at *
          have HPQ := Lib.hid hpq
          clear hpq
          obtain ⟨Bh, hBh⟩ : ∃ Bh, wr.heap.size = Bh := ⟨_, rfl⟩
          have hbw : wb.heap.size ≤ wr.heap.size := HFR.out.size
          rw [hBh] at HS0 hlt8 hbw
          clear hBh
          have HPL := Lib.hid hpl; have HMM := Lib.hid hHlt
          clear hpl hst0 hS0 HO8 HLV8 HBY8 HF8 hHlt HMM hPL hgweq hbox HL0 H88 HMW
          go_upto_block 4 with fail
          refine blk4 wb _ PL _ w.heap.size gk gh g2 Bh gH capH gw p _ HBX0.out (HC.out.keep HWB.out).k HS0.out (by omega) hHgw (by omega) hPB HPL.out hp64 ?_
          intro k ws a10 a11 a12 a13 a14 a15 a16 a17 a18 a19 a53 a54 a55 a56 a57 a58 a59 a60 a61 a62 a63 a64 a65 a66 a67 a68 a69 a70 a71 a72 a73 a74 a75 a76 a77 a78 a79 a80 a81 a82 a83 a84 a85 a86 a87 a88 a89 a90 a91 a92 a93 a94 a95 a96 a97 a98 a99 a100 a101 a102 a103 a104 a105 a106 a107 a108 a109 a110 a111 a112 a113 a114 a115 a116 a117 a118 a119 a120 a121 a122 a123 a124 a125 a126 a127 a128 a129 a130 a131 a132 a133 a134 a135 a136 a137 a138 a139 a140 a141 a142 a143 a144 a145 a146 a147 a148 a149 a150 a151 a152 a153 a154 a155 a156 a157 a158 a159 a160 a161 a162 a163 a164 a165 a166 a167 a168 a169 a170 a171 a172 a173 a174 a175 a176 a177 a178 a179 a180 a181 a182 a183 a184 a185 a186 a187 a188 a189 a190 a191 a192 a193 a194 a195 a196 a197 a198 a199 a200 a201 a202 a203 a204 a205 a206 a207 a208 a209 a210 a211 a212 a213 a214 a215 a216 a217 a218 a219 a220 a221 a222 a223 a224 a225 a226 a227 a228 a229 a230 a231 a232 a233 a234 a235 a236 a237 a238 a239 a240 a241 a242 a243 a244 a245 a246 a247 a248 a249 a250 a251 a252 a253 a254 a255 a256 a257 a258 a259 a260 a261 a262 a263 a264 a265 a266 a267 a268 a269 a270 a271 a272 a273 a274 a275 a276 w9 hk9 hS9
          have hF9 := HWB.out.trans hS9.fr
          have hcl : ∀ q, q < 8 → w9.cell? ⟨gH, q, none⟩ = some (.int .u32 ((mixN st0 p k).l.getD q 0)) := fun q hq => by
            rw [(own_cell hS9.st q hq).1]
            have : q < (mixN st0 p k).l.length := hq
            simp [wc, this]
          have hsz9 := hF9.size
          have hfin : outB (mixN st0 p k).l = shaB m := by
            unfold shaB
            rw [HPQ.out, show p.length / 64 = k by rw [HPL.out]; omega]
          have HF9 := Lib.hid hF9; have HFIN := Lib.hid hfin; have HCL := Lib.hid hcl
          clear hS9 hF9 hfin hcl HS0
          go_upto_block 12 with fail
          refine blk12 w9 gH capH (mixN st0 p k).l rfl HCL.out ?_
          intro c20 c21 c277 c278 c279 c280 c281 c282 c283 c284 c285 c286 c287 c288 c289 c290 c291 c292 c293 c294 c295 c296 c297 c298 c299 c300 c301 c302 c303 c304 c305 c306 w10 ho10 hf10
          rw [HFIN.out] at ho10
          have hlen : (shaB m).length = 32 := by rw [← HFIN.out, outB_length]; rfl
          have HN : Hid (NewB w (shaB m) (.returned c20) w10) := Lib.hid ⟨c20, rfl, by rw [hlen]; exact ownsRow_lower ho10 hsz9, HF9.out.trans hf10⟩
          clear ho10 hf10 HF9 HFIN HCL hlen
          go_wp2_with fail
          go_ret
          exact HN.out
end Go.Proofs.YthegllpmefilkaaDoor
