/-
  The document's sum: the blocks, one behind the other.
-/
import Derived.Test.YthegllpmefilkaaDoorRSum4
import Derived.Test.YthegllpmefilkaaDoorRSum7
namespace Go.Proofs.YthegllpmefilkaaDoor
open Go.RowKit Go.MapKept
theorem SumAt.stay {wb w w' : World} {g2 B gH capH gw : Nat} {p : List UInt8} {l ws : List Int} (h : SumAt wb w g2 B gH capH gw p l ws) (hf : Fr [] w w') : SumAt wb w' g2 B gH capH gw p l ws :=
  ⟨h.fr.trans hf, h.tx.stay hf, own_keep h.st hf, hf.keep h.ww (by simp), h.wl⟩
theorem SumAt.added {wb w w' : World} {g2 B gH capH gw : Nat} {p : List UInt8} {l l' ws : List Int} (h : SumAt wb w g2 B gH capH gw p l ws) (hf : Fr [gH] w w') (ho : w'.ownsRow B 34 1 (.slice (some ⟨gH, 0, none⟩) 8 capH) 8 (wc l'))
    (h2 : g2 < gH) (hw : gH < gw) (hb : wb.heap.size ≤ gH) : SumAt wb w' g2 B gH capH gw p l' ws := by
  refine ⟨h.fr.trans_new hf (by intro x hx; simp at hx; omega), ?_, ho, hf.keep h.ww (by simp; omega), h.wl⟩
  by_cases h0 : 0 < p.length
  · exact h.tx.keep hf (by simp; omega) (World.block_lt_of_cell? _ _ (h.tx.cell (j := 0) h0))
  · have : p = [] := List.eq_nil_of_length_eq_zero (by omega)
    subst this
    exact BytesAt.nil _ _ _
theorem vat_of {w : World} {n : Nat} {s : St} (h : w.rangeAt n 0 (wc s.l)) : VAt w n s :=
  ⟨h 0 _ rfl, h 1 _ rfl, h 2 _ rfl, h 3 _ rfl, h 4 _ rfl, h 5 _ rfl, h 6 _ rfl, h 7 _ rfl⟩
set_option maxRecDepth 1000000 in
set_option maxHeartbeats 16000000 in
theorem blk4 {s0 s1 s3 s4 s5 s7 s11 s12 s13 s14 s15 s16 s17 s18 s19 s20 s21 s22 s23 s24 s25 s26 s27 s28 s29 s30 s31 s32 s33 s34 s35 s36 s37 s38 s39 s40 s41 s42 s43 s44 s45 s46 s47 s48 s49 s50 s51 s52 s53 s54 s55 s56 s57 s58 s59 s60 s61 s62 s63 s64 s65 s66 s67 s68 s69 s70 s71 s72 s73 s74 s75 s76 s77 s78 s79 s80 s81 s82 s83 s84 s85 s86 s87 s88 s89 s90 s91 s92 s93 s94 s95 s96 s97 s98 s99 s100 s101 s102 s103 s104 s105 s106 s107 s108 s109 s110 s111 s112 s113 s114 s115 s116 s117 s118 s119 s120 s121 s122 s123 s124 s125 s126 s127 s128 s129 s130 s131 s132 s133 s134 s135 s136 s137 s138 s139 s140 s141 s142 s143 s144 s145 s146 s147 s148 s149 s150 s151 s152 s153 s154 s155 s156 s157 s158 s159 s160 s161 s162 s163 s164 s165 s166 s167 s168 s169 s170 s171 s172 s173 s174 s175 s176 s177 s178 s179 s180 s181 s182 s183 s184 s185 s186 s187 s188 s189 s190 s191 s192 s193 s194 s195 s196 s197 s198 s199 s200 s201 s202 s203 s204 s205 s206 s207 s208 s209 s210 s211 s212 s213 s214 s215 s216 s217 s218 s219 s220 s221 s222 s223 s224 s225 s226 s227 s228 s229 s230 s231 s232 s233 s234 s235 s236 s237 s238 s239 s240 s241 s242 s243 s244 s245 s246 s247 s248 s249 s250 s251 s252 s253 s254 s255 s256 s257 s258 s259 s260 s261 s262 s263 s264 s265 s266 s267 s268 s269 s270 s271 s272 s273 s274 s275 s276 s277 s278 s279 s280 s281 s282 s283 s284 s285 s286 s287 s288 s289 s290 s291 s292 s293 s294 s295 s296 s297 s298 s299 s300 s301 s302 s303 s304 s305 s306 s307 : Value} {Q : Exit → Act → World → Prop} (wb w : World) (PL cap2 gb gk gh g2 Bh gH capH gw : Nat) (p : List UInt8) (ws0 : List Int)
    (hb : wb.heap[gb]? = some (.cells #[.slice (some ⟨gk, 0, none⟩) 64 64, .slice (some ⟨gh, 0, none⟩) 8 8] 45 (0, 0))) (hk : wb.heap[gk]? = some (.cells (wv tabK) 34 (0, 0)))
    (hS0 : SumAt wb w g2 Bh gH capH gw p st0.l ws0) (h2B : g2 < Bh) (hHgw : gH < gw) (hbB : wb.heap.size ≤ Bh) (hPB : PL ≤ 2000000000) (hpl : p.length = PL) (hp64 : PL % 64 = 0)
    (hout : ∀ (k : Nat) (ws : List Int) (u10 u11 u12 u13 u14 u15 u16 u17 u18 u19 u53 u54 u55 u56 u57 u58 u59 u60 u61 u62 u63 u64 u65 u66 u67 u68 u69 u70 u71 u72 u73 u74 u75 u76 u77 u78 u79 u80 u81 u82 u83 u84 u85 u86 u87 u88 u89 u90 u91 u92 u93 u94 u95 u96 u97 u98 u99 u100 u101 u102 u103 u104 u105 u106 u107 u108 u109 u110 u111 u112 u113 u114 u115 u116 u117 u118 u119 u120 u121 u122 u123 u124 u125 u126 u127 u128 u129 u130 u131 u132 u133 u134 u135 u136 u137 u138 u139 u140 u141 u142 u143 u144 u145 u146 u147 u148 u149 u150 u151 u152 u153 u154 u155 u156 u157 u158 u159 u160 u161 u162 u163 u164 u165 u166 u167 u168 u169 u170 u171 u172 u173 u174 u175 u176 u177 u178 u179 u180 u181 u182 u183 u184 u185 u186 u187 u188 u189 u190 u191 u192 u193 u194 u195 u196 u197 u198 u199 u200 u201 u202 u203 u204 u205 u206 u207 u208 u209 u210 u211 u212 u213 u214 u215 u216 u217 u218 u219 u220 u221 u222 u223 u224 u225 u226 u227 u228 u229 u230 u231 u232 u233 u234 u235 u236 u237 u238 u239 u240 u241 u242 u243 u244 u245 u246 u247 u248 u249 u250 u251 u252 u253 u254 u255 u256 u257 u258 u259 u260 u261 u262 u263 u264 u265 u266 u267 u268 u269 u270 u271 u272 u273 u274 u275 u276 : Value) (w' : World), 64 * k = PL → SumAt wb w' g2 Bh gH capH gw p (mixN st0 p k).l ws → Q .normal ⟨#[s0, s1, .pointer (some ⟨gb, 0, none⟩), s3, s4, s5, .slice (some ⟨g2, 0, none⟩) PL cap2, s7, .slice (some ⟨gH, 0, none⟩) 8 capH, .slice (some ⟨gw, 0, none⟩) 64 64, u10, u11, u12, u13, u14, u15, u16, u17, u18, u19, s20, s21, s22, s23, s24, s25, s26, s27, s28, s29, s30, s31, s32, s33, s34, s35, s36, s37, s38, s39, s40, s41, s42, s43, s44, s45, s46, s47, s48, s49, s50, s51, s52, u53, u54, u55, u56, u57, u58, u59, u60, u61, u62, u63, u64, u65, u66, u67, u68, u69, u70, u71, u72, u73, u74, u75, u76, u77, u78, u79, u80, u81, u82, u83, u84, u85, u86, u87, u88, u89, u90, u91, u92, u93, u94, u95, u96, u97, u98, u99, u100, u101, u102, u103, u104, u105, u106, u107, u108, u109, u110, u111, u112, u113, u114, u115, u116, u117, u118, u119, u120, u121, u122, u123, u124, u125, u126, u127, u128, u129, u130, u131, u132, u133, u134, u135, u136, u137, u138, u139, u140, u141, u142, u143, u144, u145, u146, u147, u148, u149, u150, u151, u152, u153, u154, u155, u156, u157, u158, u159, u160, u161, u162, u163, u164, u165, u166, u167, u168, u169, u170, u171, u172, u173, u174, u175, u176, u177, u178, u179, u180, u181, u182, u183, u184, u185, u186, u187, u188, u189, u190, u191, u192, u193, u194, u195, u196, u197, u198, u199, u200, u201, u202, u203, u204, u205, u206, u207, u208, u209, u210, u211, u212, u213, u214, u215, u216, u217, u218, u219, u220, u221, u222, u223, u224, u225, u226, u227, u228, u229, u230, u231, u232, u233, u234, u235, u236, u237, u238, u239, u240, u241, u242, u243, u244, u245, u246, u247, u248, u249, u250, u251, u252, u253, u254, u255, u256, u257, u258, u259, u260, u261, u262, u263, u264, u265, u266, u267, u268, u269, u270, u271, u272, u273, u274, u275, u276, s277, s278, s279, s280, s281, s282, s283, s284, s285, s286, s287, s288, s289, s290, s291, s292, s293, s294, s295, s296, s297, s298, s299, s300, s301, s302, s303, s304, s305, s306, s307], []⟩ w') :
    (Code.block 4 (sumB 4)).wp Tryd.prog Q ⟨#[s0, s1, .pointer (some ⟨gb, 0, none⟩), s3, s4, s5, .slice (some ⟨g2, 0, none⟩) PL cap2, s7, .slice (some ⟨gH, 0, none⟩) 8 capH, .slice (some ⟨gw, 0, none⟩) 64 64, .int .i64 0, s11, s12, s13, s14, s15, s16, s17, s18, s19, s20, s21, s22, s23, s24, s25, s26, s27, s28, s29, s30, s31, s32, s33, s34, s35, s36, s37, s38, s39, s40, s41, s42, s43, s44, s45, s46, s47, s48, s49, s50, s51, s52, s53, s54, s55, s56, s57, s58, s59, s60, s61, s62, s63, s64, s65, s66, s67, s68, s69, s70, s71, s72, s73, s74, s75, s76, s77, s78, s79, s80, s81, s82, s83, s84, s85, s86, s87, s88, s89, s90, s91, s92, s93, s94, s95, s96, s97, s98, s99, s100, s101, s102, s103, s104, s105, s106, s107, s108, s109, s110, s111, s112, s113, s114, s115, s116, s117, s118, s119, s120, s121, s122, s123, s124, s125, s126, s127, s128, s129, s130, s131, s132, s133, s134, s135, s136, s137, s138, s139, s140, s141, s142, s143, s144, s145, s146, s147, s148, s149, s150, s151, s152, s153, s154, s155, s156, s157, s158, s159, s160, s161, s162, s163, s164, s165, s166, s167, s168, s169, s170, s171, s172, s173, s174, s175, s176, s177, s178, s179, s180, s181, s182, s183, s184, s185, s186, s187, s188, s189, s190, s191, s192, s193, s194, s195, s196, s197, s198, s199, s200, s201, s202, s203, s204, s205, s206, s207, s208, s209, s210, s211, s212, s213, s214, s215, s216, s217, s218, s219, s220, s221, s222, s223, s224, s225, s226, s227, s228, s229, s230, s231, s232, s233, s234, s235, s236, s237, s238, s239, s240, s241, s242, s243, s244, s245, s246, s247, s248, s249, s250, s251, s252, s253, s254, s255, s256, s257, s258, s259, s260, s261, s262, s263, s264, s265, s266, s267, s268, s269, s270, s271, s272, s273, s274, s275, s276, s277, s278, s279, s280, s281, s282, s283, s284, s285, s286, s287, s288, s289, s290, s291, s292, s293, s294, s295, s296, s297, s298, s299, s300, s301, s302, s303, s304, s305, s306, s307], []⟩ w := by
  conv => arg 2; arg 2; whnf
  conv => arg 4; dsimp only
  obtain ⟨j0, hj0, hj1, hj2, hj3⟩ := info_parts Tryd.info34
  have JI := Lib.hid hj0; have J0 := Lib.hid hj1; have J1 := Lib.hid hj2; have J2 := Lib.hid hj3; clear hj0 hj1 hj2 hj3
  have hBH : Bh ≤ gH := (own_cell hS0.st 0 (by omega)).2.2
  have HPL := Lib.hid hpl; have HB := Lib.hid hb; have HK := Lib.hid hk
  have HS := Lib.hid hS0
  have HOUT := Lib.hid hout
  clear hpl hb hk hS0 hout
  go_wp2_with fail
  go_loopw [10] (fun v10 wx => ∃ (k : Nat) (ws : List Int), 64 * k ≤ PL ∧ v10 = .int .i64 (64 * (k : Int)) ∧ SumAt wb wx g2 Bh gH capH gw p (mixN st0 p k).l ws) (fun v10 _ => PL - (intOf v10).toNat)
  case atStart => exact ⟨0, ws0, by omega, rfl, HS.out⟩
  case round =>
    clear HS
    obtain ⟨k, ws, hk, rfl, hS⟩ := hrel
    by_cases hlt : 64 * k < PL
    · have HS := Lib.hid hS; clear hS
      have hlt' : (64 : Int) * k < PL := by omega
      have h64 : 64 * k + 64 ≤ PL := by omega
      go_upto_block 6 with fail
      refine blk6 wb _ k PL cap2 g2 Bh gH capH gw p _ ws HS.out (by omega) hHgw (by omega) h64 hPB HPL.out ?_
      intro ws1 a11 a12 a13 a14 a59 a60 a61 a62 a63 a64 a65 a66 a67 a68 a69 a70 a71 a72 a73 a74 a75 a76 a77 a78 a79 a80 a81 a82 a83 a84 a85 a86 a87 a88 a89 a90 a91 a92 a93 a94 a95 a96 a97 a98 a99 a100 a101 a102 a103 a104 a105 a106 a107 a108 a109 a110 a111 a112 a113 a114 a115 a116 a117 a118 a119 a120 a121 a122 a123 a124 a125 a126 a127 a128 a129 a130 a131 a132 a133 a134 a135 a136 a137 a138 a139 a140 a141 a142 w1 hS1 hws1
      have hl8 : (wc (mixN st0 p k).l).length = 8 * 1 := rfl
      have hgw1 : gw < w1.heap.size := lt_of_heap hS1.ww
      have hbd := run_build0w
      have hS1a := hS1.stay ((Fr.refl [] w1).alloc (.cells #[] 34))
      have hnw : ∀ j u, (wc (mixN st0 p k).l)[j]? = some u → (w1.alloc (.cells #[] 34)).cell? ((⟨gH, 0, none⟩ : Addr).add j) = some u := fun j u hu => by
        have hj : j < 8 := by have := (List.getElem?_eq_some_iff.1 hu).1; simpa [wc, St.l] using this
        rw [Addr.add_mid, Nat.zero_add, (own_cell hS1a.st j hj).1]; exact hu
      have HO0 := Lib.hid (ownsRow_empty w1 34 1 w1.heap.size (Nat.le_refl _))
      have HS1 := Lib.hid hS1; have HWS := Lib.hid hws1; have HNW := Lib.hid hnw; have HL8 := Lib.hid hl8
      clear hS1 hws1 hnw hl8 hS1a HS
      generalize hSk : mixN st0 p k = Sk at *
      have HSK := Lib.hid hSk
      clear hSk
      go_upto_block 8 with (first
        | (at_builtin; refine wpList_append_own _ rfl _ _ 43 rfl w1.heap.size 34 j0 (.int .u32 0) 1 4 Tryd.underlying43 JI.out J0.out J1.out J2.out rfl (by decide) _ 0 [] rfl HO0.out ⟨gH, 0, none⟩ 8 capH (wc Sk.l) rfl HL8.out HNW.out (wc_one _) (by unfold maxLen; decide) (by decide) (by simp) ?_)
        | fail)
      intro v15 w2 hown2 hgr2 _
      have hf2 : Fr [] w1 w2 := ((Fr.refl [] w1).alloc _).grown hgr2 (fun k hk => .inr (by have := ownBlock_ge HO0.out k hk; omega))
      obtain ⟨gv, cv, rfl, hBv, _, hrg, _⟩ := owns_range hown2 (by decide)
      have hV2 := vat_of (s := Sk) (by simpa using hrg)
      have hS2 := HS1.out.stay hf2
      have HF2 := Lib.hid hf2; have HV2 := Lib.hid hV2; have HS2 := Lib.hid hS2
      have hsz2 := hf2.size
      clear hown2 hgr2 hf2 hrg hV2 hS2 HNW HO0 hbd HS1
      go_upto_block 8 with fail
      refine blk8 w2 w1.heap.size gb gk gh gw gv cv Sk ws1 (HS2.out.fr.keep HB.out (by simp)) (HS2.out.fr.keep HK.out (by simp)) HS2.out.ww HS2.out.wl HV2.out hsz2 hBv ?_
      intro gv3 cv3 b16 b17 b18 b146 b147 b148 b149 b150 b151 b152 b153 b154 b155 b156 b157 b158 b159 b160 b161 b162 b163 b164 b165 b166 b167 b168 b169 b170 b171 b172 b173 b174 b175 b176 b177 b178 b179 b180 b181 b182 b183 b184 b185 b186 b187 b188 b189 b190 b191 b192 b193 b194 b195 b196 b197 b198 b199 b200 b201 b202 b203 b204 b205 b206 b207 b208 b209 b210 b211 b212 b213 b214 b215 b216 b217 b218 b219 b220 b221 b222 b223 b224 b225 b226 b227 b228 b229 b230 b231 b232 b233 b234 b235 b236 b237 b238 b239 b240 b241 b242 b243 b244 b245 b246 b247 b248 b249 b250 b251 b252 b253 b254 b255 b256 b257 b258 b259 b260 w3 hV3 hf3 hB3
      have HS3 := Lib.hid (HS2.out.stay hf3); have HV3 := Lib.hid hV3
      clear hV3 hf3 HS2 HV2
      go_upto_block 10 with fail
      refine blk10 w3 gH capH gv3 cv3 Bh Sk (rnds Sk ws1 64) HS3.out.st HV3.out (by omega) ?_
      intro c19 c261 c262 c263 c264 c265 c266 c267 c268 c269 c270 c271 c272 c273 c274 c275 c276 w4 ho4 hf4
      have hS4 := HS3.out.added hf4 ho4 (by omega) hHgw (by omega)
      have hmx : (Sk.add (rnds Sk ws1 64)) = mixN st0 p (k + 1) := by
        rw [HWS.out, ← HSK.out]; rfl
      rw [hmx] at hS4
      have HS4 := Lib.hid hS4
      clear hS4 ho4 hf4 hmx HS3 HV3
      go_wp2_with fail
      go_roundw
      case rel => exact ⟨k + 1, ws1, by omega, by go_num, HS4.out⟩
      case measure => simp [intOf]; omega
    · have hpk : 64 * k = PL := by omega
      have HSX := Lib.hid hS
      clear hS
      have hlt' : ¬ (64 : Int) * k < PL := by omega
      go_wp2_with fail
      exact HOUT.out k ws _ _ _ _ _ _ _ _ _ _ _ _ _ _ _ _ _ _ _ _ _ _ _ _ _ _ _ _ _ _ _ _ _ _ _ _ _ _ _ _ _ _ _ _ _ _ _ _ _ _ _ _ _ _ _ _ _ _ _ _ _ _ _ _ _ _ _ _ _ _ _ _ _ _ _ _ _ _ _ _ _ _ _ _ _ _ _ _ _ _ _ _ _ _ _ _ _ _ _ _ _ _ _ _ _ _ _ _ _ _ _ _ _ _ _ _ _ _ _ _ _ _ _ _ _ _ _ _ _ _ _ _ _ _ _ _ _ _ _ _ _ _ _ _ _ _ _ _ _ _ _ _ _ _ _ _ _ _ _ _ _ _ _ _ _ _ _ _ _ _ _ _ _ _ _ _ _ _ _ _ _ _ _ _ _ _ _ _ _ _ _ _ _ _ _ _ _ _ _ _ _ _ _ _ _ _ _ _ _ _ _ _ _ _ _ _ _ _ _ _ _ _ _ _ _ _ _ _ _ _ _ _ _ _ _ hpk HSX.out
end Go.Proofs.YthegllpmefilkaaDoor
