/-
  The document's sum: a block's rounds.
-/
import Derived.Test.YthegllpmefilkaaDoorRSumA
namespace Go.Proofs.YthegllpmefilkaaDoor
open Go.RowKit Go.MapKept
/-- Eight words that read as a state. -/
structure VAt (w : World) (n : Nat) (s : St) : Prop where
  a : w.cell? ⟨n, 0, none⟩ = some (.int .u32 s.a)
  b : w.cell? ⟨n, 1, none⟩ = some (.int .u32 s.b)
  c : w.cell? ⟨n, 2, none⟩ = some (.int .u32 s.c)
  d : w.cell? ⟨n, 3, none⟩ = some (.int .u32 s.d)
  e : w.cell? ⟨n, 4, none⟩ = some (.int .u32 s.e)
  f : w.cell? ⟨n, 5, none⟩ = some (.int .u32 s.f)
  g : w.cell? ⟨n, 6, none⟩ = some (.int .u32 s.g)
  h : w.cell? ⟨n, 7, none⟩ = some (.int .u32 s.h)
theorem cell_keepF {w w' : World} {a : Addr} {v : Value} (h : w.cell? a = some v) (hf : Fr [] w w') : w'.cell? a = some v := by
  rw [World.cell?_of_block (w := w) (hf.block a.block (World.block_lt_of_cell? _ _ h) (by simp))]; exact h
theorem VAt.keep {w w' : World} {g : Nat} {s : St} (h : VAt w g s) (hf : Fr [] w w') : VAt w' g s :=
  ⟨cell_keepF h.a hf, cell_keepF h.b hf, cell_keepF h.c hf, cell_keepF h.d hf, cell_keepF h.e hf, cell_keepF h.f hf, cell_keepF h.g hf, cell_keepF h.h hf⟩
theorem VAt.new (w : World) (s : St) (T : TypeId) : VAt (w.alloc (.cells #[.int .u32 s.a, .int .u32 s.b, .int .u32 s.c, .int .u32 s.d, .int .u32 s.e, .int .u32 s.f, .int .u32 s.g, .int .u32 s.h] T)) w.heap.size s := by
  have hb := heap_alloc_last w (.cells #[.int .u32 s.a, .int .u32 s.b, .int .u32 s.c, .int .u32 s.d, .int .u32 s.e, .int .u32 s.f, .int .u32 s.g, .int .u32 s.h] T)
  exact ⟨by rw [box_cell hb]; rfl, by rw [box_cell hb]; rfl, by rw [box_cell hb]; rfl, by rw [box_cell hb]; rfl, by rw [box_cell hb]; rfl, by rw [box_cell hb]; rfl, by rw [box_cell hb]; rfl, by rw [box_cell hb]; rfl⟩
theorem rnd_flat (a b c d e f g h k w : Int) : rnd ⟨a, b, c, d, e, f, g, h⟩ k w = ⟨(h + sgE e + chI e f g + k + w + (sgA a + mjI a b c)) % 4294967296, a, b, c, (d + (h + sgE e + chI e f g + k + w)) % 4294967296, e, f, g⟩ := by
  simp only [rnd, t1, t2, Int.emod_add_emod, Int.add_emod_emod]
set_option maxRecDepth 1000000 in
set_option maxHeartbeats 16000000 in
theorem blk8 {s0 s1 s3 s4 s5 s6 s7 s8 s10 s11 s12 s13 s14 s17 s18 s19 s20 s21 s22 s23 s24 s25 s26 s27 s28 s29 s30 s31 s32 s33 s34 s35 s36 s37 s38 s39 s40 s41 s42 s43 s44 s45 s46 s47 s48 s49 s50 s51 s52 s53 s54 s55 s56 s57 s58 s59 s60 s61 s62 s63 s64 s65 s66 s67 s68 s69 s70 s71 s72 s73 s74 s75 s76 s77 s78 s79 s80 s81 s82 s83 s84 s85 s86 s87 s88 s89 s90 s91 s92 s93 s94 s95 s96 s97 s98 s99 s100 s101 s102 s103 s104 s105 s106 s107 s108 s109 s110 s111 s112 s113 s114 s115 s116 s117 s118 s119 s120 s121 s122 s123 s124 s125 s126 s127 s128 s129 s130 s131 s132 s133 s134 s135 s136 s137 s138 s139 s140 s141 s142 s143 s144 s145 s146 s147 s148 s149 s150 s151 s152 s153 s154 s155 s156 s157 s158 s159 s160 s161 s162 s163 s164 s165 s166 s167 s168 s169 s170 s171 s172 s173 s174 s175 s176 s177 s178 s179 s180 s181 s182 s183 s184 s185 s186 s187 s188 s189 s190 s191 s192 s193 s194 s195 s196 s197 s198 s199 s200 s201 s202 s203 s204 s205 s206 s207 s208 s209 s210 s211 s212 s213 s214 s215 s216 s217 s218 s219 s220 s221 s222 s223 s224 s225 s226 s227 s228 s229 s230 s231 s232 s233 s234 s235 s236 s237 s238 s239 s240 s241 s242 s243 s244 s245 s246 s247 s248 s249 s250 s251 s252 s253 s254 s255 s256 s257 s258 s259 s260 s261 s262 s263 s264 s265 s266 s267 s268 s269 s270 s271 s272 s273 s274 s275 s276 s277 s278 s279 s280 s281 s282 s283 s284 s285 s286 s287 s288 s289 s290 s291 s292 s293 s294 s295 s296 s297 s298 s299 s300 s301 s302 s303 s304 s305 s306 s307 : Value} {Q : Exit → Act → World → Prop} (w : World) (B0 gb gk gh gw gv0 cv0 : Nat) (st : St) (ws : List Int)
    (hb : w.heap[gb]? = some (.cells #[.slice (some ⟨gk, 0, none⟩) 64 64, .slice (some ⟨gh, 0, none⟩) 8 8] 45 (0, 0))) (hk : w.heap[gk]? = some (.cells (wv tabK) 34 (0, 0)))
    (hw : w.heap[gw]? = some (.cells (wv ws) 34 (0, 0))) (hwl : ws.length = 64) (hv : VAt w gv0 st) (hB : B0 ≤ w.heap.size) (hBv : B0 ≤ gv0)
    (hout : ∀ (gv cv : Nat) (u16 u17 u18 u146 u147 u148 u149 u150 u151 u152 u153 u154 u155 u156 u157 u158 u159 u160 u161 u162 u163 u164 u165 u166 u167 u168 u169 u170 u171 u172 u173 u174 u175 u176 u177 u178 u179 u180 u181 u182 u183 u184 u185 u186 u187 u188 u189 u190 u191 u192 u193 u194 u195 u196 u197 u198 u199 u200 u201 u202 u203 u204 u205 u206 u207 u208 u209 u210 u211 u212 u213 u214 u215 u216 u217 u218 u219 u220 u221 u222 u223 u224 u225 u226 u227 u228 u229 u230 u231 u232 u233 u234 u235 u236 u237 u238 u239 u240 u241 u242 u243 u244 u245 u246 u247 u248 u249 u250 u251 u252 u253 u254 u255 u256 u257 u258 u259 u260 : Value) (w' : World), VAt w' gv (rnds st ws 64) → Fr [] w w' → B0 ≤ gv → Q .normal ⟨#[s0, s1, .pointer (some ⟨gb, 0, none⟩), s3, s4, s5, s6, s7, s8, .slice (some ⟨gw, 0, none⟩) 64 64, s10, s11, s12, s13, s14, .slice (some ⟨gv, 0, none⟩) 8 cv, u16, u17, u18, s19, s20, s21, s22, s23, s24, s25, s26, s27, s28, s29, s30, s31, s32, s33, s34, s35, s36, s37, s38, s39, s40, s41, s42, s43, s44, s45, s46, s47, s48, s49, s50, s51, s52, s53, s54, s55, s56, s57, s58, s59, s60, s61, s62, s63, s64, s65, s66, s67, s68, s69, s70, s71, s72, s73, s74, s75, s76, s77, s78, s79, s80, s81, s82, s83, s84, s85, s86, s87, s88, s89, s90, s91, s92, s93, s94, s95, s96, s97, s98, s99, s100, s101, s102, s103, s104, s105, s106, s107, s108, s109, s110, s111, s112, s113, s114, s115, s116, s117, s118, s119, s120, s121, s122, s123, s124, s125, s126, s127, s128, s129, s130, s131, s132, s133, s134, s135, s136, s137, s138, s139, s140, s141, s142, s143, s144, s145, u146, u147, u148, u149, u150, u151, u152, u153, u154, u155, u156, u157, u158, u159, u160, u161, u162, u163, u164, u165, u166, u167, u168, u169, u170, u171, u172, u173, u174, u175, u176, u177, u178, u179, u180, u181, u182, u183, u184, u185, u186, u187, u188, u189, u190, u191, u192, u193, u194, u195, u196, u197, u198, u199, u200, u201, u202, u203, u204, u205, u206, u207, u208, u209, u210, u211, u212, u213, u214, u215, u216, u217, u218, u219, u220, u221, u222, u223, u224, u225, u226, u227, u228, u229, u230, u231, u232, u233, u234, u235, u236, u237, u238, u239, u240, u241, u242, u243, u244, u245, u246, u247, u248, u249, u250, u251, u252, u253, u254, u255, u256, u257, u258, u259, u260, s261, s262, s263, s264, s265, s266, s267, s268, s269, s270, s271, s272, s273, s274, s275, s276, s277, s278, s279, s280, s281, s282, s283, s284, s285, s286, s287, s288, s289, s290, s291, s292, s293, s294, s295, s296, s297, s298, s299, s300, s301, s302, s303, s304, s305, s306, s307], []⟩ w') :
    (Code.block 8 (sumB 8)).wp Tryd.prog Q ⟨#[s0, s1, .pointer (some ⟨gb, 0, none⟩), s3, s4, s5, s6, s7, s8, .slice (some ⟨gw, 0, none⟩) 64 64, s10, s11, s12, s13, s14, .slice (some ⟨gv0, 0, none⟩) 8 cv0, .int .i64 0, s17, s18, s19, s20, s21, s22, s23, s24, s25, s26, s27, s28, s29, s30, s31, s32, s33, s34, s35, s36, s37, s38, s39, s40, s41, s42, s43, s44, s45, s46, s47, s48, s49, s50, s51, s52, s53, s54, s55, s56, s57, s58, s59, s60, s61, s62, s63, s64, s65, s66, s67, s68, s69, s70, s71, s72, s73, s74, s75, s76, s77, s78, s79, s80, s81, s82, s83, s84, s85, s86, s87, s88, s89, s90, s91, s92, s93, s94, s95, s96, s97, s98, s99, s100, s101, s102, s103, s104, s105, s106, s107, s108, s109, s110, s111, s112, s113, s114, s115, s116, s117, s118, s119, s120, s121, s122, s123, s124, s125, s126, s127, s128, s129, s130, s131, s132, s133, s134, s135, s136, s137, s138, s139, s140, s141, s142, s143, s144, s145, s146, s147, s148, s149, s150, s151, s152, s153, s154, s155, s156, s157, s158, s159, s160, s161, s162, s163, s164, s165, s166, s167, s168, s169, s170, s171, s172, s173, s174, s175, s176, s177, s178, s179, s180, s181, s182, s183, s184, s185, s186, s187, s188, s189, s190, s191, s192, s193, s194, s195, s196, s197, s198, s199, s200, s201, s202, s203, s204, s205, s206, s207, s208, s209, s210, s211, s212, s213, s214, s215, s216, s217, s218, s219, s220, s221, s222, s223, s224, s225, s226, s227, s228, s229, s230, s231, s232, s233, s234, s235, s236, s237, s238, s239, s240, s241, s242, s243, s244, s245, s246, s247, s248, s249, s250, s251, s252, s253, s254, s255, s256, s257, s258, s259, s260, s261, s262, s263, s264, s265, s266, s267, s268, s269, s270, s271, s272, s273, s274, s275, s276, s277, s278, s279, s280, s281, s282, s283, s284, s285, s286, s287, s288, s289, s290, s291, s292, s293, s294, s295, s296, s297, s298, s299, s300, s301, s302, s303, s304, s305, s306, s307], []⟩ w := by
  conv => arg 2; arg 2; whnf
  have HC : Hid (∀ w' t, Fr [] w w' → t < 64 → w'.cell? ⟨gb, 0, none⟩ = some (.slice (some ⟨gk, 0, none⟩) 64 64) ∧ w'.cell? ⟨gk, t, none⟩ = some (.int .u32 (kK t)) ∧ w'.cell? ⟨gw, t, none⟩ = some (.int .u32 (ws.getD t 0))) := Lib.hid (fun w' t hf ht =>
    ⟨by rw [box_cell (hf.keep hb (by simp))]; rfl, by rw [box_cell (hf.keep hk (by simp)), wv_get _ _ (by simpa [tabK] using ht)]; rfl, by rw [box_cell (hf.keep hw (by simp)), wv_get _ _ (by omega)]⟩)
  have HV := Lib.hid hv
  have HOUT := Lib.hid hout
  clear hb hk hw hwl hv hout
  go_wp2_with fail
  go_loopw [15, 16] (fun v15 v16 wi => ∃ (t gv cv : Nat), t ≤ 64 ∧ B0 ≤ gv ∧ v15 = .slice (some ⟨gv, 0, none⟩) 8 cv ∧ v16 = .int .i64 t ∧ VAt wi gv (rnds st ws t) ∧ Fr [] w wi) (fun _ v16 _ => 64 - (intOf v16).toNat)
  case atStart => exact ⟨0, gv0, cv0, by omega, hBv, rfl, rfl, HV.out, Fr.refl _ _⟩
  case round =>
    clear HV
    rename World => wi
    obtain ⟨t, gv, cv, ht, hgv, rfl, rfl, hV, hf⟩ := hrel
    by_cases h64 : t < 64
    · have h64' : (t : Int) < 64 := by omega
      obtain ⟨c0, c1, c2⟩ := HC.out wi t hf h64
      have hst : rnds st ws (t + 1) = rnd (rnds st ws t) (kK t) (ws.getD t 0) := rfl
      generalize rnds st ws t = S at *
      have HVA := Lib.hid hV
      obtain ⟨va, vb, vc, vd, ve, vf, vg, vh⟩ := hV
      obtain ⟨qa, qb, qc, qd, qe, qf, qg, qh⟩ := S
      simp only at va vb vc vd ve vf vg vh
      generalize kK t = kt at *
      generalize ws.getD t 0 = wt at *
      have HST := Lib.hid hst; have HF := Lib.hid hf
      clear hst hf
      have p0 : (0 : Int) ≤ (t : Int) := by omega
      have HBW := Lib.hid hB
      clear hB hBv hgv
      go_wp2_with fail
      go_quiet (exact Calls.quiet_of (ror_calls _ _ _ (by omega)))
      clear va vb vc vd ve vf vg vh c0 c1 c2
      have hj := drewN_fr wi nq
      have hVj := HVA.out.keep hj
      have HF1 := Lib.hid (HF.out.trans hj)
      generalize wi.drewN nq = wj at *
      have HVA1 := Lib.hid hVj
      obtain ⟨va, vb, vc, vd, ve, vf, vg, vh⟩ := hVj
      simp only at va vb vc vd ve vf vg vh
      clear hj HF HVA
      have HF := HF1; have HVA := HVA1
      clear HF1 HVA1
      go_wp2_with fail
      go_quiet (exact Calls.quiet_of (ror_calls _ _ _ (by omega)))
      clear va vb vc vd ve vf vg vh
      have hj := drewN_fr wj nq
      have hVj := HVA.out.keep hj
      have HF2 := Lib.hid (HF.out.trans hj)
      generalize wj.drewN nq = wk at *
      have HVA2 := Lib.hid hVj
      obtain ⟨va, vb, vc, vd, ve, vf, vg, vh⟩ := hVj
      simp only at va vb vc vd ve vf vg vh
      clear hj HF HVA
      have HF := HF2; have HVA := HVA2
      clear HF2 HVA2
      go_wp2_with fail
      refine wp_region_still_tail 26 (by kernel_rfl) (by kernel_rfl) ?_
      change wpStill _ _ wk.drew _ _ _
      simp only [List.take_succ_cons, List.take_zero, List.drop_succ_cons, List.drop_zero]
      repeat still_step
      refine wpStill_nil ?_
      change wpList _ _ _ _ _ wk.drew
      have hN := VAt.new wk.drew (rnd ⟨qa, qb, qc, qd, qe, qf, qg, qh⟩ kt wt) 34
      rw [rnd_flat] at hN
      have HN := Lib.hid hN
      have HFA := Lib.hid (HF.out.drew)
      clear hN va vb vc vd ve vf vg vh
      go_wp2_with fail
      go_roundw
      case rel => exact ⟨t + 1, _, _, by omega, Nat.le_trans HBW.out HFA.out.size, rfl, by go_num, by rw [HST.out, rnd_flat]; exact HN.out, HFA.out.alloc _⟩
      case measure => simp [intOf]; omega
    · obtain rfl : t = 64 := by omega
      have HF := Lib.hid hf; have HV := Lib.hid hV
      clear hf hV
      go_wp2_with fail
      exact HOUT.out gv cv _ _ _ _ _ _ _ _ _ _ _ _ _ _ _ _ _ _ _ _ _ _ _ _ _ _ _ _ _ _ _ _ _ _ _ _ _ _ _ _ _ _ _ _ _ _ _ _ _ _ _ _ _ _ _ _ _ _ _ _ _ _ _ _ _ _ _ _ _ _ _ _ _ _ _ _ _ _ _ _ _ _ _ _ _ _ _ _ _ _ _ _ _ _ _ _ _ _ _ _ _ _ _ _ _ _ _ _ _ _ _ _ _ _ _ _ _ _ _ HV.out HF.out hgv
end Go.Proofs.YthegllpmefilkaaDoor
