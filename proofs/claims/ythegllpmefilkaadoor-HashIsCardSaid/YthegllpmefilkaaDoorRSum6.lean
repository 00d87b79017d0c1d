/-
  The document's sum: the state is added.
-/
import Derived.Test.YthegllpmefilkaaDoorRSum5
namespace Go.Proofs.YthegllpmefilkaaDoor
open Go.RowKit Go.MapKept
theorem VAt.get {w : World} {n : Nat} {s : St} (h : VAt w n s) : ∀ i, i < 8 → w.cell? ⟨n, i, none⟩ = some (.int .u32 (s.l.getD i 0))
  | 0, _ => h.a | 1, _ => h.b | 2, _ => h.c | 3, _ => h.d | 4, _ => h.e | 5, _ => h.f | 6, _ => h.g | 7, _ => h.h
  | i + 8, h => by omega
theorem wc_set (l : List Int) (i : Nat) (x : Int) : (wc l).set i (.int .u32 x) = wc (l.set i x) := by simp [wc, List.map_set]
theorem VAt.keepNe {w w' : World} {n gH : Nat} {s : St} (h : VAt w n s) (hf : Fr [gH] w w') (hn : n ≠ gH) : VAt w' n s := by
  have k : ∀ i v, w.cell? ⟨n, i, none⟩ = some v → w'.cell? ⟨n, i, none⟩ = some v := fun i v h => by
    rw [World.cell?_of_block (w := w) (hf.block n (World.block_lt_of_cell? _ _ h) (by simpa using hn))]; exact h
  exact ⟨k _ _ h.a, k _ _ h.b, k _ _ h.c, k _ _ h.d, k _ _ h.e, k _ _ h.f, k _ _ h.g, k _ _ h.h⟩
set_option maxRecDepth 1000000 in
set_option maxHeartbeats 16000000 in
theorem blk10 {s0 s1 s2 s3 s4 s5 s6 s7 s9 s10 s11 s12 s13 s14 s16 s17 s18 s20 s21 s22 s23 s24 s25 s26 s27 s28 s29 s30 s31 s32 s33 s34 s35 s36 s37 s38 s39 s40 s41 s42 s43 s44 s45 s46 s47 s48 s49 s50 s51 s52 s53 s54 s55 s56 s57 s58 s59 s60 s61 s62 s63 s64 s65 s66 s67 s68 s69 s70 s71 s72 s73 s74 s75 s76 s77 s78 s79 s80 s81 s82 s83 s84 s85 s86 s87 s88 s89 s90 s91 s92 s93 s94 s95 s96 s97 s98 s99 s100 s101 s102 s103 s104 s105 s106 s107 s108 s109 s110 s111 s112 s113 s114 s115 s116 s117 s118 s119 s120 s121 s122 s123 s124 s125 s126 s127 s128 s129 s130 s131 s132 s133 s134 s135 s136 s137 s138 s139 s140 s141 s142 s143 s144 s145 s146 s147 s148 s149 s150 s151 s152 s153 s154 s155 s156 s157 s158 s159 s160 s161 s162 s163 s164 s165 s166 s167 s168 s169 s170 s171 s172 s173 s174 s175 s176 s177 s178 s179 s180 s181 s182 s183 s184 s185 s186 s187 s188 s189 s190 s191 s192 s193 s194 s195 s196 s197 s198 s199 s200 s201 s202 s203 s204 s205 s206 s207 s208 s209 s210 s211 s212 s213 s214 s215 s216 s217 s218 s219 s220 s221 s222 s223 s224 s225 s226 s227 s228 s229 s230 s231 s232 s233 s234 s235 s236 s237 s238 s239 s240 s241 s242 s243 s244 s245 s246 s247 s248 s249 s250 s251 s252 s253 s254 s255 s256 s257 s258 s259 s260 s261 s262 s263 s264 s265 s266 s267 s268 s269 s270 s271 s272 s273 s274 s275 s276 s277 s278 s279 s280 s281 s282 s283 s284 s285 s286 s287 s288 s289 s290 s291 s292 s293 s294 s295 s296 s297 s298 s299 s300 s301 s302 s303 s304 s305 s306 s307 : Value} {Q : Exit → Act → World → Prop} (w : World) (gH capH gv cv Bh : Nat) (sH sv : St)
    (hh : w.ownsRow Bh 34 1 (.slice (some ⟨gH, 0, none⟩) 8 capH) 8 (wc sH.l)) (hv : VAt w gv sv) (hne : gv ≠ gH)
    (hout : ∀ (u19 u261 u262 u263 u264 u265 u266 u267 u268 u269 u270 u271 u272 u273 u274 u275 u276 : Value) (w' : World), w'.ownsRow Bh 34 1 (.slice (some ⟨gH, 0, none⟩) 8 capH) 8 (wc (sH.add sv).l) → Fr [gH] w w' → Q .normal ⟨#[s0, s1, s2, s3, s4, s5, s6, s7, .slice (some ⟨gH, 0, none⟩) 8 capH, s9, s10, s11, s12, s13, s14, .slice (some ⟨gv, 0, none⟩) 8 cv, s16, s17, s18, u19, s20, s21, s22, s23, s24, s25, s26, s27, s28, s29, s30, s31, s32, s33, s34, s35, s36, s37, s38, s39, s40, s41, s42, s43, s44, s45, s46, s47, s48, s49, s50, s51, s52, s53, s54, s55, s56, s57, s58, s59, s60, s61, s62, s63, s64, s65, s66, s67, s68, s69, s70, s71, s72, s73, s74, s75, s76, s77, s78, s79, s80, s81, s82, s83, s84, s85, s86, s87, s88, s89, s90, s91, s92, s93, s94, s95, s96, s97, s98, s99, s100, s101, s102, s103, s104, s105, s106, s107, s108, s109, s110, s111, s112, s113, s114, s115, s116, s117, s118, s119, s120, s121, s122, s123, s124, s125, s126, s127, s128, s129, s130, s131, s132, s133, s134, s135, s136, s137, s138, s139, s140, s141, s142, s143, s144, s145, s146, s147, s148, s149, s150, s151, s152, s153, s154, s155, s156, s157, s158, s159, s160, s161, s162, s163, s164, s165, s166, s167, s168, s169, s170, s171, s172, s173, s174, s175, s176, s177, s178, s179, s180, s181, s182, s183, s184, s185, s186, s187, s188, s189, s190, s191, s192, s193, s194, s195, s196, s197, s198, s199, s200, s201, s202, s203, s204, s205, s206, s207, s208, s209, s210, s211, s212, s213, s214, s215, s216, s217, s218, s219, s220, s221, s222, s223, s224, s225, s226, s227, s228, s229, s230, s231, s232, s233, s234, s235, s236, s237, s238, s239, s240, s241, s242, s243, s244, s245, s246, s247, s248, s249, s250, s251, s252, s253, s254, s255, s256, s257, s258, s259, s260, u261, u262, u263, u264, u265, u266, u267, u268, u269, u270, u271, u272, u273, u274, u275, u276, s277, s278, s279, s280, s281, s282, s283, s284, s285, s286, s287, s288, s289, s290, s291, s292, s293, s294, s295, s296, s297, s298, s299, s300, s301, s302, s303, s304, s305, s306, s307], []⟩ w') :
    (Code.block 10 (sumB 10)).wp Tryd.prog Q ⟨#[s0, s1, s2, s3, s4, s5, s6, s7, .slice (some ⟨gH, 0, none⟩) 8 capH, s9, s10, s11, s12, s13, s14, .slice (some ⟨gv, 0, none⟩) 8 cv, s16, s17, s18, .int .i64 0, s20, s21, s22, s23, s24, s25, s26, s27, s28, s29, s30, s31, s32, s33, s34, s35, s36, s37, s38, s39, s40, s41, s42, s43, s44, s45, s46, s47, s48, s49, s50, s51, s52, s53, s54, s55, s56, s57, s58, s59, s60, s61, s62, s63, s64, s65, s66, s67, s68, s69, s70, s71, s72, s73, s74, s75, s76, s77, s78, s79, s80, s81, s82, s83, s84, s85, s86, s87, s88, s89, s90, s91, s92, s93, s94, s95, s96, s97, s98, s99, s100, s101, s102, s103, s104, s105, s106, s107, s108, s109, s110, s111, s112, s113, s114, s115, s116, s117, s118, s119, s120, s121, s122, s123, s124, s125, s126, s127, s128, s129, s130, s131, s132, s133, s134, s135, s136, s137, s138, s139, s140, s141, s142, s143, s144, s145, s146, s147, s148, s149, s150, s151, s152, s153, s154, s155, s156, s157, s158, s159, s160, s161, s162, s163, s164, s165, s166, s167, s168, s169, s170, s171, s172, s173, s174, s175, s176, s177, s178, s179, s180, s181, s182, s183, s184, s185, s186, s187, s188, s189, s190, s191, s192, s193, s194, s195, s196, s197, s198, s199, s200, s201, s202, s203, s204, s205, s206, s207, s208, s209, s210, s211, s212, s213, s214, s215, s216, s217, s218, s219, s220, s221, s222, s223, s224, s225, s226, s227, s228, s229, s230, s231, s232, s233, s234, s235, s236, s237, s238, s239, s240, s241, s242, s243, s244, s245, s246, s247, s248, s249, s250, s251, s252, s253, s254, s255, s256, s257, s258, s259, s260, s261, s262, s263, s264, s265, s266, s267, s268, s269, s270, s271, s272, s273, s274, s275, s276, s277, s278, s279, s280, s281, s282, s283, s284, s285, s286, s287, s288, s289, s290, s291, s292, s293, s294, s295, s296, s297, s298, s299, s300, s301, s302, s303, s304, s305, s306, s307], []⟩ w := by
  conv => arg 2; arg 2; whnf
  have HH := Lib.hid hh
  have HV : Hid (∀ w' i, Fr [gH] w w' → i < 8 → w'.cell? ⟨gv, i, none⟩ = some (.int .u32 (sv.l.getD i 0))) := Lib.hid (fun w' i hf hi => (hv.keepNe hf hne).get i hi)
  have HOUT := Lib.hid hout
  clear hh hv hne hout
  go_wp2_with fail
  go_loopw [19] (fun v19 wi => ∃ i : Nat, i ≤ 8 ∧ v19 = .int .i64 i ∧ wi.ownsRow Bh 34 1 (.slice (some ⟨gH, 0, none⟩) 8 capH) 8 (wc (addL sH.l sv.l i)) ∧ Fr [gH] w wi) (fun v19 _ => 8 - (intOf v19).toNat)
  case atStart => exact ⟨0, by omega, rfl, by rw [addL_zero]; exact HH.out, Fr.refl _ _⟩
  case round =>
    clear HH
    rename World => wi
    obtain ⟨i, hi, rfl, ho, hf⟩ := hrel
    by_cases h8 : i < 8
    · have h8' : (i : Int) < 8 := by omega
      have c1 := HV.out wi i hf h8
      obtain ⟨c0, f0, _⟩ := own_cell ho i h8
      have e0 : (wc (addL sH.l sv.l i))[i]? = some (.int .u32 (sH.l.getD i 0)) := by
        rw [← addL_get sH.l sv.l i h8]
        simp [wc, addL_length, h8]
      rw [e0] at c0
      have hset := own_set (w := wi.drew) ho i h8 (.int .u32 ((sH.l.getD i 0 + sv.l.getD i 0) % 4294967296))
      rw [wc_set, addL_set _ _ _ h8] at hset
      have hfs : Fr [gH] w (wi.drew.setCell ⟨gH, i, none⟩ (.int .u32 ((sH.l.getD i 0 + sv.l.getD i 0) % 4294967296))) := hf.drew.setCell (.inl (by simp)) _
      generalize sH.l.getD i 0 = x at *
      generalize sv.l.getD i 0 = y at *
      have HSET := Lib.hid hset; have HFS := Lib.hid hfs
      clear hset hfs ho hf e0
      have p0 : (0 : Int) ≤ (i : Int) := by omega
      go_wp2_with fail
      refine wp_region_still_tail 12 (by kernel_rfl) (by kernel_rfl) ?_
      change wpStill _ _ wi.drew _ _ _
      simp only [List.take_succ_cons, List.take_zero, List.drop_succ_cons, List.drop_zero]
      repeat still_step
      refine wpStill_nil ?_
      change wpList _ _ _ _ _ wi.drew
      go_wp2_with fail
      go_roundw
      case rel => exact ⟨i + 1, by omega, by go_num, HSET.out, HFS.out⟩
      case measure => simp [intOf]; omega
    · obtain rfl : i = 8 := by omega
      rw [addL_full] at ho
      have HF := Lib.hid hf; have HO := Lib.hid ho
      clear hf ho
      go_wp2_with fail
      exact HOUT.out _ _ _ _ _ _ _ _ _ _ _ _ _ _ _ _ _ _ HO.out HF.out
end Go.Proofs.YthegllpmefilkaaDoor
