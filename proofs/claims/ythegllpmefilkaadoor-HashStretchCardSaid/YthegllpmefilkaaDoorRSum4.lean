/-
  The document's sum: a block's words.
-/
import Derived.Test.YthegllpmefilkaaDoorRSumA
namespace Go.Proofs.YthegllpmefilkaaDoor
open Go.RowKit Go.MapKept
set_option maxRecDepth 1000000 in
set_option maxHeartbeats 16000000 in
theorem blk6 {s0 s1 s2 s3 s4 s5 s7 s8 s12 s13 s14 s15 s16 s17 s18 s19 s20 s21 s22 s23 s24 s25 s26 s27 s28 s29 s30 s31 s32 s33 s34 s35 s36 s37 s38 s39 s40 s41 s42 s43 s44 s45 s46 s47 s48 s49 s50 s51 s52 s53 s54 s55 s56 s57 s58 s59 s60 s61 s62 s63 s64 s65 s66 s67 s68 s69 s70 s71 s72 s73 s74 s75 s76 s77 s78 s79 s80 s81 s82 s83 s84 s85 s86 s87 s88 s89 s90 s91 s92 s93 s94 s95 s96 s97 s98 s99 s100 s101 s102 s103 s104 s105 s106 s107 s108 s109 s110 s111 s112 s113 s114 s115 s116 s117 s118 s119 s120 s121 s122 s123 s124 s125 s126 s127 s128 s129 s130 s131 s132 s133 s134 s135 s136 s137 s138 s139 s140 s141 s142 s143 s144 s145 s146 s147 s148 s149 s150 s151 s152 s153 s154 s155 s156 s157 s158 s159 s160 s161 s162 s163 s164 s165 s166 s167 s168 s169 s170 s171 s172 s173 s174 s175 s176 s177 s178 s179 s180 s181 s182 s183 s184 s185 s186 s187 s188 s189 s190 s191 s192 s193 s194 s195 s196 s197 s198 s199 s200 s201 s202 s203 s204 s205 s206 s207 s208 s209 s210 s211 s212 s213 s214 s215 s216 s217 s218 s219 s220 s221 s222 s223 s224 s225 s226 s227 s228 s229 s230 s231 s232 s233 s234 s235 s236 s237 s238 s239 s240 s241 s242 s243 s244 s245 s246 s247 s248 s249 s250 s251 s252 s253 s254 s255 s256 s257 s258 s259 s260 s261 s262 s263 s264 s265 s266 s267 s268 s269 s270 s271 s272 s273 s274 s275 s276 s277 s278 s279 s280 s281 s282 s283 s284 s285 s286 s287 s288 s289 s290 s291 s292 s293 s294 s295 s296 s297 s298 s299 s300 s301 s302 s303 s304 s305 s306 s307 : Value} {Q : Exit → Act → World → Prop} (wb w : World) (k PL cap2 g2 Bh gH capH gw : Nat) (p : List UInt8) (hl ws0 : List Int)
    (hS0 : SumAt wb w g2 Bh gH capH gw p hl ws0) (h2gw : g2 < gw) (hHgw : gH < gw) (hgw : wb.heap.size ≤ gw) (hlt : 64 * k + 64 ≤ PL) (hPB : PL ≤ 2000000000) (hpl : p.length = PL)
    (hout : ∀ (ws : List Int) (u11 u12 u13 u14 u59 u60 u61 u62 u63 u64 u65 u66 u67 u68 u69 u70 u71 u72 u73 u74 u75 u76 u77 u78 u79 u80 u81 u82 u83 u84 u85 u86 u87 u88 u89 u90 u91 u92 u93 u94 u95 u96 u97 u98 u99 u100 u101 u102 u103 u104 u105 u106 u107 u108 u109 u110 u111 u112 u113 u114 u115 u116 u117 u118 u119 u120 u121 u122 u123 u124 u125 u126 u127 u128 u129 u130 u131 u132 u133 u134 u135 u136 u137 u138 u139 u140 u141 u142 : Value) (w' : World), SumAt wb w' g2 Bh gH capH gw p hl ws → ws = sch ((p.drop (64 * k)).take 64) → Q .normal ⟨#[s0, s1, s2, s3, s4, s5, .slice (some ⟨g2, 0, none⟩) PL cap2, s7, s8, .slice (some ⟨gw, 0, none⟩) 64 64, .int .i64 (64 * (k : Int)), u11, u12, u13, u14, s15, s16, s17, s18, s19, s20, s21, s22, s23, s24, s25, s26, s27, s28, s29, s30, s31, s32, s33, s34, s35, s36, s37, s38, s39, s40, s41, s42, s43, s44, s45, s46, s47, s48, s49, s50, s51, s52, s53, s54, s55, s56, s57, s58, u59, u60, u61, u62, u63, u64, u65, u66, u67, u68, u69, u70, u71, u72, u73, u74, u75, u76, u77, u78, u79, u80, u81, u82, u83, u84, u85, u86, u87, u88, u89, u90, u91, u92, u93, u94, u95, u96, u97, u98, u99, u100, u101, u102, u103, u104, u105, u106, u107, u108, u109, u110, u111, u112, u113, u114, u115, u116, u117, u118, u119, u120, u121, u122, u123, u124, u125, u126, u127, u128, u129, u130, u131, u132, u133, u134, u135, u136, u137, u138, u139, u140, u141, u142, s143, s144, s145, s146, s147, s148, s149, s150, s151, s152, s153, s154, s155, s156, s157, s158, s159, s160, s161, s162, s163, s164, s165, s166, s167, s168, s169, s170, s171, s172, s173, s174, s175, s176, s177, s178, s179, s180, s181, s182, s183, s184, s185, s186, s187, s188, s189, s190, s191, s192, s193, s194, s195, s196, s197, s198, s199, s200, s201, s202, s203, s204, s205, s206, s207, s208, s209, s210, s211, s212, s213, s214, s215, s216, s217, s218, s219, s220, s221, s222, s223, s224, s225, s226, s227, s228, s229, s230, s231, s232, s233, s234, s235, s236, s237, s238, s239, s240, s241, s242, s243, s244, s245, s246, s247, s248, s249, s250, s251, s252, s253, s254, s255, s256, s257, s258, s259, s260, s261, s262, s263, s264, s265, s266, s267, s268, s269, s270, s271, s272, s273, s274, s275, s276, s277, s278, s279, s280, s281, s282, s283, s284, s285, s286, s287, s288, s289, s290, s291, s292, s293, s294, s295, s296, s297, s298, s299, s300, s301, s302, s303, s304, s305, s306, s307], []⟩ w') :
    (Code.block 6 (sumB 6)).wp Tryd.prog Q ⟨#[s0, s1, s2, s3, s4, s5, .slice (some ⟨g2, 0, none⟩) PL cap2, s7, s8, .slice (some ⟨gw, 0, none⟩) 64 64, .int .i64 (64 * (k : Int)), .int .i64 0, s12, s13, s14, s15, s16, s17, s18, s19, s20, s21, s22, s23, s24, s25, s26, s27, s28, s29, s30, s31, s32, s33, s34, s35, s36, s37, s38, s39, s40, s41, s42, s43, s44, s45, s46, s47, s48, s49, s50, s51, s52, s53, s54, s55, s56, s57, s58, s59, s60, s61, s62, s63, s64, s65, s66, s67, s68, s69, s70, s71, s72, s73, s74, s75, s76, s77, s78, s79, s80, s81, s82, s83, s84, s85, s86, s87, s88, s89, s90, s91, s92, s93, s94, s95, s96, s97, s98, s99, s100, s101, s102, s103, s104, s105, s106, s107, s108, s109, s110, s111, s112, s113, s114, s115, s116, s117, s118, s119, s120, s121, s122, s123, s124, s125, s126, s127, s128, s129, s130, s131, s132, s133, s134, s135, s136, s137, s138, s139, s140, s141, s142, s143, s144, s145, s146, s147, s148, s149, s150, s151, s152, s153, s154, s155, s156, s157, s158, s159, s160, s161, s162, s163, s164, s165, s166, s167, s168, s169, s170, s171, s172, s173, s174, s175, s176, s177, s178, s179, s180, s181, s182, s183, s184, s185, s186, s187, s188, s189, s190, s191, s192, s193, s194, s195, s196, s197, s198, s199, s200, s201, s202, s203, s204, s205, s206, s207, s208, s209, s210, s211, s212, s213, s214, s215, s216, s217, s218, s219, s220, s221, s222, s223, s224, s225, s226, s227, s228, s229, s230, s231, s232, s233, s234, s235, s236, s237, s238, s239, s240, s241, s242, s243, s244, s245, s246, s247, s248, s249, s250, s251, s252, s253, s254, s255, s256, s257, s258, s259, s260, s261, s262, s263, s264, s265, s266, s267, s268, s269, s270, s271, s272, s273, s274, s275, s276, s277, s278, s279, s280, s281, s282, s283, s284, s285, s286, s287, s288, s289, s290, s291, s292, s293, s294, s295, s296, s297, s298, s299, s300, s301, s302, s303, s304, s305, s306, s307], []⟩ w := by
  conv => arg 2; arg 2; whnf
  have hlt' : (64 : Int) * k + 64 ≤ PL := by omega
  have HPL := Lib.hid hpl
  have HS := Lib.hid hS0
  have HOUT := Lib.hid hout
  clear hpl hS0 hout
  go_wp2_with fail
  go_loopw [11] (fun v11 wi => ∃ (t : Nat) (ws : List Int), t ≤ 64 ∧ v11 = .int .i64 t ∧ ws.take t = schN ((p.drop (64 * k)).take 64) t ∧ SumAt wb wi g2 Bh gH capH gw p hl ws) (fun v11 _ => 64 - (intOf v11).toNat)
  case atStart => exact ⟨0, ws0, by omega, rfl, rfl, HS.out⟩
  case round =>
    clear HS
    rename World => wi
    obtain ⟨t, ws, ht, rfl, htk, hS⟩ := hrel
    by_cases h64 : t < 64
    · have h64' : (t : Int) < 64 := by omega
      have hwf := box_free hS.ww t
      have hwc : wi.cell? ⟨gw, t, none⟩ = some (.int .u32 (ws.getD t 0)) := by rw [box_cell hS.ww, wv_get _ _ (by rw [hS.wl]; exact h64)]
      by_cases h16 : t < 16
      · have h16' : (t : Int) < 16 := by omega
        have hsch : schN ((p.drop (64 * k)).take 64) (t + 1) = schN ((p.drop (64 * k)).take 64) t ++ [wordP p (64 * k + 4 * t)] := by
          rw [wordP_blk p k t h16, schN, if_pos h16]
        have hbl : 64 * k + 4 * t + 4 ≤ p.length := by rw [HPL.out]; omega
        have c0 := hS.tx.cell (j := 64 * k + 4 * t) (by omega)
        have c1 := hS.tx.cell (j := 64 * k + 4 * t + 1) (by omega)
        have c2 := hS.tx.cell (j := 64 * k + 4 * t + 2) (by omega)
        have c3 := hS.tx.cell (j := 64 * k + 4 * t + 3) (by omega)
        have hput := (hS.put h2gw hHgw hgw t (wordP p (64 * k + 4 * t)))
        have htk2 : (ws.set t (wordP p (64 * k + 4 * t))).take (t + 1) = schN ((p.drop (64 * k)).take 64) (t + 1) := by rw [take_put (by rw [hS.wl]; exact h64), htk, hsch]
        simp only [Nat.zero_add] at c0 c1 c2 c3
        have hbp : 64 * k + 4 * t + 4 ≤ PL := by rw [← HPL.out]; exact hbl
        unfold wordP at hput htk2
        generalize p.getD (64 * k + 4 * t) 0 = b0 at *
        generalize p.getD (64 * k + 4 * t + 1) 0 = b1 at *
        generalize p.getD (64 * k + 4 * t + 2) 0 = b2 at *
        generalize p.getD (64 * k + 4 * t + 3) 0 = b3 at *
        have u0 := b0.toNat_lt; have u1 := b1.toNat_lt; have u2 := b2.toNat_lt; have u3 := b3.toNat_lt
        have HPUT := Lib.hid hput; have HTK := Lib.hid htk2
        clear hput htk2 hsch htk hS hbl
        have i0 : (64 * (k : Int) + 4 * t).toNat = 64 * k + 4 * t := by omega
        have i1 : (64 * (k : Int) + 4 * t + 1).toNat = 64 * k + 4 * t + 1 := by omega
        have i2 : (64 * (k : Int) + 4 * t + 2).toNat = 64 * k + 4 * t + 2 := by omega
        have i3 : (64 * (k : Int) + 4 * t + 3).toNat = 64 * k + 4 * t + 3 := by omega
        have j0 : (0 : Int) ≤ 64 * (k : Int) + 4 * t := by omega
        have o1 : (0 : Int) ≤ 64 * (k : Int) + 4 * t + 1 := by omega
        have o2 : (0 : Int) ≤ 64 * (k : Int) + 4 * t + 2 := by omega
        have o3 : (0 : Int) ≤ 64 * (k : Int) + 4 * t + 3 := by omega
        have q1 : IntKind.i64.wrap (64 * (k : Int) + 4 * t + 1) = 64 * (k : Int) + 4 * t + 1 := IntWalk.i64_in _ (by omega)
        have q2 : IntKind.i64.wrap (64 * (k : Int) + 4 * t + 2) = 64 * (k : Int) + 4 * t + 2 := IntWalk.i64_in _ (by omega)
        have q3 : IntKind.i64.wrap (64 * (k : Int) + 4 * t + 3) = 64 * (k : Int) + 4 * t + 3 := IntWalk.i64_in _ (by omega)
        have p0 : (0 : Int) ≤ (t : Int) := by omega
        have j1 : 64 * (k : Int) + 4 * t + 3 < PL := by omega
        have j2 : 64 * (k : Int) + 4 * t + 2 < PL := by omega
        have j3 : 64 * (k : Int) + 4 * t + 1 < PL := by omega
        have j4 : 64 * (k : Int) + 4 * t < PL := by omega
        go_wp2_with fail
        refine wp_region_still_tail 32 (by kernel_rfl) (by kernel_rfl) ?_
        change wpStill _ _ wi.drew _ _ _
        simp only [List.take_succ_cons, List.take_zero, List.drop_succ_cons, List.drop_zero]
        repeat still_step
        refine wpStill_nil ?_
        change wpList _ _ _ _ _ wi.drew
        have HPD2 := Lib.hid (HPUT.out.drewN 1)
        go_wp2_with fail
        go_roundw
        case rel => exact ⟨t + 1, _, by omega, by go_num, HTK.out, HPD2.out⟩
        case measure => simp [intOf]; omega
      · have hcell : ∀ q, 0 < q → q ≤ t → wi.cell? ⟨gw, t - q, none⟩ = some (.int .u32 ((schN ((p.drop (64 * k)).take 64) t).getD (t - q) 0)) := fun q h0 hq => by
          rw [box_cell hS.ww, wv_get _ _ (by rw [hS.wl]; omega), ← htk]
          congr 2
          simp only [List.getD_eq_getElem?_getD, List.getElem?_take]
          rw [if_pos (by omega)]
        have c15 := hcell 15 (by omega) (by omega)
        have c2 := hcell 2 (by omega) (by omega)
        have c16 := hcell 16 (by omega) (by omega)
        have c7 := hcell 7 (by omega) (by omega)
        have hsch : schN ((p.drop (64 * k)).take 64) (t + 1) = schN ((p.drop (64 * k)).take 64) t ++ [nextW (schN ((p.drop (64 * k)).take 64) t) t] := by rw [schN, if_neg h16]
        have hput := (hS.put h2gw hHgw hgw t (nextW (schN ((p.drop (64 * k)).take 64) t) t))
        have htk2 : (ws.set t (nextW (schN ((p.drop (64 * k)).take 64) t) t)).take (t + 1) = schN ((p.drop (64 * k)).take 64) (t + 1) := by rw [take_put (by rw [hS.wl]; exact h64), htk, hsch]
        have hn : nextW (schN ((p.drop (64 * k)).take 64) t) t = ((schN ((p.drop (64 * k)).take 64) t).getD (t - 16) 0 + sg0 ((schN ((p.drop (64 * k)).take 64) t).getD (t - 15) 0) + (schN ((p.drop (64 * k)).take 64) t).getD (t - 7) 0 + sg1 ((schN ((p.drop (64 * k)).take 64) t).getD (t - 2) 0)) % 4294967296 := rfl
        rw [hn] at hput htk2
        generalize (schN ((p.drop (64 * k)).take 64) t).getD (t - 16) 0 = x16 at c16 hput htk2
        generalize (schN ((p.drop (64 * k)).take 64) t).getD (t - 15) 0 = x15 at c15 hput htk2
        generalize (schN ((p.drop (64 * k)).take 64) t).getD (t - 7) 0 = x7 at c7 hput htk2
        generalize (schN ((p.drop (64 * k)).take 64) t).getD (t - 2) 0 = x2 at c2 hput htk2
        have HPUT := Lib.hid hput; have HTK := Lib.hid htk2
        clear hput htk2 hsch htk hS hcell hn
        have n15 : ((t : Int) - 15).toNat = t - 15 := by omega
        have n2 : ((t : Int) - 2).toNat = t - 2 := by omega
        have n16 : ((t : Int) - 16).toNat = t - 16 := by omega
        have n7 : ((t : Int) - 7).toNat = t - 7 := by omega
        have k16 : (16 : Int) ≤ t := by omega
        have k15 : (15 : Int) ≤ t := by omega
        have k7 : (7 : Int) ≤ t := by omega
        have k2 : (2 : Int) ≤ t := by omega
        go_wp2_with fail
        refine wp_region_drew_tail 32 (by kernel_rfl) (by kernel_rfl) ?_
        simp only [List.take_succ_cons, List.take_zero, List.drop_succ_cons, List.drop_zero]
        repeat (go_big_quiet_step (exact Calls.quiet_of (ror_calls _ _ _ (by omega))))
        refine wpQuiet_nil ?_
        intro _ hw'
        obtain ⟨nq, hw''⟩ := hw'
        subst hw''
        have HPD2 := Lib.hid (HPUT.out.drewN nq)
        go_wp2_with fail
        go_roundw
        case rel => exact ⟨t + 1, _, by omega, by go_num, HTK.out, HPD2.out⟩
        case measure => simp [intOf]; omega
    · obtain rfl : t = 64 := by omega
      have HS := Lib.hid hS
      have htk' : ws.take 64 = schN ((p.drop (64 * k)).take 64) 64 := htk
      have hw64 : ws = sch ((p.drop (64 * k)).take 64) := by
        rw [List.take_of_length_le (by rw [hS.wl]; exact Nat.le_refl _)] at htk'
        exact htk'
      have HW := Lib.hid hw64
      clear hS htk htk' hw64
      go_wp2_with fail
      exact HOUT.out _ _ _ _ _ _ _ _ _ _ _ _ _ _ _ _ _ _ _ _ _ _ _ _ _ _ _ _ _ _ _ _ _ _ _ _ _ _ _ _ _ _ _ _ _ _ _ _ _ _ _ _ _ _ _ _ _ _ _ _ _ _ _ _ _ _ _ _ _ _ _ _ _ _ _ _ _ _ _ _ _ _ _ _ _ _ _ _ _ _ HS.out HW.out
end Go.Proofs.YthegllpmefilkaaDoor
