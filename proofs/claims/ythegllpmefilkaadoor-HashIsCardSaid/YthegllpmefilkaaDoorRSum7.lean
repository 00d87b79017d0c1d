/-
  The document's sum: the bytes of the state.
-/
import Derived.Test.YthegllpmefilkaaDoorRSum6
namespace Go.Proofs.YthegllpmefilkaaDoor
open Go.RowKit Go.MapKept
set_option maxRecDepth 1000000 in
set_option maxHeartbeats 16000000 in
theorem blk12 {s0 s1 s2 s3 s4 s5 s6 s7 s9 s10 s11 s12 s13 s14 s15 s16 s17 s18 s19 s22 s23 s24 s25 s26 s27 s28 s29 s30 s31 s32 s33 s34 s35 s36 s37 s38 s39 s40 s41 s42 s43 s44 s45 s46 s47 s48 s49 s50 s51 s52 s53 s54 s55 s56 s57 s58 s59 s60 s61 s62 s63 s64 s65 s66 s67 s68 s69 s70 s71 s72 s73 s74 s75 s76 s77 s78 s79 s80 s81 s82 s83 s84 s85 s86 s87 s88 s89 s90 s91 s92 s93 s94 s95 s96 s97 s98 s99 s100 s101 s102 s103 s104 s105 s106 s107 s108 s109 s110 s111 s112 s113 s114 s115 s116 s117 s118 s119 s120 s121 s122 s123 s124 s125 s126 s127 s128 s129 s130 s131 s132 s133 s134 s135 s136 s137 s138 s139 s140 s141 s142 s143 s144 s145 s146 s147 s148 s149 s150 s151 s152 s153 s154 s155 s156 s157 s158 s159 s160 s161 s162 s163 s164 s165 s166 s167 s168 s169 s170 s171 s172 s173 s174 s175 s176 s177 s178 s179 s180 s181 s182 s183 s184 s185 s186 s187 s188 s189 s190 s191 s192 s193 s194 s195 s196 s197 s198 s199 s200 s201 s202 s203 s204 s205 s206 s207 s208 s209 s210 s211 s212 s213 s214 s215 s216 s217 s218 s219 s220 s221 s222 s223 s224 s225 s226 s227 s228 s229 s230 s231 s232 s233 s234 s235 s236 s237 s238 s239 s240 s241 s242 s243 s244 s245 s246 s247 s248 s249 s250 s251 s252 s253 s254 s255 s256 s257 s258 s259 s260 s261 s262 s263 s264 s265 s266 s267 s268 s269 s270 s271 s272 s273 s274 s275 s276 s277 s278 s279 s280 s281 s282 s283 s284 s285 s286 s287 s288 s289 s290 s291 s292 s293 s294 s295 s296 s297 s298 s299 s300 s301 s302 s303 s304 s305 s306 s307 : Value} {Q : Exit → Act → World → Prop} (w : World) (gH capH : Nat) (l : List Int) (h8 : l.length = 8)
    (hh : ∀ k, k < 8 → w.cell? ⟨gH, k, none⟩ = some (.int .u32 (l.getD k 0)))
    (hout : ∀ (u20 u21 u277 u278 u279 u280 u281 u282 u283 u284 u285 u286 u287 u288 u289 u290 u291 u292 u293 u294 u295 u296 u297 u298 u299 u300 u301 u302 u303 u304 u305 u306 : Value) (w' : World), w'.ownsRow w.heap.size 5 1 u20 32 (cel (outB l)) → Fr [] w w' → Q .normal ⟨#[s0, s1, s2, s3, s4, s5, s6, s7, .slice (some ⟨gH, 0, none⟩) 8 capH, s9, s10, s11, s12, s13, s14, s15, s16, s17, s18, s19, u20, u21, s22, s23, s24, s25, s26, s27, s28, s29, s30, s31, s32, s33, s34, s35, s36, s37, s38, s39, s40, s41, s42, s43, s44, s45, s46, s47, s48, s49, s50, s51, s52, s53, s54, s55, s56, s57, s58, s59, s60, s61, s62, s63, s64, s65, s66, s67, s68, s69, s70, s71, s72, s73, s74, s75, s76, s77, s78, s79, s80, s81, s82, s83, s84, s85, s86, s87, s88, s89, s90, s91, s92, s93, s94, s95, s96, s97, s98, s99, s100, s101, s102, s103, s104, s105, s106, s107, s108, s109, s110, s111, s112, s113, s114, s115, s116, s117, s118, s119, s120, s121, s122, s123, s124, s125, s126, s127, s128, s129, s130, s131, s132, s133, s134, s135, s136, s137, s138, s139, s140, s141, s142, s143, s144, s145, s146, s147, s148, s149, s150, s151, s152, s153, s154, s155, s156, s157, s158, s159, s160, s161, s162, s163, s164, s165, s166, s167, s168, s169, s170, s171, s172, s173, s174, s175, s176, s177, s178, s179, s180, s181, s182, s183, s184, s185, s186, s187, s188, s189, s190, s191, s192, s193, s194, s195, s196, s197, s198, s199, s200, s201, s202, s203, s204, s205, s206, s207, s208, s209, s210, s211, s212, s213, s214, s215, s216, s217, s218, s219, s220, s221, s222, s223, s224, s225, s226, s227, s228, s229, s230, s231, s232, s233, s234, s235, s236, s237, s238, s239, s240, s241, s242, s243, s244, s245, s246, s247, s248, s249, s250, s251, s252, s253, s254, s255, s256, s257, s258, s259, s260, s261, s262, s263, s264, s265, s266, s267, s268, s269, s270, s271, s272, s273, s274, s275, s276, u277, u278, u279, u280, u281, u282, u283, u284, u285, u286, u287, u288, u289, u290, u291, u292, u293, u294, u295, u296, u297, u298, u299, u300, u301, u302, u303, u304, u305, u306, s307], []⟩ w') :
    (Code.block 12 (sumB 12)).wp Tryd.prog Q ⟨#[s0, s1, s2, s3, s4, s5, s6, s7, .slice (some ⟨gH, 0, none⟩) 8 capH, s9, s10, s11, s12, s13, s14, s15, s16, s17, s18, s19, .slice none 0 0, .int .i64 0, s22, s23, s24, s25, s26, s27, s28, s29, s30, s31, s32, s33, s34, s35, s36, s37, s38, s39, s40, s41, s42, s43, s44, s45, s46, s47, s48, s49, s50, s51, s52, s53, s54, s55, s56, s57, s58, s59, s60, s61, s62, s63, s64, s65, s66, s67, s68, s69, s70, s71, s72, s73, s74, s75, s76, s77, s78, s79, s80, s81, s82, s83, s84, s85, s86, s87, s88, s89, s90, s91, s92, s93, s94, s95, s96, s97, s98, s99, s100, s101, s102, s103, s104, s105, s106, s107, s108, s109, s110, s111, s112, s113, s114, s115, s116, s117, s118, s119, s120, s121, s122, s123, s124, s125, s126, s127, s128, s129, s130, s131, s132, s133, s134, s135, s136, s137, s138, s139, s140, s141, s142, s143, s144, s145, s146, s147, s148, s149, s150, s151, s152, s153, s154, s155, s156, s157, s158, s159, s160, s161, s162, s163, s164, s165, s166, s167, s168, s169, s170, s171, s172, s173, s174, s175, s176, s177, s178, s179, s180, s181, s182, s183, s184, s185, s186, s187, s188, s189, s190, s191, s192, s193, s194, s195, s196, s197, s198, s199, s200, s201, s202, s203, s204, s205, s206, s207, s208, s209, s210, s211, s212, s213, s214, s215, s216, s217, s218, s219, s220, s221, s222, s223, s224, s225, s226, s227, s228, s229, s230, s231, s232, s233, s234, s235, s236, s237, s238, s239, s240, s241, s242, s243, s244, s245, s246, s247, s248, s249, s250, s251, s252, s253, s254, s255, s256, s257, s258, s259, s260, s261, s262, s263, s264, s265, s266, s267, s268, s269, s270, s271, s272, s273, s274, s275, s276, s277, s278, s279, s280, s281, s282, s283, s284, s285, s286, s287, s288, s289, s290, s291, s292, s293, s294, s295, s296, s297, s298, s299, s300, s301, s302, s303, s304, s305, s306, s307], []⟩ w := by
  conv => arg 2; arg 2; whnf
  obtain ⟨i0, hi, hz0, hz1, hz2⟩ := info_parts Tryd.info5
  have HI := Lib.hid hi; have HZ0 := Lib.hid hz0; have HZ1 := Lib.hid hz1; have HZ2 := Lib.hid hz2; clear hi hz0 hz1 hz2
  have HC : Hid (∀ w' k, Fr [] w w' → k < 8 → w'.cell? ⟨gH, k, none⟩ = some (.int .u32 (l.getD k 0))) := Lib.hid (fun w' k hf hk => cell_keepF (hh k hk) hf)
  have H8 := Lib.hid h8
  have HOUT := Lib.hid hout
  clear hh h8 hout
  go_wp2_with fail
  go_loopw [20, 21] (fun v20 v21 wr => ∃ (k : Nat) (u : Value), k ≤ 8 ∧ v21 = .int .i64 k ∧ u = v20 ∧ wr.ownsRow w.heap.size 5 1 u (4 * k) (cel (outB (l.take k))) ∧ Fr [] w wr) (fun _ v21 _ => 8 - (intOf v21).toNat)
  case atStart => exact ⟨0, _, by omega, rfl, rfl, World.ownsRow_nil _ _ _ _, Fr.refl _ _⟩
  case round =>
    rename World => wr
    obtain ⟨k, u, hk, rfl, rfl, hown, hfr⟩ := hrel
    by_cases hlt : k < 8
    · have hk8 : (k : Int) < 8 := by omega
      have hk0 : (0 : Int) ≤ (k : Int) := by omega
      have hsn := outB_snoc l k (by rw [H8.out]; exact hlt)
      have hcell := HC.out wr k hfr hlt
      obtain ⟨x, hx⟩ : ∃ x, l.getD k 0 = x := ⟨_, rfl⟩
      rw [hx] at hsn hcell
      have HCL : Hid (∀ w', Fr [] w w' → w'.cell? ⟨gH, k, none⟩ = some (.int .u32 x)) := Lib.hid (fun w' hf => by rw [← hx]; exact HC.out w' k hf hlt)
      have hnc := new_cells wr (cel (wordB x)) 5
      have hsz := hfr.size
      rw [cel_wordB] at hnc
      have HSN := Lib.hid hsn; have HNC := Lib.hid hnc; have HOW := Lib.hid hown; have HFR := Lib.hid hfr
      clear hx hsn hnc hown hfr hcell
      go_wp2_with fail
      go_region_held3 (fun w' => w'.cell? ⟨gH, k, none⟩ = some (.int .u32 x))
        (first | exact HCL.out _ hq | exact HCL.out _ HFR.out.drew | exact HCL.out _ ((HFR.out.alloc _).drew) | exact HCL.out _ (HFR.out.drew.alloc _) | exact HCL.out _ HFR.out)
        (first | (refine step_append_own rfl (.tmp 281) (.tmp 305) 23 rfl w.heap.size 5 i0 (.int .u8 0) 1 1 Tryd.underlying23 HI.out HZ0.out HZ1.out HZ2.out rfl (by decide) _ (4 * k) _ rfl (HOW.out.alloc _) ⟨wr.heap.size, 0, none⟩ 4 4 [.int .u8 (x / 16777216 % 256), .int .u8 (x / 65536 % 256), .int .u8 (x / 256 % 256), .int .u8 (x % 256)] rfl rfl HNC.out (fun u hu => by simp at hu; rcases hu with rfl | rfl | rfl | rfl <;> rfl) (by unfold maxLen; omega) (by omega) (by simp; omega) ?_; intro v' w4 hown' hgrow _; have hq : Fr [] w w4 := (HFR.out.alloc _).drew.grew (HOW.out.alloc _) hgrow (Nat.le_refl _)))
      have ho' : w4.ownsRow w.heap.size 5 1 v' (4 * (k + 1)) (cel (outB (l.take (k + 1)))) := by
        rw [HSN.out, cel_append, cel_wordB]; exact hown'
      have HOA := Lib.hid ho'; have HFA := Lib.hid hq
      clear hown' ho' hq hgrow
      go_wp2_with fail
      go_roundw
      case rel => exact ⟨k + 1, _, by omega, by go_num, rfl, HOA.out, HFA.out⟩
      case measure => simp [intOf]; omega
    · obtain rfl : k = 8 := by omega
      rw [List.take_of_length_le (by rw [H8.out]; exact Nat.le_refl _)] at hown
      have HOW := Lib.hid hown; have HFR := Lib.hid hfr
      clear hown hfr
      go_wp2_with fail
      exact HOUT.out _ _ _ _ _ _ _ _ _ _ _ _ _ _ _ _ _ _ _ _ _ _ _ _ _ _ _ _ _ _ _ _ _ HOW.out HFR.out
end Go.Proofs.YthegllpmefilkaaDoor
