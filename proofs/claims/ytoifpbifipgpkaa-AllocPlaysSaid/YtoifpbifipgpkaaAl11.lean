/-
  alloc: AllocPlays: a round.
-/
import Derived.Test.YtoifpbifipgpkaaAl10
import Derived.Deep.DeepCutAuto
import Derived.Deep.CutBlock
namespace Go.Proofs.Ytoifpbifipgpkaa
open Go.RowKit Go.MapKept
set_option maxRecDepth 1000000 in
set_option maxHeartbeats 16000000 in
theorem rd1 {s2 s3 s4 s10 s11 s12 s13 s14 s15 s16 s17 s18 s19 s20 s21 s22 s23 s24 s25 s26 s27 s28 s29 s30 s31 s32 s33 s34 s35 s36 s37 s38 s39 s40 s41 s42 s43 s44 s45 s46 s47 s48 s49 s50 s51 s52 s53 s54 s55 s56 s57 s58 s59 s60 s61 s62 s63 s64 s65 s66 s67 s68 s69 s70 s71 s72 s73 s74 s75 s76 s77 s78 s79 s80 s81 s82 s83 s84 s85 s86 s87 s88 s89 s90 s91 s92 s93 s94 s95 s96 s97 s98 s99 s100 s101 s102 s103 s104 s105 s106 s107 s108 s109 s110 s111 s112 s113 s114 s115 s116 s117 s118 s119 s120 s121 s122 s123 s124 s125 s126 s127 s128 s129 s130 s131 s132 s133 s134 s135 s136 s137 s138 s139 s140 s141 s142 s143 s144 s145 s146 s147 s148 s149 s150 s151 s152 s153 s154 s155 s156 s157 s158 s159 s160 s161 s162 s163 s164 s165 s166 s167 s168 s169 s170 s171 s172 s173 s174 s175 s176 s177 s178 s179 s180 s181 s182 s183 s184 s185 s186 s187 s188 s189 s190 s191 s192 s193 s194 s195 s196 s197 s198 s199 s200 s201 s202 s203 s204 s205 s206 s207 s208 s209 s210 s211 s212 s213 s214 s215 s216 s217 s218 s219 s220 s221 s222 : Value} {Q : Exit → Act → World → Prop} (w wr : World) (s p l m h N A D B : Nat) (f g : Nat → Bool) (all : Nat) (i : Nat) (kind k : Int) (b0 off len cap : Nat) (hN : 1 ≤ N ∧ N ≤ 60) (hB : B ≤ 900000) (hall : all < 1000) (hi : i < len) (hlen : len ≤ 9223372036854775807)
    (hc1 : wr.cell? ⟨b0, off + i * 2, none⟩ = some (.int .i64 kind)) (hc2 : wr.cell? ⟨b0, off + i * 2 + 1, none⟩ = some (.int .i64 k))
    (hP : PlAt w s p l m h N A D B f g all wr)
    (hout : ∀ (u10 u11 u12 u13 u14 u15 u16 u17 u18 u19 u20 u21 u22 u23 u24 u51 u52 u53 u54 u55 u56 u57 u58 u59 u60 u61 u62 u63 u64 u65 u66 u67 u68 u69 u70 u71 u72 u73 u74 u75 u76 u77 u78 u79 u80 u81 u82 u83 u84 u85 u86 u87 u88 u89 u90 u91 u92 u93 u94 u95 u96 u97 u98 u99 u100 u101 u102 u103 u104 u105 u106 u107 u108 u109 u110 u111 u112 u113 u114 u115 u116 u117 u118 u119 u120 u121 u122 u123 u124 u125 u126 u127 u128 u129 u130 u131 u132 u133 u134 u135 u136 u137 u138 u139 u140 u141 u142 u143 u144 u145 u146 u147 u148 u149 u150 u151 u152 u153 u154 u155 u156 u157 u158 u159 u160 u161 u162 u163 u164 u165 u166 u167 u168 u169 u170 u171 u172 u173 u174 u175 u176 u177 u178 u179 u180 u181 u182 u183 u184 u185 u186 u187 u188 u189 u190 u191 u192 u193 u194 u195 u196 u197 u198 u199 u200 u201 u202 u203 u204 u205 u206 u207 u208 u209 u210 u211 u212 u213 u214 u215 u216 u217 u218 u219 u220 u221 u222 : Value) (w' : World) (f' g' : Nat → Bool) (all' : Nat), all' ≤ all + 1 → PlAt w s p l m h N A D (B + 1900) f' g' all' w' → Q .normal ⟨#[.int .i64 (N : Int), .slice (some ⟨b0, off, none⟩) len cap, s2, s3, s4, .pointer (some ⟨s, 0, none⟩), .pointer (some ⟨h, 0, none⟩), .pointer (some ⟨A, 0, none⟩), .pointer (some ⟨D, 0, none⟩), .int .i64 (i : Int), u10, u11, u12, u13, u14, u15, u16, u17, u18, u19, u20, u21, u22, u23, u24, s25, s26, s27, s28, s29, s30, s31, s32, s33, s34, s35, s36, s37, s38, s39, s40, s41, s42, s43, s44, s45, s46, s47, s48, s49, s50, u51, u52, u53, u54, u55, u56, u57, u58, u59, u60, u61, u62, u63, u64, u65, u66, u67, u68, u69, u70, u71, u72, u73, u74, u75, u76, u77, u78, u79, u80, u81, u82, u83, u84, u85, u86, u87, u88, u89, u90, u91, u92, u93, u94, u95, u96, u97, u98, u99, u100, u101, u102, u103, u104, u105, u106, u107, u108, u109, u110, u111, u112, u113, u114, u115, u116, u117, u118, u119, u120, u121, u122, u123, u124, u125, u126, u127, u128, u129, u130, u131, u132, u133, u134, u135, u136, u137, u138, u139, u140, u141, u142, u143, u144, u145, u146, u147, u148, u149, u150, u151, u152, u153, u154, u155, u156, u157, u158, u159, u160, u161, u162, u163, u164, u165, u166, u167, u168, u169, u170, u171, u172, u173, u174, u175, u176, u177, u178, u179, u180, u181, u182, u183, u184, u185, u186, u187, u188, u189, u190, u191, u192, u193, u194, u195, u196, u197, u198, u199, u200, u201, u202, u203, u204, u205, u206, u207, u208, u209, u210, u211, u212, u213, u214, u215, u216, u217, u218, u219, u220, u221, u222], []⟩ w') :
    (Code.block 1 (plB 1)).wp Try.prog Q ⟨#[.int .i64 (N : Int), .slice (some ⟨b0, off, none⟩) len cap, s2, s3, s4, .pointer (some ⟨s, 0, none⟩), .pointer (some ⟨h, 0, none⟩), .pointer (some ⟨A, 0, none⟩), .pointer (some ⟨D, 0, none⟩), .int .i64 (i : Int), s10, s11, s12, s13, s14, s15, s16, s17, s18, s19, s20, s21, s22, s23, s24, s25, s26, s27, s28, s29, s30, s31, s32, s33, s34, s35, s36, s37, s38, s39, s40, s41, s42, s43, s44, s45, s46, s47, s48, s49, s50, s51, s52, s53, s54, s55, s56, s57, s58, s59, s60, s61, s62, s63, s64, s65, s66, s67, s68, s69, s70, s71, s72, s73, s74, s75, s76, s77, s78, s79, s80, s81, s82, s83, s84, s85, s86, s87, s88, s89, s90, s91, s92, s93, s94, s95, s96, s97, s98, s99, s100, s101, s102, s103, s104, s105, s106, s107, s108, s109, s110, s111, s112, s113, s114, s115, s116, s117, s118, s119, s120, s121, s122, s123, s124, s125, s126, s127, s128, s129, s130, s131, s132, s133, s134, s135, s136, s137, s138, s139, s140, s141, s142, s143, s144, s145, s146, s147, s148, s149, s150, s151, s152, s153, s154, s155, s156, s157, s158, s159, s160, s161, s162, s163, s164, s165, s166, s167, s168, s169, s170, s171, s172, s173, s174, s175, s176, s177, s178, s179, s180, s181, s182, s183, s184, s185, s186, s187, s188, s189, s190, s191, s192, s193, s194, s195, s196, s197, s198, s199, s200, s201, s202, s203, s204, s205, s206, s207, s208, s209, s210, s211, s212, s213, s214, s215, s216, s217, s218, s219, s220, s221, s222], []⟩ wr := by
  conv => arg 2; arg 2; whnf
  have HOUT := Lib.hid hout; have HP := Lib.hid hP
  clear hout hP
  have g1 : (i : Int) < (len : Int) := by omega
  have g3 : (0 : Int) ≤ (i : Int) := by omega
  have g4 : ((i : Int)).toNat = i := by omega
  obtain ⟨ib, hib⟩ : ∃ ib, isIn k N = ib := ⟨_, rfl⟩
  have HIB := Lib.hid hib
  go_upto_region 10 with fail
  go_cut [11] from 51 to 222 (fun v11 wx => v11 = .bool ib ∧ wr = wx)
  case first =>
    by_cases k1 : 0 ≤ k
    · by_cases k2 : k < (N : Int)
      · obtain rfl : ib = true := by rw [← hib]; simp [isIn, k1, k2]
        clear hib
        go_wp2_with fail
        go_meet
        exact ⟨rfl, rfl⟩
      · obtain rfl : ib = false := by rw [← hib]; simp [isIn, k1]; omega
        clear hib
        go_wp2_with fail
        go_meet
        exact ⟨rfl, rfl⟩
    · obtain rfl : ib = false := by rw [← hib]; simp [isIn]; omega
      clear hib
      go_wp2_with fail
      go_meet
      exact ⟨rfl, rfl⟩
  case rest =>
    obtain ⟨rfl, rfl⟩ := hcut
    clear hib
    go_upto_block 2 with fail
    refine sw2 w wr s p l m h N A D B f g all kind k ib HIB.out hN (by omega) hall HP.out ?_
    intro _ _ _ _ _ _ _ _ _ _ _ _ _ _ _ _ _ _ _ _ _ _ _ _ _ _ _ _ _ _ _ _ _ _ _ _ _ _ _ _ _ _ _ _ _ _ _ _ _ _ _ _ _ _ _ _ _ _ _ _ _ _ _ _ _ _ _ _ _ _ _ _ _ _ _ _ _ _ _ _ _ _ _ _ _ _ _ _ _ _ _ _ _ _ _ _ _ _ _ _ _ _ _ _ _ _ _ _ _ _ _ _ w2 f2 g2 all2 hall2 hP2
    have HP2 := Lib.hid hP2
    clear hP2 HP
    obtain ⟨Bb, hBb⟩ : ∃ Bb, w2.heap.size = Bb := ⟨_, rfl⟩
    have hba : BitsAt (w2.alloc (.cells (cel zeros).toArray 75)) Bb (upf f2 0) := by
      unfold BitsAt
      rw [upf_zero, secOf_zero, ← hBb]; exact heap_alloc_new w2 _
    have hfa : Fr [] w2 (w2.alloc (.cells (cel zeros).toArray 75)) := (Fr.refl [] w2).alloc _
    rw [show (cel zeros).toArray = #[.int .u8 0, .int .u8 0, .int .u8 0, .int .u8 0, .int .u8 0, .int .u8 0, .int .u8 0, .int .u8 0, .int .u8 0, .int .u8 0, .int .u8 0, .int .u8 0, .int .u8 0, .int .u8 0, .int .u8 0, .int .u8 0, .int .u8 0, .int .u8 0, .int .u8 0, .int .u8 0, .int .u8 0, .int .u8 0, .int .u8 0, .int .u8 0, .int .u8 0, .int .u8 0, .int .u8 0, .int .u8 0, .int .u8 0, .int .u8 0, .int .u8 0, .int .u8 0, .int .u8 0, .int .u8 0, .int .u8 0, .int .u8 0, .int .u8 0, .int .u8 0, .int .u8 0, .int .u8 0, .int .u8 0, .int .u8 0, .int .u8 0, .int .u8 0, .int .u8 0, .int .u8 0, .int .u8 0, .int .u8 0, .int .u8 0, .int .u8 0, .int .u8 0, .int .u8 0, .int .u8 0, .int .u8 0, .int .u8 0, .int .u8 0, .int .u8 0, .int .u8 0, .int .u8 0, .int .u8 0, .int .u8 0, .int .u8 0, .int .u8 0, .int .u8 0] from rfl] at hba hfa
    go_upto_block 5 with fail
    generalize w2.alloc (.cells #[.int .u8 0, .int .u8 0, .int .u8 0, .int .u8 0, .int .u8 0, .int .u8 0, .int .u8 0, .int .u8 0, .int .u8 0, .int .u8 0, .int .u8 0, .int .u8 0, .int .u8 0, .int .u8 0, .int .u8 0, .int .u8 0, .int .u8 0, .int .u8 0, .int .u8 0, .int .u8 0, .int .u8 0, .int .u8 0, .int .u8 0, .int .u8 0, .int .u8 0, .int .u8 0, .int .u8 0, .int .u8 0, .int .u8 0, .int .u8 0, .int .u8 0, .int .u8 0, .int .u8 0, .int .u8 0, .int .u8 0, .int .u8 0, .int .u8 0, .int .u8 0, .int .u8 0, .int .u8 0, .int .u8 0, .int .u8 0, .int .u8 0, .int .u8 0, .int .u8 0, .int .u8 0, .int .u8 0, .int .u8 0, .int .u8 0, .int .u8 0, .int .u8 0, .int .u8 0, .int .u8 0, .int .u8 0, .int .u8 0, .int .u8 0, .int .u8 0, .int .u8 0, .int .u8 0, .int .u8 0, .int .u8 0, .int .u8 0, .int .u8 0, .int .u8 0] 75) = W0 at *
    have hra := hfa.keep HP2.out.rowA (by simp)
    have hAB : A ≠ Bb := by have := lt_of_heap HP2.out.rowA; omega
    have HFA := Lib.hid hfa
    clear hfa
    refine bk5 W0 N A Bb f2 hN hAB hra hba ?_
    intro _ _ _ _ _ _ _ _ _ _ _ _ _ _ _ _ _ _ _ _ _ _ wx hbt hfx
    have hsec : secOf (upf f2 N) 0 = secOf f2 0 := secOf_congr (fun y _ _ => by
      unfold upf
      by_cases e : y < N
      · simp [e]
      · simp [e, (HP2.out.out y (by omega)).1])
    unfold BitsAt at hbt
    rw [hsec] at hbt
    have hfx0 : Fr [] w2 wx := HFA.out.trans_new hfx (fun y hy => by simp at hy; subst hy; exact .inr (by omega))
    have hA3 := HP2.out.al.regard hfx0 (by simp) ((Bb, .cells (cel (secOf f2 0)).toArray 75 (0, 0)) :: rows A D f2 g2) (fun y hy => by
      rcases List.mem_cons.1 hy with rfl | hy
      · exact ⟨hbt, .inl (by simp; omega)⟩
      · exact ⟨hfx0.keep (HP2.out.al.keep y hy) (by simp), .inr ⟨y, hy, rfl⟩⟩)
    have HCT := Lib.hid (al_count hA3 (by omega) (by omega) (by omega))
    obtain ⟨Cn, hCn⟩ : ∃ Cn, cntB f2 N = Cn := ⟨_, rfl⟩
    rw [hCn] at HCT ⊢
    clear hbt hfx hfx0 hA3 hsec HFA hCn hba hra
    go_wp2_with fail
    refine HCT.out.mono ?_
    rintro e w3 ⟨rfl, hA4⟩
    have hrd := al_read hA4 0 (by omega) (by omega) (by omega)
    rw [show ((5 + 0 : Nat) : Int) = 5 from rfl] at hrd
    have HRD := Lib.hid hrd
    clear hA4 hrd HCT
    go_wp2_with fail
    refine HRD.out.mono ?_
    rintro e w4 ⟨x, rfl, hx, hA5⟩
    obtain ⟨T, hT⟩ : ∃ T, secOf f2 0 = T := ⟨_, rfl⟩
    have hT64 : T.length = 64 := by rw [← hT]; exact secOf_len f2 0
    rw [hT] at hx hA5
    obtain ⟨gx, capx, rfl, hsx⟩ := StrB.b64 hT64 hx
    have hb5 := hA5.keep (Bb, .cells (cel T).toArray 75 (0, 0)) (by simp)
    have hsb : StrB w4 (.slice (some ⟨Bb, 0, none⟩) 64 64) ⟨T.toArray⟩ := StrB.range hT64 (fun j v hv => by
      rw [box_cell hb5, Nat.zero_add]; simpa using hv)
    have HFIN : Hid (∀ W, Fr [] w4 W → PlAt w s p l m h N A D (B + 1900) f2 g2 all2 W) := Lib.hid (fun W hW => ⟨(hA5.regard hW (by simp) (rows A D f2 g2) (fun y hy => ⟨hW.keep (hA5.keep y (List.mem_cons_of_mem _ hy)) (by simp), .inr ⟨y, List.mem_cons_of_mem _ hy, rfl⟩⟩)).more (by omega), HP2.out.out, HP2.out.hA⟩)
    have hx1 := fun n => hsx (w4.drewN n) (drewN_fr0 w4 n)
    have hx2 := fun n => hsb (w4.drewN n) (drewN_fr0 w4 n)
    have hsame := beq_selfB ⟨T.toArray⟩
    clear hx hsx hsb hA5 hb5 HRD hT hT64
    go_wp2_with fail
    go_quiet (fail)
    have HZ := Lib.hid (HFIN.out _ (drewN_fr0 w4 nq))
    clear hx1 hx2 HFIN
    go_wp2_with fail
    exact HOUT.out _ _ _ _ _ _ _ _ _ _ _ _ _ _ _ _ _ _ _ _ _ _ _ _ _ _ _ _ _ _ _ _ _ _ _ _ _ _ _ _ _ _ _ _ _ _ _ _ _ _ _ _ _ _ _ _ _ _ _ _ _ _ _ _ _ _ _ _ _ _ _ _ _ _ _ _ _ _ _ _ _ _ _ _ _ _ _ _ _ _ _ _ _ _ _ _ _ _ _ _ _ _ _ _ _ _ _ _ _ _ _ _ _ _ _ _ _ _ _ _ _ _ _ _ _ _ _ _ _ _ _ _ _ _ _ _ _ _ _ _ _ _ _ _ _ _ _ _ _ _ _ _ _ _ _ _ _ _ _ _ _ _ _ _ _ _ _ _ _ _ _ _ _ _ _ _ _ _ _ _ _ _ _ _ _ _ _ _ _ _ _ hall2 HZ.out
end Go.Proofs.Ytoifpbifipgpkaa
