/-
  wal: WalPlays: a round.
-/
import Derived.Test.YtoifpbifipgpkaaWp4
namespace Go.Proofs.Ytoifpbifipgpkaa
open Go.RowKit Go.MapKept
set_option maxRecDepth 1000000 in
set_option maxHeartbeats 16000000 in
theorem rdW {s1 s2 s9 s10 s11 s12 s13 s14 s15 s16 s17 s18 s19 s20 s21 s22 s23 s24 s25 s26 s27 s28 s29 s30 s31 s32 s33 s34 s35 s36 s37 s38 s39 s40 s41 s42 s43 s44 s45 s46 s47 s48 s49 s50 s51 s52 s53 s54 s55 s56 s57 s58 s59 s60 s61 s62 s63 s64 s65 s66 s67 s68 s69 s70 s71 s72 s73 s74 s75 s76 s77 s78 s79 s80 s81 s82 s83 s84 s85 s86 s87 s88 s89 s90 s91 s92 s93 s94 s95 s96 s97 s98 s99 s100 s101 s102 s103 s104 s105 s106 s107 s108 s109 s110 s111 s112 s113 s114 s115 s116 s117 s118 s119 s120 s121 s122 s123 s124 s125 s126 s127 s128 s129 s130 s131 s132 s133 s134 s135 s136 s137 s138 s139 s140 s141 s142 s143 s144 s145 s146 s147 s148 s149 s150 s151 s152 s153 s154 s155 s156 s157 s158 s159 s160 s161 s162 s163 s164 s165 s166 s167 s168 s169 s170 s171 s172 s173 s174 s175 s176 s177 s178 s179 s180 s181 s182 s183 s184 s185 s186 s187 s188 s189 s190 s191 s192 s193 s194 s195 s196 s197 s198 s199 s200 s201 s202 s203 s204 s205 s206 s207 s208 s209 s210 s211 s212 s213 s214 s215 s216 s217 s218 s219 s220 s221 s222 s223 s224 s225 s226 s227 s228 s229 s230 s231 : Value} {Q : Exit → Act → World → Prop} (w wr : World) (p s A D B : Nat) (now done : Nat → Nat) (all i : Nat) (v : OpW) (b0 off len cap : Nat) (hi : i < len) (hlen : len ≤ 9223372036854775807) (hB : B ≤ 1900000) (hall : all < 1000)
    (hv : OpAtW wr b0 (off + i * 6) v) (hz : IntsAt w v.la v.ll v.lz) (hlow : 0 < v.ll → ∀ x, v.la = some x → x.block < w.heap.size)
    (hP : PwAt w [] p s A D false B now done all wr)
    (hout : ∀ (u9 u10 u11 u12 u13 u14 u15 u16 u17 u18 u19 u20 u21 u22 u43 u44 u45 u46 u47 u48 u49 u50 u51 u52 u53 u54 u55 u56 u57 u58 u59 u60 u61 u62 u63 u64 u65 u66 u67 u68 u69 u70 u71 u72 u73 u74 u75 u76 u77 u78 u79 u80 u81 u82 u83 u84 u85 u86 u87 u88 u89 u90 u91 u92 u93 u94 u95 u96 u97 u98 u99 u100 u101 u102 u103 u104 u105 u106 u107 u108 u109 u110 u111 u112 u113 u114 u115 u116 u117 u118 u119 u120 u121 u122 u123 u124 u125 u126 u127 u128 u129 u130 u131 u132 u133 u134 u135 u136 u137 u138 u139 u140 u141 u142 u143 u144 u145 u146 u147 u148 u149 u150 u151 u152 u153 u154 u155 u156 u157 u158 u159 u160 u161 u162 u163 u164 u165 u166 u167 u168 u169 u170 u171 u172 u173 u174 u175 u176 u177 u178 u179 u180 u181 u182 u183 u184 u185 u186 u187 u188 u189 u190 u191 u192 u193 u194 u195 u196 u197 u198 u199 u200 u201 u202 u203 u204 u205 u206 u207 u208 u209 u210 u211 u212 u213 u214 u215 u216 u217 u218 u219 u220 u221 u222 u223 u224 u225 u226 u227 u228 u229 u230 u231 : Value) (w' : World) (p' s' : Nat) (now' done' : Nat → Nat) (all' : Nat), all' ≤ all + 1 → PwAt w [] p' s' A D false (B + 20100) now' done' all' w' → Q .normal ⟨#[.slice (some ⟨b0, off, none⟩) len cap, s1, s2, .pointer (some ⟨p', 0, none⟩), .pointer (some ⟨s', 0, none⟩), .pointer (some ⟨A, 0, none⟩), .pointer (some ⟨D, 0, none⟩), .int .i64 (all' : Int), .int .i64 (i : Int), u9, u10, u11, u12, u13, u14, u15, u16, u17, u18, u19, u20, u21, u22, s23, s24, s25, s26, s27, s28, s29, s30, s31, s32, s33, s34, s35, s36, s37, s38, s39, s40, s41, s42, u43, u44, u45, u46, u47, u48, u49, u50, u51, u52, u53, u54, u55, u56, u57, u58, u59, u60, u61, u62, u63, u64, u65, u66, u67, u68, u69, u70, u71, u72, u73, u74, u75, u76, u77, u78, u79, u80, u81, u82, u83, u84, u85, u86, u87, u88, u89, u90, u91, u92, u93, u94, u95, u96, u97, u98, u99, u100, u101, u102, u103, u104, u105, u106, u107, u108, u109, u110, u111, u112, u113, u114, u115, u116, u117, u118, u119, u120, u121, u122, u123, u124, u125, u126, u127, u128, u129, u130, u131, u132, u133, u134, u135, u136, u137, u138, u139, u140, u141, u142, u143, u144, u145, u146, u147, u148, u149, u150, u151, u152, u153, u154, u155, u156, u157, u158, u159, u160, u161, u162, u163, u164, u165, u166, u167, u168, u169, u170, u171, u172, u173, u174, u175, u176, u177, u178, u179, u180, u181, u182, u183, u184, u185, u186, u187, u188, u189, u190, u191, u192, u193, u194, u195, u196, u197, u198, u199, u200, u201, u202, u203, u204, u205, u206, u207, u208, u209, u210, u211, u212, u213, u214, u215, u216, u217, u218, u219, u220, u221, u222, u223, u224, u225, u226, u227, u228, u229, u230, u231], []⟩ w') :
    (Code.block 1 (wpB 1)).wp Try.prog Q ⟨#[.slice (some ⟨b0, off, none⟩) len cap, s1, s2, .pointer (some ⟨p, 0, none⟩), .pointer (some ⟨s, 0, none⟩), .pointer (some ⟨A, 0, none⟩), .pointer (some ⟨D, 0, none⟩), .int .i64 (all : Int), .int .i64 (i : Int), s9, s10, s11, s12, s13, s14, s15, s16, s17, s18, s19, s20, s21, s22, s23, s24, s25, s26, s27, s28, s29, s30, s31, s32, s33, s34, s35, s36, s37, s38, s39, s40, s41, s42, s43, s44, s45, s46, s47, s48, s49, s50, s51, s52, s53, s54, s55, s56, s57, s58, s59, s60, s61, s62, s63, s64, s65, s66, s67, s68, s69, s70, s71, s72, s73, s74, s75, s76, s77, s78, s79, s80, s81, s82, s83, s84, s85, s86, s87, s88, s89, s90, s91, s92, s93, s94, s95, s96, s97, s98, s99, s100, s101, s102, s103, s104, s105, s106, s107, s108, s109, s110, s111, s112, s113, s114, s115, s116, s117, s118, s119, s120, s121, s122, s123, s124, s125, s126, s127, s128, s129, s130, s131, s132, s133, s134, s135, s136, s137, s138, s139, s140, s141, s142, s143, s144, s145, s146, s147, s148, s149, s150, s151, s152, s153, s154, s155, s156, s157, s158, s159, s160, s161, s162, s163, s164, s165, s166, s167, s168, s169, s170, s171, s172, s173, s174, s175, s176, s177, s178, s179, s180, s181, s182, s183, s184, s185, s186, s187, s188, s189, s190, s191, s192, s193, s194, s195, s196, s197, s198, s199, s200, s201, s202, s203, s204, s205, s206, s207, s208, s209, s210, s211, s212, s213, s214, s215, s216, s217, s218, s219, s220, s221, s222, s223, s224, s225, s226, s227, s228, s229, s230, s231], []⟩ wr := by
  conv => arg 2; arg 2; whnf
  have HOUT := Lib.hid hout; have HP := Lib.hid hP; have HZ := Lib.hid hz; have HLOW := Lib.hid hlow
  have hl63 := hv.l63
  have c0 := hv.c0; have c1 := hv.c1; have c2 := hv.c2; have c3 := hv.c3; have c4 := hv.c4; have c5 := hv.c5
  obtain ⟨O, hOe⟩ : ∃ O, wr.heap.size = O := ⟨_, rfl⟩
  have hbo : (wr.alloc (.cells #[.int .i64 v.kind, .int .i64 v.i, .int .i64 v.a, .int .i64 v.size, .bool v.flip, .slice v.la v.ll v.lc] 51)).heap[O]? = some (.cells #[.int .i64 v.kind, .int .i64 v.i, .int .i64 v.a, .int .i64 v.size, .bool v.flip, .slice v.la v.ll v.lc] 51 (0, 0)) := by rw [← hOe]; exact heap_alloc_new _ _
  have hfa : Fr [] wr (wr.alloc (.cells #[.int .i64 v.kind, .int .i64 v.i, .int .i64 v.a, .int .i64 v.size, .bool v.flip, .slice v.la v.ll v.lc] 51)) := (Fr.refl [] wr).alloc _
  have hOA : O ≠ A ∧ O ≠ D := by
    have h1 := lt_of_heap (ws_rowA hP.ws); have h2 := lt_of_heap (ws_rowD hP.ws); omega
  have hOw : w.heap.size ≤ O := by have := hP.ws.fr.size; omega
  have hP2 : PwAt w [(O, oObj v.kind v.i v.a v.size v.flip v.la v.ll v.lc)] p s A D false B now done all (wr.alloc (.cells #[.int .i64 v.kind, .int .i64 v.i, .int .i64 v.a, .int .i64 v.size, .bool v.flip, .slice v.la v.ll v.lc] 51)) := ⟨hP.ws.regard hfa (by simp) _ (fun y hy => by
    rcases List.mem_cons.1 hy with rfl | hy
    · exact ⟨hbo, .inl (by simp only; omega)⟩
    · exact ⟨hfa.keep (hP.ws.keep y hy) (by simp), .inr ⟨y, hy, rfl⟩⟩), hP.kn, hP.hA⟩
  have HP2 := Lib.hid hP2; have HBO := Lib.hid hbo
  have g1 : (i : Int) < (len : Int) := by omega
  have g3 : (0 : Int) ≤ (i : Int) := by omega
  have g4 : ((i : Int)).toNat = i := by omega
  clear hout hP hz hlow hv hP2 hbo hfa
  go_upto_block 2 with fail
  generalize wr.alloc (.cells #[.int .i64 v.kind, .int .i64 v.i, .int .i64 v.a, .int .i64 v.size, .bool v.flip, .slice v.la v.ll v.lc] 51) = wa at *
  refine swW w wa p s A D O B now done all v.kind v.i v.a v.size v.flip v.la v.ll v.lc v.lz hOA hOw (by omega) hall HZ.out hl63 HLOW.out HP2.out ?_
  intro _ _ _ _ _ _ _ _ _ _ _ _ _ _ _ _ _ _ _ _ _ _ _ _ _ _ _ _ _ _ _ _ _ _ _ _ _ _ _ _ _ _ _ _ _ _ _ _ _ _ _ _ _ _ _ _ _ _ _ _ _ _ _ _ _ _ _ _ _ _ _ _ _ _ _ _ _ _ _ _ _ _ _ _ _ _ _ _ _ _ _ _ _ _ _ _ _ _ _ _ _ _ _ _ _ _ _ _ _ _ _ _ _ _ _ _ _ _ _ _ _ _ _ _ _ _ _ _ _ _ _ _ _ _ _ _ _ _ _ _ _ _ _ _ _ _ _ _ _ _ _ _ _ _ _ _ _ _ _ _ _ _ _ _ _ _ _ _ _ _ _ _ _ _ _ w2 p' s' now' done' all' hall' hP3
  have HP3 := Lib.hid hP3
  have HM := Lib.hid (ws_commits hP3.ws)
  clear hP3 HP2 HP HBO c0 c1 c2 c3 c4 c5
  go_wp2_with fail
  refine HM.out.mono ?_
  rintro e w3 ⟨last, ⟨hl0, hl1⟩, _, rfl, hW⟩
  have hl2 : ¬ ((all' : Int) < last) := by omega
  have hl3 : decide ((all' : Int) < last) = false := decide_eq_false hl2
  have hra := box_cell (ws_rowA hW)
  have hlit : arrK now' = #[.int .i64 (now' 0 : Int), .int .i64 (now' 1 : Int), .int .i64 (now' 2 : Int), .int .i64 (now' 3 : Int), .int .i64 (now' 4 : Int), .int .i64 (now' 5 : Int), .int .i64 (now' 6 : Int), .int .i64 (now' 7 : Int), .int .i64 (now' 8 : Int), .int .i64 (now' 9 : Int), .int .i64 (now' 10 : Int), .int .i64 (now' 11 : Int), .int .i64 (now' 12 : Int), .int .i64 (now' 13 : Int), .int .i64 (now' 14 : Int), .int .i64 (now' 15 : Int)] := rfl
  have ht := ws_tells hW (by omega) (fun j _ => by have := (HP3.out.kn j).1; omega)
  rw [hlit] at ht hra
  have HT := Lib.hid ht
  have d0 : w3.cell? ⟨A, 0, none⟩ = some (.int .i64 (now' 0 : Int)) := hra 0
  have d1 : w3.cell? ⟨A, 1, none⟩ = some (.int .i64 (now' 1 : Int)) := hra 1
  have d2 : w3.cell? ⟨A, 2, none⟩ = some (.int .i64 (now' 2 : Int)) := hra 2
  have d3 : w3.cell? ⟨A, 3, none⟩ = some (.int .i64 (now' 3 : Int)) := hra 3
  have d4 : w3.cell? ⟨A, 4, none⟩ = some (.int .i64 (now' 4 : Int)) := hra 4
  have d5 : w3.cell? ⟨A, 5, none⟩ = some (.int .i64 (now' 5 : Int)) := hra 5
  have d6 : w3.cell? ⟨A, 6, none⟩ = some (.int .i64 (now' 6 : Int)) := hra 6
  have d7 : w3.cell? ⟨A, 7, none⟩ = some (.int .i64 (now' 7 : Int)) := hra 7
  have d8 : w3.cell? ⟨A, 8, none⟩ = some (.int .i64 (now' 8 : Int)) := hra 8
  have d9 : w3.cell? ⟨A, 9, none⟩ = some (.int .i64 (now' 9 : Int)) := hra 9
  have d10 : w3.cell? ⟨A, 10, none⟩ = some (.int .i64 (now' 10 : Int)) := hra 10
  have d11 : w3.cell? ⟨A, 11, none⟩ = some (.int .i64 (now' 11 : Int)) := hra 11
  have d12 : w3.cell? ⟨A, 12, none⟩ = some (.int .i64 (now' 12 : Int)) := hra 12
  have d13 : w3.cell? ⟨A, 13, none⟩ = some (.int .i64 (now' 13 : Int)) := hra 13
  have d14 : w3.cell? ⟨A, 14, none⟩ = some (.int .i64 (now' 14 : Int)) := hra 14
  have d15 : w3.cell? ⟨A, 15, none⟩ = some (.int .i64 (now' 15 : Int)) := hra 15
  clear hW hra HM hlit ht
  go_wp2_with fail
  refine HT.out.mono ?_
  rintro e w4 ⟨rfl, hW⟩
  have HP5 : Hid (PwAt w [] p' s' A D false (B + 20100) now' done' all' w4) := Lib.hid ⟨hW.more (by omega), HP3.out.kn, HP3.out.hA⟩
  clear hW HT
  go_wp2_with fail
  exact HOUT.out _ _ _ _ _ _ _ _ _ _ _ _ _ _ _ _ _ _ _ _ _ _ _ _ _ _ _ _ _ _ _ _ _ _ _ _ _ _ _ _ _ _ _ _ _ _ _ _ _ _ _ _ _ _ _ _ _ _ _ _ _ _ _ _ _ _ _ _ _ _ _ _ _ _ _ _ _ _ _ _ _ _ _ _ _ _ _ _ _ _ _ _ _ _ _ _ _ _ _ _ _ _ _ _ _ _ _ _ _ _ _ _ _ _ _ _ _ _ _ _ _ _ _ _ _ _ _ _ _ _ _ _ _ _ _ _ _ _ _ _ _ _ _ _ _ _ _ _ _ _ _ _ _ _ _ _ _ _ _ _ _ _ _ _ _ _ _ _ _ _ _ _ _ _ _ _ _ _ _ _ _ _ _ _ _ _ _ _ _ _ _ _ _ _ _ _ _ _ _ _ _ _ _ _ _ _ _ _ _ hall' HP5.out
end Go.Proofs.Ytoifpbifipgpkaa
