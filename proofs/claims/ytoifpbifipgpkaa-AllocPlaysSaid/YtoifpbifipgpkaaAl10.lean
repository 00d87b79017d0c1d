/-
  alloc: AllocPlays: the law counts, and lays its own bits.
-/
import Derived.Test.YtoifpbifipgpkaaAl9
import Derived.Deep.CutBlock
namespace Go.Proofs.Ytoifpbifipgpkaa
open Go.RowKit Go.MapKept
/-- The taken ones of the first j. -/
def upf (f : Nat → Bool) (j : Nat) : Nat → Bool := fun y => decide (y < j) && f y
theorem upf_zero (f : Nat → Bool) : upf f 0 = fun _ => false := by funext y; simp [upf]
theorem upf_flip {f : Nat → Bool} {j : Nat} (h : f j = true) : flip (upf f j) j = upf f (j + 1) := by
  funext y
  unfold flip upf
  by_cases e : y = j
  · subst e; simp [h]
  · have h4 : (y == j) = false := beq_eq_false_iff_ne.2 e
    have h5 : decide (y < j + 1) = decide (y < j) := by rw [Bool.eq_iff_iff]; simp only [decide_eq_true_eq]; omega
    simp [h4, h5]
theorem upf_skip {f : Nat → Bool} {j : Nat} (h : f j = false) : upf f (j + 1) = upf f j := by
  funext y
  unfold upf
  by_cases e : y = j
  · subst e; simp [h]
  · have h5 : decide (y < j + 1) = decide (y < j) := by rw [Bool.eq_iff_iff]; simp only [decide_eq_true_eq]; omega
    rw [h5]
/-- The law's own bytes. -/
def BitsAt (w : World) (b : Nat) (f : Nat → Bool) : Prop := w.heap[b]? = some (.cells (cel (secOf f 0)).toArray 75 (0, 0))
theorem BitsAt.cell {w : World} {b : Nat} {f : Nat → Bool} (h : BitsAt w b f) {k : Nat} (hk : k < 64) : w.cell? ⟨b, k, none⟩ = some (.int .u8 (b8 f (8 * k))) := by
  rw [box_cell h]
  have := secOf_get f 0 hk
  rw [Nat.mul_zero, Nat.zero_add] at this
  simpa using this
theorem BitsAt.turn {w : World} {b : Nat} {f : Nat → Bool} (h : BitsAt w b f) {j : Nat} (hj : j < 64) : BitsAt (w.setCell ⟨b, j / 8, none⟩ (.int .u8 (b8 (flip f j) (8 * (j / 8))))) b (flip f j) := by
  have := box_set h (j / 8) (.int .u8 (b8 (flip f j) (8 * (j / 8))))
  have e := secOf_flip f j
  rw [show j / 512 = 0 by omega, show j % 512 = j by omega, Nat.mul_zero, Nat.zero_add] at e
  unfold BitsAt
  rw [this, List.setIfInBounds_toArray, e]
theorem BitsAt.drew {w : World} {b : Nat} {f : Nat → Bool} (h : BitsAt w b f) : BitsAt w.drew b f := h
set_option maxRecDepth 1000000 in
set_option maxHeartbeats 16000000 in
theorem bk6 {s0 s1 s2 s3 s4 s5 s6 s8 s9 s10 s11 s12 s13 s14 s15 s16 s17 s21 s22 s23 s24 s25 s26 s27 s28 s29 s30 s31 s32 s33 s34 s35 s36 s37 s38 s39 s40 s41 s42 s43 s44 s45 s46 s47 s48 s49 s50 s51 s52 s53 s54 s55 s56 s57 s58 s59 s60 s61 s62 s63 s64 s65 s66 s67 s68 s69 s70 s71 s72 s73 s74 s75 s76 s77 s78 s79 s80 s81 s82 s83 s84 s85 s86 s87 s88 s89 s90 s91 s92 s93 s94 s95 s96 s97 s98 s99 s100 s101 s102 s103 s104 s105 s106 s107 s108 s109 s110 s111 s112 s113 s114 s115 s116 s117 s118 s119 s120 s121 s122 s123 s124 s125 s126 s127 s128 s129 s130 s131 s132 s133 s134 s135 s136 s137 s138 s139 s140 s141 s142 s143 s144 s145 s146 s147 s148 s149 s150 s151 s152 s153 s154 s155 s156 s157 s158 s159 s160 s161 s162 s163 s164 s165 s166 s167 s168 s169 s170 s171 s172 s173 s174 s175 s176 s177 s178 s179 s180 s181 s182 s183 s184 s185 s186 s187 s188 s189 s190 s191 s192 s193 s194 s195 s196 s197 s198 s199 s200 s201 s202 s203 s204 s205 s206 s207 s208 s209 s210 s211 s212 s213 s214 s215 s216 s217 s218 s219 s220 s221 s222 : Value} {Q : Exit → Act → World → Prop} (wx : World) (A Bb j : Nat) (f : Nat → Bool) (hjn : j < 60) (hra : wx.heap[A]? = some (.cells (arrB f 61) 71 (0, 0))) (hbt : BitsAt wx Bb (upf f j))
    (hout : ∀ (u179 u180 u181 u182 u183 u184 u185 u186 u187 u188 u189 u190 u191 u192 u193 u194 : Value) (w' : World), BitsAt w' Bb (upf f (j + 1)) → Fr [Bb] wx w' → Q .normal ⟨#[s0, s1, s2, s3, s4, s5, s6, .pointer (some ⟨A, 0, none⟩), s8, s9, s10, s11, s12, s13, s14, s15, s16, s17, .int .i64 (cntB f (j + 1) : Int), .pointer (some ⟨Bb, 0, none⟩), .int .i64 (j : Int), s21, s22, s23, s24, s25, s26, s27, s28, s29, s30, s31, s32, s33, s34, s35, s36, s37, s38, s39, s40, s41, s42, s43, s44, s45, s46, s47, s48, s49, s50, s51, s52, s53, s54, s55, s56, s57, s58, s59, s60, s61, s62, s63, s64, s65, s66, s67, s68, s69, s70, s71, s72, s73, s74, s75, s76, s77, s78, s79, s80, s81, s82, s83, s84, s85, s86, s87, s88, s89, s90, s91, s92, s93, s94, s95, s96, s97, s98, s99, s100, s101, s102, s103, s104, s105, s106, s107, s108, s109, s110, s111, s112, s113, s114, s115, s116, s117, s118, s119, s120, s121, s122, s123, s124, s125, s126, s127, s128, s129, s130, s131, s132, s133, s134, s135, s136, s137, s138, s139, s140, s141, s142, s143, s144, s145, s146, s147, s148, s149, s150, s151, s152, s153, s154, s155, s156, s157, s158, s159, s160, s161, s162, s163, s164, s165, s166, s167, s168, s169, s170, s171, s172, s173, s174, s175, s176, s177, s178, u179, u180, u181, u182, u183, u184, u185, u186, u187, u188, u189, u190, u191, u192, u193, u194, s195, s196, s197, s198, s199, s200, s201, s202, s203, s204, s205, s206, s207, s208, s209, s210, s211, s212, s213, s214, s215, s216, s217, s218, s219, s220, s221, s222], []⟩ w') :
    (Code.block 6 (plB 6)).wp Try.prog Q ⟨#[s0, s1, s2, s3, s4, s5, s6, .pointer (some ⟨A, 0, none⟩), s8, s9, s10, s11, s12, s13, s14, s15, s16, s17, .int .i64 (cntB f j : Int), .pointer (some ⟨Bb, 0, none⟩), .int .i64 (j : Int), s21, s22, s23, s24, s25, s26, s27, s28, s29, s30, s31, s32, s33, s34, s35, s36, s37, s38, s39, s40, s41, s42, s43, s44, s45, s46, s47, s48, s49, s50, s51, s52, s53, s54, s55, s56, s57, s58, s59, s60, s61, s62, s63, s64, s65, s66, s67, s68, s69, s70, s71, s72, s73, s74, s75, s76, s77, s78, s79, s80, s81, s82, s83, s84, s85, s86, s87, s88, s89, s90, s91, s92, s93, s94, s95, s96, s97, s98, s99, s100, s101, s102, s103, s104, s105, s106, s107, s108, s109, s110, s111, s112, s113, s114, s115, s116, s117, s118, s119, s120, s121, s122, s123, s124, s125, s126, s127, s128, s129, s130, s131, s132, s133, s134, s135, s136, s137, s138, s139, s140, s141, s142, s143, s144, s145, s146, s147, s148, s149, s150, s151, s152, s153, s154, s155, s156, s157, s158, s159, s160, s161, s162, s163, s164, s165, s166, s167, s168, s169, s170, s171, s172, s173, s174, s175, s176, s177, s178, s179, s180, s181, s182, s183, s184, s185, s186, s187, s188, s189, s190, s191, s192, s193, s194, s195, s196, s197, s198, s199, s200, s201, s202, s203, s204, s205, s206, s207, s208, s209, s210, s211, s212, s213, s214, s215, s216, s217, s218, s219, s220, s221, s222], []⟩ wx := by
  conv => arg 2; arg 2; whnf
  have HOUT := Lib.hid hout; have HRA := Lib.hid hra
  clear hout hra
  have hcb := cntB_le f j
  have j2 : (0 : Int) ≤ (j : Int) := by omega
  have hct : wx.cell? ⟨A, j, none⟩ = some (.bool (f j)) := (box_cell HRA.out j).trans (arrB_get f (by omega))
  cases hfj : f j with
  | false =>
    rw [hfj] at hct
    have hn : cntB f (j + 1) = cntB f j := by simp [cntB, hfj]
    have HN : Hid (BitsAt wx Bb (upf f (j + 1)) ∧ cntB f (j + 1) = cntB f j) := Lib.hid ⟨by rw [upf_skip hfj]; exact hbt, hn⟩
    have hcn := hn
    clear hfj hbt hn
    have HO := HOUT.out
    rw [hcn] at HO
    have HOUT := Lib.hid HO
    clear HO hcn
    go_wp2_with fail
    exact HOUT.out _ _ _ _ _ _ _ _ _ _ _ _ _ _ _ _ _ HN.out.1 (Fr.refl _ _)
  | true =>
    rw [hfj] at hct
    have hn : cntB f (j + 1) = cntB f j + 1 := by simp [cntB, hfj]
    have hw2 : IntKind.i64.wrap ((cntB f j : Int) + 1) = ((cntB f (j + 1) : Nat) : Int) := by rw [hn, Int.natCast_add]; exact IntWalk.i64_in _ (by omega)
    have hcz := hbt.cell (k := j / 8) (by omega)
    have hfz : wx.frozen? ⟨Bb, j / 8, none⟩ = false := box_free hbt (j / 8)
    have hor := b8_or (upf f j) (8 * (j / 8)) (r := j % 8) (by omega) (by simp [upf]; omega)
    rw [show 8 * (j / 8) + j % 8 = j by omega] at hor
    have hnb := hbt.turn (j := j) (by omega)
    have hlt1 := b8_lt (upf f j) (8 * (j / 8))
    rw [upf_flip hfj] at hnb hor
    obtain ⟨x0, hx0⟩ : ∃ x0, b8 (upf f j) (8 * (j / 8)) = x0 := ⟨_, rfl⟩
    obtain ⟨x1, hx1⟩ : ∃ x1, b8 (upf f (j + 1)) (8 * (j / 8)) = x1 := ⟨_, rfl⟩
    rw [hx0] at hcz hor hlt1
    rw [hx1] at hor hnb
    obtain ⟨kk, hkk⟩ : ∃ kk : Nat, kk = j / 8 := ⟨_, rfl⟩
    obtain ⟨r, hr8⟩ : ∃ r : Nat, r = j % 8 := ⟨_, rfl⟩
    rw [← hkk] at hcz hfz hnb
    rw [← hr8] at hor
    have e0 : (j : Int) / 8 = (kk : Int) := by omega
    have e1 : (j : Int) % 8 = (r : Int) := by omega
    have e3 : (r : Int) ≤ 8 := by omega
    have e4 : (0 : Int) ≤ (r : Int) := by omega
    have e5 : (kk : Int) < 64 := by omega
    have e6 : (0 : Int) ≤ (kk : Int) := by omega
    have e8 : ((kk : Int)).toNat = kk := by omega
    have hp : (2 : Int) ^ r % 256 = ((2 ^ r : Nat) : Int) := by
      have h1 : 2 ^ r < 256 := by
        have : 2 ^ r < 2 ^ 8 := Nat.pow_lt_pow_right (by decide) (by omega)
        exact this
      rw [Int.natCast_pow]
      refine Int.emod_eq_of_lt (Int.pow_nonneg (by decide)) ?_
      have : ((2 ^ r : Nat) : Int) < 256 := by omega
      rwa [Int.natCast_pow] at this
    have hx : bits .or .u8 (x0 : Int) ((2 : Int) ^ r % 256) = (x1 : Int) := by rw [hp]; exact hor
    have HN : Hid (BitsAt (wx.setCell ⟨Bb, kk, none⟩ (.int .u8 x1)).drew Bb (upf f (j + 1)) ∧ Fr [Bb] wx (wx.setCell ⟨Bb, kk, none⟩ (.int .u8 x1)).drew) := Lib.hid ⟨hnb.drew, ((Fr.refl [Bb] wx).setCell (.inl (by simp)) _).drew⟩
    clear hp hor hfj hbt hn hnb hx0 hx1 hkk hr8
    go_wp2_with fail
    go_region
    clear hx hcz hfz
    generalize (wx.setCell ⟨Bb, kk, none⟩ (.int .u8 x1)).drew = wy at *
    go_wp2_with fail
    exact HOUT.out _ _ _ _ _ _ _ _ _ _ _ _ _ _ _ _ _ HN.out.1 HN.out.2
set_option maxRecDepth 1000000 in
set_option maxHeartbeats 16000000 in
theorem bk5 {s1 s2 s3 s4 s5 s6 s8 s9 s10 s11 s12 s13 s14 s15 s16 s17 s21 s22 s23 s24 s25 s26 s27 s28 s29 s30 s31 s32 s33 s34 s35 s36 s37 s38 s39 s40 s41 s42 s43 s44 s45 s46 s47 s48 s49 s50 s51 s52 s53 s54 s55 s56 s57 s58 s59 s60 s61 s62 s63 s64 s65 s66 s67 s68 s69 s70 s71 s72 s73 s74 s75 s76 s77 s78 s79 s80 s81 s82 s83 s84 s85 s86 s87 s88 s89 s90 s91 s92 s93 s94 s95 s96 s97 s98 s99 s100 s101 s102 s103 s104 s105 s106 s107 s108 s109 s110 s111 s112 s113 s114 s115 s116 s117 s118 s119 s120 s121 s122 s123 s124 s125 s126 s127 s128 s129 s130 s131 s132 s133 s134 s135 s136 s137 s138 s139 s140 s141 s142 s143 s144 s145 s146 s147 s148 s149 s150 s151 s152 s153 s154 s155 s156 s157 s158 s159 s160 s161 s162 s163 s164 s165 s166 s167 s168 s169 s170 s171 s172 s173 s174 s175 s176 s177 s178 s179 s180 s181 s182 s183 s184 s185 s186 s187 s188 s189 s190 s191 s192 s193 s194 s195 s196 s197 s198 s199 s200 s201 s202 s203 s204 s205 s206 s207 s208 s209 s210 s211 s212 s213 s214 s215 s216 s217 s218 s219 s220 s221 s222 : Value} {Q : Exit → Act → World → Prop} (w : World) (N A Bb : Nat) (f : Nat → Bool) (hN : 1 ≤ N ∧ N ≤ 60) (hAB : A ≠ Bb) (hra : w.heap[A]? = some (.cells (arrB f 61) 71 (0, 0))) (hba : BitsAt w Bb (upf f 0))
    (hout : ∀ (u20 u174 u175 u176 u177 u178 u179 u180 u181 u182 u183 u184 u185 u186 u187 u188 u189 u190 u191 u192 u193 u194 : Value) (w' : World), BitsAt w' Bb (upf f N) → Fr [Bb] w w' → Q .normal ⟨#[.int .i64 (N : Int), s1, s2, s3, s4, s5, s6, .pointer (some ⟨A, 0, none⟩), s8, s9, s10, s11, s12, s13, s14, s15, s16, s17, .int .i64 (cntB f N : Int), .pointer (some ⟨Bb, 0, none⟩), u20, s21, s22, s23, s24, s25, s26, s27, s28, s29, s30, s31, s32, s33, s34, s35, s36, s37, s38, s39, s40, s41, s42, s43, s44, s45, s46, s47, s48, s49, s50, s51, s52, s53, s54, s55, s56, s57, s58, s59, s60, s61, s62, s63, s64, s65, s66, s67, s68, s69, s70, s71, s72, s73, s74, s75, s76, s77, s78, s79, s80, s81, s82, s83, s84, s85, s86, s87, s88, s89, s90, s91, s92, s93, s94, s95, s96, s97, s98, s99, s100, s101, s102, s103, s104, s105, s106, s107, s108, s109, s110, s111, s112, s113, s114, s115, s116, s117, s118, s119, s120, s121, s122, s123, s124, s125, s126, s127, s128, s129, s130, s131, s132, s133, s134, s135, s136, s137, s138, s139, s140, s141, s142, s143, s144, s145, s146, s147, s148, s149, s150, s151, s152, s153, s154, s155, s156, s157, s158, s159, s160, s161, s162, s163, s164, s165, s166, s167, s168, s169, s170, s171, s172, s173, u174, u175, u176, u177, u178, u179, u180, u181, u182, u183, u184, u185, u186, u187, u188, u189, u190, u191, u192, u193, u194, s195, s196, s197, s198, s199, s200, s201, s202, s203, s204, s205, s206, s207, s208, s209, s210, s211, s212, s213, s214, s215, s216, s217, s218, s219, s220, s221, s222], []⟩ w') :
    (Code.block 5 (plB 5)).wp Try.prog Q ⟨#[.int .i64 (N : Int), s1, s2, s3, s4, s5, s6, .pointer (some ⟨A, 0, none⟩), s8, s9, s10, s11, s12, s13, s14, s15, s16, s17, .int .i64 0, .pointer (some ⟨Bb, 0, none⟩), .int .i64 0, s21, s22, s23, s24, s25, s26, s27, s28, s29, s30, s31, s32, s33, s34, s35, s36, s37, s38, s39, s40, s41, s42, s43, s44, s45, s46, s47, s48, s49, s50, s51, s52, s53, s54, s55, s56, s57, s58, s59, s60, s61, s62, s63, s64, s65, s66, s67, s68, s69, s70, s71, s72, s73, s74, s75, s76, s77, s78, s79, s80, s81, s82, s83, s84, s85, s86, s87, s88, s89, s90, s91, s92, s93, s94, s95, s96, s97, s98, s99, s100, s101, s102, s103, s104, s105, s106, s107, s108, s109, s110, s111, s112, s113, s114, s115, s116, s117, s118, s119, s120, s121, s122, s123, s124, s125, s126, s127, s128, s129, s130, s131, s132, s133, s134, s135, s136, s137, s138, s139, s140, s141, s142, s143, s144, s145, s146, s147, s148, s149, s150, s151, s152, s153, s154, s155, s156, s157, s158, s159, s160, s161, s162, s163, s164, s165, s166, s167, s168, s169, s170, s171, s172, s173, s174, s175, s176, s177, s178, s179, s180, s181, s182, s183, s184, s185, s186, s187, s188, s189, s190, s191, s192, s193, s194, s195, s196, s197, s198, s199, s200, s201, s202, s203, s204, s205, s206, s207, s208, s209, s210, s211, s212, s213, s214, s215, s216, s217, s218, s219, s220, s221, s222], []⟩ w := by
  conv => arg 2; arg 2; whnf
  have HOUT := Lib.hid hout; have HRA := Lib.hid hra; have HBA := Lib.hid hba
  clear hout hra hba
  go_wp2_with fail
  go_loopw [18, 20] (fun v18 v20 wx => ∃ j : Nat, j ≤ N ∧ v20 = .int .i64 j ∧ v18 = .int .i64 (cntB f j) ∧ BitsAt wx Bb (upf f j) ∧ Fr [Bb] w wx) (fun _ v20 _ => N - (intOf v20).toNat)
  case atStart => exact ⟨0, by omega, rfl, rfl, HBA.out, Fr.refl _ _⟩
  case round =>
    clear HBA
    rename World => wx
    obtain ⟨j, hj, rfl, rfl, hbt, hfx⟩ := hrel
    have hw1 : IntKind.i64.wrap ((j : Int) + 1) = (j : Int) + 1 := IntWalk.i64_in _ (by omega)
    have hcb := cntB_le f j
    by_cases hjn : j < N
    · have j1 : (j : Int) < (N : Int) := by omega
      have j2 : (0 : Int) ≤ (j : Int) := by omega
      have j3 : ((j : Int)).toNat = j := by omega
      have j4 : (j : Int) < 61 := by omega
      have HFX := Lib.hid hfx; have HBT := Lib.hid hbt
      clear hfx hbt
      go_upto_block 6 with fail
      refine bk6 wx A Bb j f (by omega) (HFX.out.keep HRA.out (by simpa using hAB)) HBT.out ?_
      intro _ _ _ _ _ _ _ _ _ _ _ _ _ _ _ _ w3 hb3 hf3
      have HB3 := Lib.hid hb3; have HF3 := Lib.hid (HFX.out.trans hf3)
      clear hb3 hf3
      go_wp2_with fail
      go_roundw
      case rel => exact ⟨j + 1, by omega, by go_num, rfl, HB3.out, HF3.out⟩
      case measure => simp [intOf]; omega
    · obtain rfl : N = j := by omega
      have j1 : ¬ (N : Int) < (N : Int) := by omega
      have HX := Lib.hid hbt; have HFX := Lib.hid hfx
      clear hbt hfx
      go_wp2_with fail
      exact HOUT.out _ _ _ _ _ _ _ _ _ _ _ _ _ _ _ _ _ _ _ _ _ _ _ HX.out HFX.out
end Go.Proofs.Ytoifpbifipgpkaa
