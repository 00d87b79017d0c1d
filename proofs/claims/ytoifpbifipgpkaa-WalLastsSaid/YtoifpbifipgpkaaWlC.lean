/-
  wal: WalLasts: a round in a life.
  wal: WalLasts: a life.
  wal: WalLasts: what is there behind a crash, also while it is opened again.
  wal: WalLasts: the law's walk.
-/
import Derived.Test.YtoifpbifipgpkaaWl8
import Derived.Test.YtoifpbifipgpkaaWlA
set_option linter.unusedVariables false
set_option linter.unusedSimpArgs false
namespace Go.Proofs.Ytoifpbifipgpkaa
open Go.RowKit Go.MapKept
set_option maxRecDepth 1000000 in
set_option maxHeartbeats 16000000 in
theorem rdL {s2 s4 s5 s6 s7 s8 s9 s10 s11 s16 s17 s18 s19 s20 s21 s22 s23 s24 s25 s26 s27 s28 s29 s30 s31 s32 s33 s34 s35 s36 s37 s38 s39 s40 s41 s42 s43 s44 s45 s46 s47 s48 s49 s50 s51 s52 s53 s54 s55 s56 s57 s58 s59 s60 s61 s62 s63 s64 s65 s66 s67 s68 s69 s70 s71 s72 s73 s74 s75 s76 s77 s78 s79 s80 s81 s82 s83 s84 s85 s86 s87 s88 s89 s90 s91 s92 s93 s94 s95 s96 s97 s98 s99 s100 s101 s102 s103 s104 s105 s106 s107 : Value} {Q : Exit → Act → World → Prop} (w wr : World) (p s A g cap B : Nat) (cur : Array Value) (σ : Nat → Nat → Nat) (cnt least : Nat) (now : Nat → Nat) (i : Nat) (v : OpW) (b0 off len lcap : Nat) (hi : i < len) (hlen : len ≤ 9223372036854775807) (hne : A ≠ g) (hgw : w.heap.size ≤ g ∧ w.heap.size ≤ A) (hB : B ≤ 1000000) (hcnt : cnt ≤ 1000) (hleast : least ≤ cnt)
    (hkn : ∀ q, now q ≤ 256) (hks : ∀ j q, σ j q ≤ 256) (hS : SRow σ cnt cap cur) (hv : OpAtW wr b0 (off + i * 6) v)
    (hA : LfAt w [gRow g cur, kRow A now] p s B σ cnt least now false wr)
    (hout : ∀ (u16 u17 u18 u19 u41 u42 u43 u44 u45 u46 u47 u48 u49 u50 u51 u52 u53 u54 u55 u56 u57 u58 u59 u60 u61 u62 u63 u64 u65 u66 u67 u68 u69 u70 u71 u72 u73 u74 u75 u76 u77 u78 u79 u80 u81 u82 u83 u84 u85 u86 u87 u88 u89 u90 u91 u92 u93 u94 u95 u96 u97 u98 u99 u100 u101 u102 u103 u104 u105 : Value) (w' : World) (g' cap' : Nat) (cur' : Array Value) (σ' : Nat → Nat → Nat) (cnt' least' : Nat) (now' : Nat → Nat) (dead' : Bool), cnt' ≤ cnt + 1 → least' ≤ cnt' → (∀ q, now' q ≤ 256) → (∀ j q, σ' j q ≤ 256) → A ≠ g' → w.heap.size ≤ g' → SRow σ' cnt' cap' cur' → LfAt w [gRow g' cur', kRow A now'] p s (B + 2000) σ' cnt' least' now' dead' w' → Q .normal ⟨#[.pointer (some ⟨p, 0, none⟩), .pointer (some ⟨s, 0, none⟩), s2, .slice (some ⟨b0, off, none⟩) len lcap, s4, s5, s6, s7, s8, s9, s10, s11, .slice (some ⟨g', 0, none⟩) (cnt' + 1) cap', .pointer (some ⟨A, 0, none⟩), .int .i64 (least' : Int), .int .i64 (i : Int), u16, u17, u18, u19, s20, s21, s22, s23, s24, s25, s26, s27, s28, s29, s30, s31, s32, s33, s34, s35, s36, s37, s38, s39, s40, u41, u42, u43, u44, u45, u46, u47, u48, u49, u50, u51, u52, u53, u54, u55, u56, u57, u58, u59, u60, u61, u62, u63, u64, u65, u66, u67, u68, u69, u70, u71, u72, u73, u74, u75, u76, u77, u78, u79, u80, u81, u82, u83, u84, u85, u86, u87, u88, u89, u90, u91, u92, u93, u94, u95, u96, u97, u98, u99, u100, u101, u102, u103, u104, u105, s106, s107], []⟩ w') :
    (Code.block 1 (lfB 1)).wp Try.prog Q ⟨#[.pointer (some ⟨p, 0, none⟩), .pointer (some ⟨s, 0, none⟩), s2, .slice (some ⟨b0, off, none⟩) len lcap, s4, s5, s6, s7, s8, s9, s10, s11, .slice (some ⟨g, 0, none⟩) (cnt + 1) cap, .pointer (some ⟨A, 0, none⟩), .int .i64 (least : Int), .int .i64 (i : Int), s16, s17, s18, s19, s20, s21, s22, s23, s24, s25, s26, s27, s28, s29, s30, s31, s32, s33, s34, s35, s36, s37, s38, s39, s40, s41, s42, s43, s44, s45, s46, s47, s48, s49, s50, s51, s52, s53, s54, s55, s56, s57, s58, s59, s60, s61, s62, s63, s64, s65, s66, s67, s68, s69, s70, s71, s72, s73, s74, s75, s76, s77, s78, s79, s80, s81, s82, s83, s84, s85, s86, s87, s88, s89, s90, s91, s92, s93, s94, s95, s96, s97, s98, s99, s100, s101, s102, s103, s104, s105, s106, s107], []⟩ wr := by
  conv => arg 2; arg 2; whnf
  have HOUT := Lib.hid hout; have HA := Lib.hid hA; have HS := Lib.hid hS; have HKN := Lib.hid hkn; have HKS := Lib.hid hks
  have c0 := hv.c0; have c1 := hv.c1; have c2 := hv.c2; have c3 := hv.c3; have c4 := hv.c4; have c5 := hv.c5
  obtain ⟨O, hOe⟩ : ∃ O, wr.heap.size = O := ⟨_, rfl⟩
  have hbo : (wr.alloc (.cells #[.int .i64 v.kind, .int .i64 v.i, .int .i64 v.a, .int .i64 v.size, .bool v.flip, .slice v.la v.ll v.lc] 51)).heap[O]? = some (.cells #[.int .i64 v.kind, .int .i64 v.i, .int .i64 v.a, .int .i64 v.size, .bool v.flip, .slice v.la v.ll v.lc] 51 (0, 0)) := by rw [← hOe]; exact heap_alloc_new _ _
  have hfa : Fr [] wr (wr.alloc (.cells #[.int .i64 v.kind, .int .i64 v.i, .int .i64 v.a, .int .i64 v.size, .bool v.flip, .slice v.la v.ll v.lc] 51)) := (Fr.refl [] wr).alloc _
  have hla := lt_of_heap (hA.keep (kRow A now) (by simp))
  have hlg := lt_of_heap (hA.keep (gRow g cur) (by simp))
  have hOA : O ≠ A ∧ O ≠ g ∧ A ≠ g := by
    have h1 : A < wr.heap.size := hla
    have h2 : g < wr.heap.size := hlg
    omega
  have HA2 := Lib.hid (hA.regard hfa (by simp) [(O, oObj v.kind v.i v.a v.size v.flip v.la v.ll v.lc), gRow g cur, kRow A now] (fun y hy => by
    rcases List.mem_cons.1 hy with rfl | hy
    · exact ⟨hbo, .inl (by simp only; omega)⟩
    · exact ⟨hfa.keep (hA.keep y hy) (by simp), .inr ⟨y, hy, rfl⟩⟩))
  have HBO := Lib.hid hbo
  have g1 : (i : Int) < (len : Int) := by omega
  have g3 : (0 : Int) ≤ (i : Int) := by omega
  have g4 : ((i : Int)).toNat = i := by omega
  clear hout hA hS hkn hks hv hbo hfa
  go_upto_block 2 with fail
  generalize wr.alloc (.cells #[.int .i64 v.kind, .int .i64 v.i, .int .i64 v.a, .int .i64 v.size, .bool v.flip, .slice v.la v.ll v.lc] 51) = wa at *
  refine swL w wa p s A O g cap B cur σ cnt least now v.kind v.i v.a v.size v.flip v.la v.ll v.lc hOA hgw hB hcnt hleast HKN.out HKS.out HS.out HA2.out ?_
  intro _ _ _ _ _ _ _ _ _ _ _ _ _ _ _ _ _ _ _ _ _ _ _ _ _ _ _ _ _ _ _ _ _ _ _ _ _ _ _ _ _ _ _ _ _ _ _ _ _ w2 g' cap' cur' σ' cnt' least' now' dead' q1 q2 q3 q4 q5 q6 hS2 hW
  have HW := Lib.hid hW; have HS2 := Lib.hid hS2; have HK2 := Lib.hid q3; have HKS2 := Lib.hid q4
  have HM := Lib.hid (lf_commits hW)
  clear hW hS2 q3 q4 HA2 HBO HA HS c0 c1 c2 c3 c4 c5
  go_wp2_with fail
  refine HM.out.mono ?_
  rintro e w3 ⟨all, last, rfl, h1, h2⟩
  have HDD := Lib.hid (lf_dead h2)
  have H2 := Lib.hid h2; have H1 := Lib.hid h1
  clear h1 h2 HM
  go_wp2_with fail
  refine HDD.out.mono ?_
  rintro e w4 ⟨rfl, rfl⟩
  cases dead' with
  | true =>
    go_wp2_with fail
    exact HOUT.out _ _ _ _ _ _ _ _ _ _ _ _ _ _ _ _ _ _ _ _ _ _ _ _ _ _ _ _ _ _ _ _ _ _ _ _ _ _ _ _ _ _ _ _ _ _ _ _ _ _ _ _ _ _ _ _ _ _ _ _ _ _ _ _ _ _ _ _ _ _ g' cap' cur' σ' cnt' least' now' true q1 q2 HK2.out HKS2.out q5 q6 HS2.out H2.out
  | false =>
    obtain ⟨l1, l2, l3⟩ := H1.out rfl
    obtain ⟨ln, rfl⟩ : ∃ ln : Nat, last = ln := ⟨last.toNat, by omega⟩
    rw [Int.toNat_natCast] at l3
    by_cases hlt : least' < ln
    · have e1 : max least' ln = ln := by omega
      rw [e1] at l3
      have L3 := Lib.hid l3
      have hlt' : (least' : Int) < (ln : Int) := by omega
      have hmx : max (least' : Int) (ln : Int) = (ln : Int) := by omega
      clear l3 e1
      go_wp2_with fail
      exact HOUT.out _ _ _ _ _ _ _ _ _ _ _ _ _ _ _ _ _ _ _ _ _ _ _ _ _ _ _ _ _ _ _ _ _ _ _ _ _ _ _ _ _ _ _ _ _ _ _ _ _ _ _ _ _ _ _ _ _ _ _ _ _ _ _ _ _ _ _ _ _ _ g' cap' cur' σ' cnt' ln now' false q1 (by omega) HK2.out HKS2.out q5 q6 HS2.out L3.out
    · have e1 : max least' ln = least' := by omega
      rw [e1] at l3
      have L3 := Lib.hid l3
      have hlt' : ¬ (least' : Int) < (ln : Int) := by omega
      have hmx : max (least' : Int) (ln : Int) = (least' : Int) := by omega
      clear l3 e1
      go_wp2_with fail
      exact HOUT.out _ _ _ _ _ _ _ _ _ _ _ _ _ _ _ _ _ _ _ _ _ _ _ _ _ _ _ _ _ _ _ _ _ _ _ _ _ _ _ _ _ _ _ _ _ _ _ _ _ _ _ _ _ _ _ _ _ _ _ _ _ _ _ _ _ _ _ _ _ _ g' cap' cur' σ' cnt' least' now' false q1 q2 HK2.out HKS2.out q5 q6 HS2.out L3.out
end Go.Proofs.Ytoifpbifipgpkaa
namespace Go.Proofs.Ytoifpbifipgpkaa
open Go.RowKit Go.MapKept
def LifePost (w : World) (p s B : Nat) (e : Ending) (w' : World) : Prop :=
  ∃ (g cap : Nat) (cur : Array Value) (σ : Nat → Nat → Nat) (cnt least : Nat) (now : Nat → Nat) (dead : Bool), e = .returned (.tuple #[.slice (some ⟨g, 0, none⟩) (cnt + 1) cap, .int .i64 least]) ∧ cnt ≤ 60 ∧ least ≤ cnt ∧ (∀ j q, σ j q ≤ 256) ∧ SRow σ cnt cap cur ∧ w.heap.size ≤ g ∧ LfAt w [gRow g cur] p s (B + 200000) σ cnt least now dead w'
set_option maxRecDepth 1000000 in
set_option maxHeartbeats 16000000 in
theorem life_calls (w wr : World) (p s B : Nat) (F0 : Nat → Nat) (ad : Option Addr) (len lcap : Nat) (os : Nat → OpW) (fuse : Int) (hz : OpsAt w ad len os) (hA : LfAt w [] p s B (fun _ => F0) 0 0 F0 false wr) (hB : B ≤ 500000) (hf : -9223372036854775808 ≤ fuse ∧ fuse ≤ 9223372036854775807) (hF : ∀ q, F0 q ≤ 256) :
    Calls Try.prog 28 #[.pointer (some ⟨p, 0, none⟩), .pointer (some ⟨s, 0, none⟩), .agg (arrK F0), .slice ad len lcap, .int .i64 fuse] wr (LifePost w p s B) := by
  have HZ := Lib.hid hz; have HA := Lib.hid hA; have HFK := Lib.hid hF
  have hlen := hz.1
  have hszw := hA.fr.size
  have hbox := heap_alloc_new wr (.cells (arrK F0) 49)
  have hfa : Fr [] wr (wr.alloc (.cells (arrK F0) 49)) := (Fr.refl [] wr).alloc _
  clear hz hA hF
  go_enter Try.func28, Try.ntmps28
  go_wp2_with (first
    | ((with_reducible_and_instances refine id (α := wpList _ _ _ (⟨some 7, .box 49 (.tmp 2), _, _, _, _⟩ :: _) _ _) ?_); refine wL_box rfl 49 (.tmp 2) rfl (arrK F0) rfl ?_)
    | fail)
  obtain ⟨A0, hA0⟩ : ∃ A0, wr.heap.size = A0 := ⟨_, rfl⟩
  have HA1 := Lib.hid (HA.out.regard hfa (by simp) [kRow A0 F0] (fun y hy => by
    simp at hy; subst hy
    exact ⟨by rw [← hA0]; exact hbox, .inl (by simp [kRow]; omega)⟩))
  rw [hA0]
  generalize wr.alloc (.cells (arrK F0) 49) = w1 at *
  clear hbox hfa HA
  have HF := Lib.hid (lf_fuse HA1.out fuse hf)
  go_wp2_with fail
  refine HF.out.mono ?_
  rintro e w2 ⟨rfl, hA2⟩
  have hra := hA2.keep (kRow A0 F0) (by simp)
  have HR := Lib.hid (arrK_range hra)
  have HA2 := Lib.hid hA2
  have hsz := arrK_size F0
  have hszw2 := hA2.fr.size
  have hla0 : A0 < w2.heap.size := lt_of_heap hra
  clear hA2 hra HF
  go_upto_region 3 with (first
    | ((with_reducible_and_instances refine id (α := wpList _ _ _ (⟨some 23, .load 49 _, _, _, _, _⟩ :: _) _ _) ?_); refine wL_loadMid rfl 49 _ rfl A0 0 rfl (arrK F0).toList HR.out 16 3 Try.underlying49 (by simp [Try.size16, arrK_size]) ?_; rw [Array.toArray_toList])
    | fail)
  rw [foldK16]
  obtain ⟨g0, hg0⟩ : ∃ g0, w2.heap.size = g0 := ⟨_, rfl⟩
  have hst0 := heap_alloc_new w2 (.cells (arrK F0) 49)
  have hf0 : Fr [] w2 (w2.alloc (.cells (arrK F0) 49)) := (Fr.refl [] w2).alloc _
  have hs0 : (w2.alloc (.cells (arrK F0) 49)).heap.size = g0 + 1 := by rw [← hg0]; simp
  rw [hg0] at hst0 ⊢
  generalize w2.alloc (.cells (arrK F0) 49) = w3 at *
  have HA3 := Lib.hid (HA2.out.regard hf0 (by simp) [gRow g0 (arrK F0), kRow A0 F0] (fun y hy => by
    rcases List.mem_cons.1 hy with rfl | hy
    · exact ⟨hst0, .inl (by simp [gRow]; omega)⟩
    · exact ⟨hf0.keep (HA2.out.keep y hy) (by simp), .inr ⟨y, hy, rfl⟩⟩))
  have HR3 := Lib.hid (arrK_range (HA3.out.keep (kRow A0 F0) (by simp)))
  clear hst0 hf0 HA2 HR
  go_upto_region 4 with (first
    | ((with_reducible_and_instances refine id (α := wpList _ _ _ (⟨some 25, .load 49 _, _, _, _, _⟩ :: _) _ _) ?_); refine wL_loadMid rfl 49 _ rfl A0 0 rfl (arrK F0).toList HR3.out 16 3 Try.underlying49 (by simp [Try.size16, arrK_size]) ?_; rw [Array.toArray_toList])
    | ((with_reducible_and_instances refine id (α := wpList _ _ _ (⟨some 13, .alloc 49, _, _, _, _⟩ :: _) _ _) ?_); refine wL_allocW rfl 49 rfl _ zeroK ?_)
    | ((with_reducible_and_instances refine id (α := wpList _ _ _ (⟨none, .store 49 _ _, _, _, _, _⟩ :: _) _ _) ?_); refine wL_storeNew rfl 49 _ _ rfl _ _ rfl ?c0 (arrK F0) rfl _ ?c1 ?c2 ?c3 ?_)
    | fail)
  case c0 => rfl
  case c1 => simp [Try.size16, arrK_size]
  case c2 => rw [arrK_size]; rfl
  case c3 => exact arrK_one _
  obtain ⟨A, hAe⟩ : ∃ A, w3.heap.size = A := ⟨_, rfl⟩
  have hstA := heap_alloc_new w3 (.cells (arrK F0) 49)
  have hfA : Fr [] w3 (w3.alloc (.cells (arrK F0) 49)) := (Fr.refl [] w3).alloc _
  rw [hAe] at hstA ⊢
  generalize w3.alloc (.cells (arrK F0) 49) = w4 at *
  have HA4 := Lib.hid (HA3.out.regard hfA (by simp) [gRow g0 (arrK F0), kRow A F0] (fun y hy => by
    rcases List.mem_cons.1 hy with rfl | hy
    · exact ⟨hfA.keep (HA3.out.keep _ (by simp)) (by simp), .inr ⟨gRow g0 (arrK F0), by simp, rfl⟩⟩
    · rcases List.mem_cons.1 hy with rfl | hy
      · exact ⟨hstA, .inl (by simp [kRow]; omega)⟩
      · cases hy))
  have HS4 : Hid (SRow (fun _ => F0) 0 1 (arrK F0)) := Lib.hid ⟨by rw [arrK_size], Nat.le_refl _, by decide, by
    have h1 : (arrK F0).toList.length = 16 := by rw [Array.length_toList, arrK_size]
    rw [List.take_of_length_le (by omega)]
    simp [flatK]⟩
  have hneA : A ≠ g0 := by omega
  have hgwA : w.heap.size ≤ g0 ∧ w.heap.size ≤ A := by omega
  clear hstA hfA HA3 HR3
  go_wp2_with fail
  go_loopw [12, 14, 15] (fun v12 v14 v15 wx => ∃ (i g cap : Nat) (cur : Array Value) (σ : Nat → Nat → Nat) (cnt least : Nat) (now : Nat → Nat) (dead : Bool), (i ≤ 60 ∧ i ≤ len ∧ cnt ≤ i ∧ least ≤ cnt) ∧ v12 = .slice (some ⟨g, 0, none⟩) (cnt + 1) cap ∧ v14 = .int .i64 least ∧ v15 = .int .i64 i ∧ A ≠ g ∧ w.heap.size ≤ g ∧ Hid ((∀ q, now q ≤ 256) ∧ (∀ j q, σ j q ≤ 256)) ∧ SRow σ cnt cap cur ∧ LfAt w [gRow g cur, kRow A now] p s (B + 1000 + 2000 * i) σ cnt least now dead wx) (fun _ _ v15 _ => 200 - (intOf v15).toNat)
  case atStart => exact ⟨0, g0, 1, arrK F0, fun _ => F0, 0, 0, F0, false, by omega, rfl, rfl, rfl, hneA, hgwA.1, Lib.hid ⟨HFK.out, fun _ => HFK.out⟩, HS4.out, HA4.out.more (by omega)⟩
  case round =>
    clear HA4 HS4
    rename World => wx
    obtain ⟨i, g, cap, cur, σ, cnt, least, now, dead, ⟨hi60, hilen, hcnt, hleast⟩, rfl, rfl, rfl, hne, hgw, HKK, hS, hL⟩ := hrel
    have hw1 : IntKind.i64.wrap ((i : Int) + 1) = (i : Int) + 1 := IntWalk.i64_in _ (by omega)
    have HL := Lib.hid hL; have HS := Lib.hid hS
    have HDD := Lib.hid (lf_dead hL)
    have HEND : Hid (LfAt w [gRow g cur] p s (B + 200000) σ cnt least now dead wx) := Lib.hid ((hL.regard (Fr.refl [] wx) (by simp) [gRow g cur] (fun y hy => ⟨hL.keep y (by simp at hy; simp [hy]), .inr ⟨y, by simp at hy; simp [hy], rfl⟩⟩)).more (by omega))
    by_cases hl1 : i < len
    · have g1 : (i : Int) < (len : Int) := by omega
      by_cases hl2 : i < 60
      · have g2 : (i : Int) < 60 := by omega
        have g3 : (0 : Int) ≤ (i : Int) := by omega
        cases dead with
        | true =>
          clear hL hS
          go_wp2_with fail
          refine HDD.out.mono ?_
          rintro e w5 ⟨rfl, rfl⟩
          go_wp2_with fail
          go_ret2
          exact ⟨g, cap, cur, σ, cnt, least, now, true, rfl, by omega, hleast, HKK.out.2, HS.out, hgw, HEND.out⟩
        | false =>
          obtain ⟨b0, off, rfl, hcz⟩ := (HZ.out.keep hL.fr).2 (by omega)
          have HV := Lib.hid (hcz i hl1)
          clear hcz hL hS
          go_wp2_with fail
          refine HDD.out.mono ?_
          rintro e w5 ⟨rfl, rfl⟩
          go_upto_block 1 with fail
          refine rdL w wx p s A g cap (B + 1000 + 2000 * i) cur σ cnt least now i (os i) b0 off len lcap hl1 hlen hne ⟨hgw, hgwA.2⟩ (by omega) (by omega) hleast HKK.out.1 HKK.out.2 HS.out HV.out HL.out ?_
          intro _ _ _ _ _ _ _ _ _ _ _ _ _ _ _ _ _ _ _ _ _ _ _ _ _ _ _ _ _ _ _ _ _ _ _ _ _ _ _ _ _ _ _ _ _ _ _ _ _ _ _ _ _ _ _ _ _ _ _ _ _ _ _ _ _ _ _ _ _ w6 g' cap' cur' σ' cnt' least' now' dead' q1 q2 q3 q4 q5 q6 hS2 hW
          have HW := Lib.hid hW; have HS2 := Lib.hid hS2; have HK2 := Lib.hid (And.intro q3 q4)
          clear hW hS2 q3 q4 HL HS HEND HDD HV HKK
          go_wp2_with fail
          go_roundw
          case rel => exact ⟨i + 1, g', cap', cur', σ', cnt', least', now', dead', by omega, rfl, rfl, by go_num, q5, q6, HK2, HS2.out, HW.out.more (by omega)⟩
          case measure => simp [intOf]; omega
      · have g2 : ¬ (i : Int) < 60 := by omega
        clear hL hS
        go_wp2_with fail
        go_ret2
        exact ⟨g, cap, cur, σ, cnt, least, now, dead, rfl, by omega, hleast, HKK.out.2, HS.out, hgw, HEND.out⟩
    · have g1 : ¬ (i : Int) < (len : Int) := by omega
      clear hL hS
      go_wp2_with fail
      go_ret2
      exact ⟨g, cap, cur, σ, cnt, least, now, dead, rfl, by omega, hleast, HKK.out.2, HS.out, hgw, HEND.out⟩
end Go.Proofs.Ytoifpbifipgpkaa
namespace Go.Proofs.Ytoifpbifipgpkaa
open Go.RowKit Go.MapKept
theorem DsAt.more {w wr : World} {G : List (Nat × Obj)} {p B B' : Nat} {P : Dv → Prop} (h : DsAt w G p B P wr) (hB : B ≤ B') : DsAt w G p B' P wr := by
  obtain ⟨l, m, b, v, h1, h2, h3, h4, h5⟩ := h.ex
  exact ⟨⟨l, m, b, v, h1, h2, h3, h4, by omega⟩, h.keep, h.fr⟩
theorem SRow.cell {σ : Nat → Nat → Nat} {cnt cap : Nat} {cur : Array Value} (h : SRow σ cnt cap cur) {w : World} {g : Nat} (hb : w.heap[g]? = some (.cells cur 49 (0, 0))) {j q : Nat} (hj : j ≤ cnt) (hq : q < 16) : w.cell? ⟨g, j * 16 + q, none⟩ = some (.int .i64 (σ j q : Int)) := by
  rw [box_cell hb]
  have h1 := flatK_get σ (cnt + 1) j q (by omega) hq
  rw [← h.row, List.getElem?_take_of_lt (by omega)] at h1
  simpa using h1
def RisenPost (w : World) (G : List (Nat × Obj)) (σ : Nat → Nat → Nat) (cnt least : Nat) (e : Ending) (w' : World) : Prop :=
  ∃ p' s' i : Nat, e = .returned (.tuple #[.pointer (some ⟨p', 0, none⟩), .pointer (some ⟨s', 0, none⟩), .int .i64 i]) ∧ least ≤ i ∧ i ≤ cnt ∧ LfAt w G p' s' 20000 (fun _ => σ i) 0 0 (σ i) false w'
set_option maxRecDepth 1000000 in
set_option maxHeartbeats 16000000 in
theorem risen_calls (w wr : World) (p s B g cap n : Nat) (cur : Array Value) (σ : Nat → Nat → Nat) (cnt least : Nat) (now : Nat → Nat) (dead flip : Bool) (ad : Option Addr) (len lcap : Nat) (zs : List Int) (hz : IntsAt w ad len zs) (hlm : len ≤ 9223372036854775807) (hlow : 0 < len → ∀ a, ad = some a → a.block < w.heap.size)
    (ad2 : Option Addr) (len2 lcap2 : Nat) (zs2 : List Int) (hz2 : IntsAt w ad2 len2 zs2) (hlm2 : len2 ≤ 9223372036854775807) (h64 : ∀ i, i < len2 → -9223372036854775808 ≤ zs2.getD i 0 ∧ zs2.getD i 0 ≤ 9223372036854775807)
    (hn : n = cnt + 1) (hcnt : cnt ≤ 60) (hleast : least ≤ cnt) (hks : ∀ j q, σ j q ≤ 256) (hS : SRow σ cnt cap cur) (hB : B ≤ 2000000) (hA : LfAt w [gRow g cur] p s B σ cnt least now dead wr) :
    Calls Try.prog 29 #[.pointer (some ⟨p, 0, none⟩), .bool flip, .slice ad len lcap, .slice ad2 len2 lcap2, .slice (some ⟨g, 0, none⟩) n cap, .int .i64 least] wr (RisenPost w [gRow g cur] σ cnt least) := by
  have HZ := Lib.hid hz; have HZ2 := Lib.hid hz2; have HLOW := Lib.hid hlow; have H64 := Lib.hid h64; have HKS := Lib.hid hks; have HS := Lib.hid hS
  have HC := Lib.hid (ds_crash hA.dev flip ad len lcap zs (hz.keep hA.fr) hlm hlow)
  clear hz hz2 hlow h64 hks hS hA
  go_enter Try.func29, Try.ntmps29
  go_wp2_with fail
  refine HC.out.mono ?_
  rintro e w1 ⟨rfl, hD⟩
  have HD := Lib.hid hD
  clear hD HC
  go_wp2_with fail
  go_loopw [15] (fun v15 wx => ∃ i : Nat, (i ≤ 4 ∧ i ≤ len2) ∧ v15 = .int .i64 i ∧ DsAt w [gRow g cur] p (B + 3000 * i) (Rec1 σ cnt least (-1)) wx) (fun v15 _ => 20 - (intOf v15).toNat)
  case atStart => exact ⟨0, by omega, rfl, HD.out.more (by omega)⟩
  case round =>
    clear HD
    rename World => wx
    obtain ⟨i, ⟨hi4, hil⟩, rfl, hD⟩ := hrel
    have hw1 : IntKind.i64.wrap ((i : Int) + 1) = (i : Int) + 1 := IntWalk.i64_in _ (by omega)
    by_cases hl : i < len2 ∧ i < 4
    · obtain ⟨hl1, hl2⟩ := hl
      have g1 : (i : Int) < (len2 : Int) := by omega
      have g2 : (i : Int) < 4 := by omega
      have g3 : (0 : Int) ≤ (i : Int) := by omega
      obtain ⟨b0, off, rfl, hcz⟩ := (HZ2.out.keep hD.fr).2 (by omega)
      have hcc := hcz i hl1
      have HFU := Lib.hid (ds_fuse hD (zs2.getD i 0) (H64.out i hl1))
      clear hcz hD
      go_wp2_with fail
      refine HFU.out.mono ?_
      rintro e w2 ⟨rfl, hD2⟩
      have HO := Lib.hid (ds_open (f := zs2.getD i 0) (hD2.imp (fun v hv => by
        obtain ⟨h1, f, q1, q2, q3, q4⟩ := hv
        exact ⟨q1, h1, q3, q4⟩)) (by omega))
      clear hD2 HFU
      go_wp2_with fail
      refine HO.out.mono ?_
      rintro e w3 ⟨⟨x, y, rfl⟩, hD3⟩
      have HCR := Lib.hid (ds_crash hD3 flip ad len lcap zs (HZ.out.keep hD3.fr) hlm HLOW.out)
      clear hD3 HO
      go_wp2_with fail
      refine HCR.out.mono ?_
      rintro e w4 ⟨rfl, hD4⟩
      have HD4 := Lib.hid hD4
      clear hD4 HCR
      go_wp2_with fail
      go_roundw
      case rel => exact ⟨i + 1, by omega, by go_num, HD4.out.more (by omega)⟩
      case measure => simp [intOf]; omega
    · have HCA := Lib.hid (ds_carried hD (by omega))
      clear hD
      have hx : ¬ (i : Int) < (len2 : Int) ∨ ((i : Int) < (len2 : Int) ∧ ¬ (i : Int) < 4) := by omega
      rcases hx with g1 | ⟨g1, g2⟩
      all_goals
        go_wp2_with fail
        refine HCA.out.mono ?_
        rintro e w2 ⟨p', rfl, hD2⟩
        have HO2 := Lib.hid (ds_open2 hD2 (by omega))
        clear hD2 HCA
        go_wp2_with fail
        refine HO2.out.mono ?_
        rintro e w3 ⟨s1, j, rfl, hj1, hj2, hL⟩
        have HL := Lib.hid hL
        clear hL HO2
        go_wp2_with fail
        go_loopw [19] (fun v19 wy => ∃ k : Nat, (least ≤ k ∧ k ≤ j) ∧ v19 = .int .i64 k ∧ LfAt w [gRow g cur] p' s1 (12000 + 16 * k) (fun _ => σ j) 0 0 (σ j) false wy) (fun v19 _ => 200 - (intOf v19).toNat)
        case atStart => exact ⟨least, by omega, rfl, HL.out.more (by omega)⟩
        case round =>
          clear HL
          rename World => wy
          obtain ⟨k, ⟨hk1, hk2⟩, rfl, hL⟩ := hrel
          have hw2 : IntKind.i64.wrap ((k : Int) + 1) = (k : Int) + 1 := IntWalk.i64_in _ (by omega)
          have g4 : (k : Int) < (n : Int) := by omega
          have g5 : (0 : Int) ≤ (k : Int) := by omega
          have g6 : ((k : Int)).toNat = k := by omega
          have HR := Lib.hid (HS.out.range (hL.keep (gRow g cur) (by simp)) (j := k) (by omega))
          have HT := Lib.hid (lf_tells (F := σ k) hL (by omega) (fun q _ => by have := HKS.out k q; omega))
          clear hL
          go_wp2_with (first
            | ((with_reducible_and_instances refine id (α := wpList _ _ _ (⟨some 74, .load 49 _, _, _, _, _⟩ :: _) _ _) ?_); refine wL_loadMid rfl 49 _ rfl g (k * 16) (by first | rfl | simp) (arrK (σ k)).toList HR.out 16 3 Try.underlying49 (by simp [Try.size16, arrK_size]) ?_; rw [Array.toArray_toList])
            | fail)
          refine HT.out.mono ?_
          rintro e w4 ⟨r, rfl, hr, hL⟩
          clear HT HR
          cases r with
          | false =>
            have hne : k ≠ j := fun e => by
              have := hr.2 (fun q _ => by rw [e])
              exact absurd this (by simp)
            have HL := Lib.hid hL
            clear hL hr
            go_wp2_with fail
            go_roundw
            case rel => exact ⟨k + 1, by omega, by go_num, HL.out.more (by omega)⟩
            case measure => simp [intOf]; omega
          | true =>
            have HKQ := Lib.hid (hr.1 rfl)
            have HRO := Lib.hid (lf_reopen (F := σ j) hL (by omega))
            clear hL hr
            go_wp2_with fail
            refine HRO.out.mono ?_
            rintro e w5 ⟨s2, rfl, hL⟩
            have hcell : ∀ q, q < 16 → w5.cell? ⟨g, k * 16 + q, none⟩ = some (.int .i64 (σ k q : Int)) := fun q hq => HS.out.cell (hL.keep (gRow g cur) (by simp)) (by omega) hq
            have d0 : w5.cell? ⟨g, k * 16, none⟩ = some (.int .i64 (σ k 0 : Int)) := hcell 0 (by omega)
            have d1 : w5.cell? ⟨g, k * 16 + 1, none⟩ = some (.int .i64 (σ k 1 : Int)) := hcell 1 (by omega)
            have d2 : w5.cell? ⟨g, k * 16 + 2, none⟩ = some (.int .i64 (σ k 2 : Int)) := hcell 2 (by omega)
            have d3 : w5.cell? ⟨g, k * 16 + 3, none⟩ = some (.int .i64 (σ k 3 : Int)) := hcell 3 (by omega)
            have d4 : w5.cell? ⟨g, k * 16 + 4, none⟩ = some (.int .i64 (σ k 4 : Int)) := hcell 4 (by omega)
            have d5 : w5.cell? ⟨g, k * 16 + 5, none⟩ = some (.int .i64 (σ k 5 : Int)) := hcell 5 (by omega)
            have d6 : w5.cell? ⟨g, k * 16 + 6, none⟩ = some (.int .i64 (σ k 6 : Int)) := hcell 6 (by omega)
            have d7 : w5.cell? ⟨g, k * 16 + 7, none⟩ = some (.int .i64 (σ k 7 : Int)) := hcell 7 (by omega)
            have d8 : w5.cell? ⟨g, k * 16 + 8, none⟩ = some (.int .i64 (σ k 8 : Int)) := hcell 8 (by omega)
            have d9 : w5.cell? ⟨g, k * 16 + 9, none⟩ = some (.int .i64 (σ k 9 : Int)) := hcell 9 (by omega)
            have d10 : w5.cell? ⟨g, k * 16 + 10, none⟩ = some (.int .i64 (σ k 10 : Int)) := hcell 10 (by omega)
            have d11 : w5.cell? ⟨g, k * 16 + 11, none⟩ = some (.int .i64 (σ k 11 : Int)) := hcell 11 (by omega)
            have d12 : w5.cell? ⟨g, k * 16 + 12, none⟩ = some (.int .i64 (σ k 12 : Int)) := hcell 12 (by omega)
            have d13 : w5.cell? ⟨g, k * 16 + 13, none⟩ = some (.int .i64 (σ k 13 : Int)) := hcell 13 (by omega)
            have d14 : w5.cell? ⟨g, k * 16 + 14, none⟩ = some (.int .i64 (σ k 14 : Int)) := hcell 14 (by omega)
            have d15 : w5.cell? ⟨g, k * 16 + 15, none⟩ = some (.int .i64 (σ k 15 : Int)) := hcell 15 (by omega)
            have ht := lf_tells (F := σ k) hL (by omega) (fun q _ => by have := HKS.out k q; omega)
            rw [arrK_lit] at ht
            have HT := Lib.hid ht
            clear ht hcell hL HRO
            go_wp2_with fail
            refine HT.out.mono ?_
            rintro e w6 ⟨r, rfl, hr, hL⟩
            obtain rfl : r = true := hr.2 HKQ.out
            have HL := Lib.hid hL
            clear hL hr HT
            go_wp2_with fail
            go_ret3
            exact ⟨p', s2, k, rfl, hk1, by omega, (HL.out.turn HKQ.out).more (by omega)⟩
end Go.Proofs.Ytoifpbifipgpkaa
namespace Go.Proofs.Ytoifpbifipgpkaa
open Go.RowKit Go.MapKept
theorem RdI.ints {w : World} {ad : Option Addr} {cap : Nat} {zs : List Int} (hz : RdI w ad cap zs) : IntsAt w ad zs.length zs := ⟨Nat.le_refl _, fun h0 => by
    cases had : ad with
    | none => have := hz.nil had; omega
    | some a =>
      obtain ⟨b0, off, rfl, hc⟩ := hz.at_ a had h0
      exact ⟨b0, off, rfl, hc⟩⟩
theorem RdI.low {w : World} {ad : Option Addr} {cap : Nat} {zs : List Int} (hz : RdI w ad cap zs) : 0 < zs.length → ∀ a, ad = some a → a.block < w.heap.size := fun h0 a ha => by
  obtain ⟨b0, off, rfl, hc⟩ := hz.at_ a ha h0
  exact World.block_lt_of_cell? _ _ (hc 0 h0)
set_option maxRecDepth 1000000 in
set_option maxHeartbeats 16000000 in
theorem wlasts_calls (w : World) (ad : Option Addr) (len cap : Nat) (os : Nat → OpW) (hz : OpsAt w ad len os) (fuse : Int) (hf : -9223372036854775808 ≤ fuse ∧ fuse ≤ 9223372036854775807) (flip : Bool) (a3 : Option Addr) (c3 : Nat) (z3 : List Int) (h3 : RdI w a3 c3 z3) (a4 : Option Addr) (c4 : Nat) (z4 : List Int) (h4 : RdI w a4 c4 z4) (r4 : ∀ i, i < z4.length → -9223372036854775808 ≤ z4.getD i 0 ∧ z4.getD i 0 ≤ 9223372036854775807) :
    Calls Try.prog 6 #[.slice ad len cap, .int .i64 fuse, .bool flip, .slice a3 z3.length c3, .slice a4 z4.length c4] w fun e w' => e = .returned (.bool true) ∧ Fr [] w w' := by
  have HZ := Lib.hid hz; have HR4 := Lib.hid r4
  have HO := Lib.hid (lopen_calls w 340 (by omega) (by omega))
  have HI3 := Lib.hid h3.ints; have HL3 := Lib.hid h3.low; have HI4 := Lib.hid h4.ints
  have hm3 : z3.length ≤ 9223372036854775807 := by have := h3.le; have := h3.cb; omega
  have hm4 : z4.length ≤ 9223372036854775807 := by have := h4.le; have := h4.cb; omega
  obtain ⟨n3, hn3⟩ : ∃ n, z3.length = n := ⟨_, rfl⟩
  obtain ⟨n4, hn4⟩ : ∃ n, z4.length = n := ⟨_, rfl⟩
  rw [hn3] at HI3 HL3 hm3 ⊢
  rw [hn4] at HI4 HR4 hm4 ⊢
  clear hz h3 h4 r4 hn3 hn4
  go_enter Try.func6, Try.ntmps6
  go_wp2_with fail
  refine HO.out.mono ?_
  rintro e w1 ⟨p, l, m, s, bs, c, rfl, hf1, hbs, hst⟩
  have hcalm : CalmSt 340 (v0 c) (stK fun _ => 0) := ⟨rfl, rfl, numAt_zeros, fun i _ => by unfold stK; split <;> rfl⟩
  have hl1 : LfAt w [] p s 1 (fun _ => fun _ => 0) 0 0 (fun _ => 0) false w1 := by
    obtain ⟨bs2, htr, hst2⟩ := hst.trim
    exact ⟨⟨bs2, l, m, _, _, hst2, fun _ => ⟨rfl, rfl, ⟨0, Nat.le_refl _, Nat.le_refl _, by simp [Sv.new], hcalm, fun i _ => rfl⟩, by simp [Sv.new], fun i _ => rfl, fun i hi => (by cases hi), fun hne => absurd rfl hne⟩, fun h => (by cases h), fun x hx => ⟨(hbs x (htr x hx).1).1, (htr x hx).2⟩, by simp, by omega⟩, by simp, hf1⟩
  have HLI := Lib.hid (life_calls w w1 p s 1 (fun _ => 0) ad len cap os fuse HZ.out hl1 (by omega) hf (by simp))
  clear hcalm hl1 hst hbs hf1 HO
  go_wp2_with fail
  have hlit : (#[.int .i64 0, .int .i64 0, .int .i64 0, .int .i64 0, .int .i64 0, .int .i64 0, .int .i64 0, .int .i64 0, .int .i64 0, .int .i64 0, .int .i64 0, .int .i64 0, .int .i64 0, .int .i64 0, .int .i64 0, .int .i64 0] : Array Value) = arrK (fun _ => 0) := rfl
  rw [hlit]
  refine HLI.out.mono ?_
  rintro e w2 ⟨g, gcap, cur, σ, cnt, least, now, dead, rfl, hcnt, hleast, hks, hS, hg, hL⟩
  obtain ⟨n, hn⟩ : ∃ n, cnt + 1 = n := ⟨_, rfl⟩
  have HRI := Lib.hid (risen_calls w w2 p s (1 + 200000) g gcap n cur σ cnt least now dead flip a3 n3 c3 z3 HI3.out hm3 HL3.out a4 n4 c4 z4 HI4.out hm4 HR4.out hn.symm hcnt hleast hks hS (by omega) hL)
  have HS := Lib.hid hS; have HKS := Lib.hid hks
  rw [hn]
  clear hL hS hks HLI hlit
  go_wp2_with fail
  refine HRI.out.mono ?_
  rintro e w3 ⟨p', s', i, rfl, hi1, hi2, hL⟩
  have HR := Lib.hid (HS.out.range (hL.keep (gRow g cur) (by simp)) (j := i) (by omega))
  have HLA : Hid (LfAt w [] p' s' 20000 (fun _ => σ i) 0 0 (σ i) false w3) := Lib.hid (hL.regard (Fr.refl [] w3) (by simp) [] (by simp))
  have g1 : ¬ (i : Int) < 0 := by omega
  have g2 : (i : Int) < (n : Int) := by omega
  have g3 : (0 : Int) ≤ (i : Int) := by omega
  have g4 : ((i : Int)).toNat = i := by omega
  have TAIL : Hid (∀ (fz : Int) (W : World), (-9223372036854775808 ≤ fz ∧ fz ≤ 9223372036854775807) → LfAt w [] p' s' 20000 (fun _ => σ i) 0 0 (σ i) false W → Calls Try.prog 28 #[.pointer (some ⟨p', 0, none⟩), .pointer (some ⟨s', 0, none⟩), .agg (arrK (σ i)), .slice ad len cap, .int .i64 fz] W (LifePost w p' s' 20000)) :=
    Lib.hid (fun fz W hfz hW => life_calls w W p' s' 20000 (σ i) ad len cap os fz HZ.out hW (by omega) hfz (HKS.out i))
  have hsplit : n4 = 0 ∨ 0 < n4 := by omega
  have hfr3 := hL.fr
  clear hL HRI
  rcases hsplit with h0 | h0
  · subst h0
    have HT := Lib.hid (TAIL.out fuse w3 hf HLA.out)
    clear hfr3
    go_wp2_with (first
      | ((with_reducible_and_instances refine id (α := wpList _ _ _ (⟨some 61, .load 49 _, _, _, _, _⟩ :: _) _ _) ?_); refine wL_loadMid rfl 49 _ rfl g (i * 16) (by first | rfl | simp) (arrK (σ i)).toList HR.out 16 3 Try.underlying49 (by simp [Try.size16, arrK_size]) ?_; rw [Array.toArray_toList])
      | fail)
    refine HT.out.mono ?_
    rintro e w4 ⟨g', gcap', cur', σ', cnt', least', now', dead', rfl, hcnt', hleast', hks', hS', hg', hL'⟩
    obtain ⟨n', hn'⟩ : ∃ n', cnt' + 1 = n' := ⟨_, rfl⟩
    have HRI := Lib.hid (risen_calls w w4 p' s' (20000 + 200000) g' gcap' n' cur' σ' cnt' least' now' dead' (!flip) a3 n3 c3 z3 HI3.out hm3 HL3.out a4 0 c4 z4 HI4.out hm4 HR4.out hn'.symm hcnt' hleast' hks' hS' (by omega) hL')
    rw [hn']
    clear hL' hS' hks' HT HR HLA TAIL
    go_wp2_with fail
    refine HRI.out.mono ?_
    rintro e w5 ⟨p2, s2, i2, rfl, _, _, hL2⟩
    have hfr2 := hL2.fr
    have q1 : (0 : Int) ≤ (i2 : Int) := by omega
    clear hL2 HRI
    go_wp2_with fail
    refine (awake_calls _).mono ?_
    rintro e w6 ⟨rfl, hf6⟩
    have hfin := hfr2.trans hf6
    go_wp2_with fail
    go_ret
    exact ⟨rfl, hfin⟩
  · obtain ⟨b0, off, rfl, hcz⟩ := (HI4.out.keep hfr3).2 h0
    have hc0 : w3.cell? ⟨b0, off, none⟩ = some (.int .i64 (z4.getD 0 0)) := hcz 0 h0
    have k0 : (0 : Int) < (n4 : Int) := by omega
    obtain ⟨fz, hfz⟩ : ∃ fz, z4.getD 0 0 = fz := ⟨_, rfl⟩
    have hr0 := HR4.out 0 h0
    rw [hfz] at hc0 hr0
    have HT := Lib.hid (TAIL.out fz w3 hr0 HLA.out)
    clear hcz hfr3 hr0
    go_wp2_with (first
      | ((with_reducible_and_instances refine id (α := wpList _ _ _ (⟨some 61, .load 49 _, _, _, _, _⟩ :: _) _ _) ?_); refine wL_loadMid rfl 49 _ rfl g (i * 16) (by first | rfl | simp) (arrK (σ i)).toList HR.out 16 3 Try.underlying49 (by simp [Try.size16, arrK_size]) ?_; rw [Array.toArray_toList])
      | fail)
    refine HT.out.mono ?_
    rintro e w4 ⟨g', gcap', cur', σ', cnt', least', now', dead', rfl, hcnt', hleast', hks', hS', hg', hL'⟩
    obtain ⟨n', hn'⟩ : ∃ n', cnt' + 1 = n' := ⟨_, rfl⟩
    have HRI := Lib.hid (risen_calls w w4 p' s' (20000 + 200000) g' gcap' n' cur' σ' cnt' least' now' dead' (!flip) a3 n3 c3 z3 HI3.out hm3 HL3.out (some ⟨b0, off, none⟩) n4 c4 z4 HI4.out hm4 HR4.out hn'.symm hcnt' hleast' hks' hS' (by omega) hL')
    rw [hn']
    clear hL' hS' hks' HT HR HLA TAIL
    go_wp2_with fail
    refine HRI.out.mono ?_
    rintro e w5 ⟨p2, s2, i2, rfl, _, _, hL2⟩
    have hfr2 := hL2.fr
    have q1 : (0 : Int) ≤ (i2 : Int) := by omega
    clear hL2 HRI
    go_wp2_with fail
    refine (awake_calls _).mono ?_
    rintro e w6 ⟨rfl, hf6⟩
    have hfin := hfr2.trans hf6
    go_wp2_with fail
    go_ret
    exact ⟨rfl, hfin⟩
end Go.Proofs.Ytoifpbifipgpkaa
