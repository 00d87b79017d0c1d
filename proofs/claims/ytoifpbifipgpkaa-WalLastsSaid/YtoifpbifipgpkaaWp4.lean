/-
  wal: WalPlays: a round's call.
-/
import Derived.Test.YtoifpbifipgpkaaWp3
import Derived.Test.YtoifpbifipgpkaaWpRow
import Derived.Test.YtoifpbifipgpkaaMask
import Derived.Deep.CutBlock
namespace Go.Proofs.Ytoifpbifipgpkaa
open Go.RowKit Go.MapKept
/-- The call, copied. -/
def oObj (kind vi va vsz : Int) (vflip : Bool) (vla : Option Addr) (vll vlc : Nat) : Obj := .cells #[.int .i64 kind, .int .i64 vi, .int .i64 va, .int .i64 vsz, .bool vflip, .slice vla vll vlc] 51 (0, 0)
/-- The two rows of the law. -/
def rowsK (A D : Nat) (now done : Nat → Nat) : List (Nat × Obj) := [(A, .cells (arrK now) 49 (0, 0)), (D, .cells (arrK done) 49 (0, 0))]
structure PwAt (w : World) (X : List (Nat × Obj)) (p s A D : Nat) (syn : Bool) (B : Nat) (now done : Nat → Nat) (all : Nat) (wr : World) : Prop where
  ws : WsAt w (X ++ rowsK A D now done) p s syn B now done all wr
  kn : ∀ j, now j ≤ 256 ∧ done j ≤ 256
  hA : w.heap.size ≤ A ∧ w.heap.size ≤ D ∧ A ≠ D
theorem Bts.heap {w w' : World} {g n : Nat} (h : Bts w g n) (he : w'.heap[g]? = w.heap[g]?) : Bts w' g n := fun j hj => by
  obtain ⟨⟨y, hy⟩, hz⟩ := h j hj
  refine ⟨⟨y, by rw [World.cell?_of_block (w := w) he]; exact hy⟩, ?_⟩
  simp only [World.frozen?] at hz ⊢
  rw [he]; exact hz
theorem setRow_sameK {w : World} {b : Nat} {cs cur : Array Value} {T : TypeId} {fr : Nat × Nat} (h : w.heap[b]? = some (.cells cur T fr)) : (w.setRow b cs).heap[b]? = some (.cells cs T fr) := setRow_heap _ _ _ _ _ _ h
theorem arrK_far {F : Nat → Nat} {i k : Nat} (h : 16 ≤ i) : arrK (fun j => if j = i then k else F j) = arrK F := by
  apply Array.ext_getElem?
  intro q
  by_cases hq : q < 16
  · rw [arrK_get _ hq, arrK_get _ hq, if_neg (by omega)]
  · simp [arrK, hq]
section
variable {w wr W : World} {X : List (Nat × Obj)} {p s A D : Nat} {syn : Bool} {B : Nat} {now done now' done' n0 d0 : Nat → Nat} {all : Nat}
theorem ws_rowA (h : WsAt w (X ++ rowsK A D n0 d0) p s syn B now done all wr) : wr.heap[A]? = some (.cells (arrK n0) 49 (0, 0)) := h.keep (A, .cells (arrK n0) 49 (0, 0)) (by simp [rowsK])
theorem ws_rowD (h : WsAt w (X ++ rowsK A D n0 d0) p s syn B now done all wr) : wr.heap[D]? = some (.cells (arrK d0) 49 (0, 0)) := h.keep (D, .cells (arrK d0) 49 (0, 0)) (by simp [rowsK])
/-- The rows turn, or what else there is. -/
theorem ws_rows (h : WsAt w (X ++ rowsK A D n0 d0) p s syn B now done all wr) (hA : w.heap.size ≤ A ∧ w.heap.size ≤ D ∧ A ≠ D) {r : List Nat} (hr : ∀ x ∈ r, x = A ∨ x = D ∨ (w.heap.size ≤ x ∧ ∃ y ∈ X, y.1 = x)) (hf : Fr r wr W) (X' : List (Nat × Obj)) (hX : ∀ y ∈ X', y ∈ X ∧ y.1 ∉ r) (h1 : W.heap[A]? = some (.cells (arrK now') 49 (0, 0))) (h2 : W.heap[D]? = some (.cells (arrK done') 49 (0, 0))) :
    WsAt w (X' ++ rowsK A D now' done') p s syn B now done all W := by
  refine h.regard hf (fun x hx => .inr ?_) _ (fun y hy => ?_)
  · rcases hr x hx with rfl | rfl | ⟨hx1, y, hy, rfl⟩
    · exact ⟨(x, .cells (arrK n0) 49 (0, 0)), by simp [rowsK], rfl, hA.1⟩
    · exact ⟨(x, .cells (arrK d0) 49 (0, 0)), by simp [rowsK], rfl, hA.2.1⟩
    · exact ⟨y, List.mem_append_left _ hy, rfl, hx1⟩
  · rcases List.mem_append.1 hy with hy | hy
    · obtain ⟨hy1, hy2⟩ := hX y hy
      exact ⟨hf.keep (h.keep y (List.mem_append_left _ hy1)) hy2, .inr ⟨y, List.mem_append_left _ hy1, rfl⟩⟩
    · simp only [rowsK, List.mem_cons, List.not_mem_nil, or_false] at hy
      rcases hy with rfl | rfl
      · exact ⟨h1, .inr ⟨(A, .cells (arrK n0) 49 (0, 0)), by simp [rowsK], rfl⟩⟩
      · exact ⟨h2, .inr ⟨(D, .cells (arrK d0) 49 (0, 0)), by simp [rowsK], rfl⟩⟩
theorem ws_new {g : Nat} (h : WsAt w (X ++ rowsK A D n0 d0) p s syn B now done all wr) (hg : wr.heap.size ≤ g) : g ≠ A ∧ g ≠ D := by
  have h1 := lt_of_heap (ws_rowA h); have h2 := lt_of_heap (ws_rowD h)
  omega
end
set_option maxRecDepth 1000000 in
set_option maxHeartbeats 16000000 in
theorem swW {s0 s1 s2 s8 s10 s11 s12 s13 s14 s15 s16 s17 s18 s19 s20 s21 s22 s23 s24 s25 s26 s27 s28 s29 s30 s31 s32 s33 s34 s35 s36 s37 s38 s39 s40 s41 s42 s43 s44 s45 s46 s47 s49 s50 s51 s52 s53 s54 s55 s56 s57 s58 s59 s60 s61 s62 s63 s64 s65 s66 s67 s68 s69 s70 s71 s72 s73 s74 s75 s76 s77 s78 s79 s80 s81 s82 s83 s84 s85 s86 s87 s88 s89 s90 s91 s92 s93 s94 s95 s96 s97 s98 s99 s100 s101 s102 s103 s104 s105 s106 s107 s108 s109 s110 s111 s112 s113 s114 s115 s116 s117 s118 s119 s120 s121 s122 s123 s124 s125 s126 s127 s128 s129 s130 s131 s132 s133 s134 s135 s136 s137 s138 s139 s140 s141 s142 s143 s144 s145 s146 s147 s148 s149 s150 s151 s152 s153 s154 s155 s156 s157 s158 s159 s160 s161 s162 s163 s164 s165 s166 s167 s168 s169 s170 s171 s172 s173 s174 s175 s176 s177 s178 s179 s180 s181 s182 s183 s184 s185 s186 s187 s188 s189 s190 s191 s192 s193 s194 s195 s196 s197 s198 s199 s200 s201 s202 s203 s204 s205 s206 s207 s208 s209 s210 s211 s212 s213 s214 s215 s216 s217 s218 s219 s220 s221 s222 s223 s224 s225 s226 s227 s228 s229 s230 s231 : Value} {Q : Exit → Act → World → Prop} (w wr : World) (p s A D O B : Nat) (now done : Nat → Nat) (all : Nat) (kind vi va vsz : Int) (vflip : Bool) (vla : Option Addr) (vll vlc : Nat) (vlz : List Int) (hOA : O ≠ A ∧ O ≠ D) (hOw : w.heap.size ≤ O) (hB : B ≤ 2000000) (hall : all < 1000)
    (hz : IntsAt w vla vll vlz) (hlm : vll ≤ 9223372036854775807) (hlow : 0 < vll → ∀ x, vla = some x → x.block < w.heap.size)
    (hP : PwAt w [(O, oObj kind vi va vsz vflip vla vll vlc)] p s A D false B now done all wr)
    (hout : ∀ (u10 u11 u12 u13 u14 u15 u16 u17 u18 u19 u20 u49 u50 u51 u52 u53 u54 u55 u56 u57 u58 u59 u60 u61 u62 u63 u64 u65 u66 u67 u68 u69 u70 u71 u72 u73 u74 u75 u76 u77 u78 u79 u80 u81 u82 u83 u84 u85 u86 u87 u88 u89 u90 u91 u92 u93 u94 u95 u96 u97 u98 u99 u100 u101 u102 u103 u104 u105 u106 u107 u108 u109 u110 u111 u112 u113 u114 u115 u116 u117 u118 u119 u120 u121 u122 u123 u124 u125 u126 u127 u128 u129 u130 u131 u132 u133 u134 u135 u136 u137 u138 u139 u140 u141 u142 u143 u144 u145 u146 u147 u148 u149 u150 u151 u152 u153 u154 u155 u156 u157 u158 u159 u160 u161 u162 u163 u164 u165 u166 u167 u168 u169 u170 u171 u172 u173 u174 u175 u176 u177 u178 u179 u180 u181 u182 u183 u184 u185 u186 u187 u188 u189 u190 u191 u192 u193 u194 u195 u196 u197 u198 u199 u200 u201 u202 u203 u204 u205 u206 u207 u208 u209 u210 u211 u212 : Value) (w' : World) (p' s' : Nat) (now' done' : Nat → Nat) (all' : Nat), all' ≤ all + 1 → PwAt w [] p' s' A D false (B + 20000) now' done' all' w' → Q .normal ⟨#[s0, s1, s2, .pointer (some ⟨p', 0, none⟩), .pointer (some ⟨s', 0, none⟩), .pointer (some ⟨A, 0, none⟩), .pointer (some ⟨D, 0, none⟩), .int .i64 (all' : Int), s8, .pointer (some ⟨O, 0, none⟩), u10, u11, u12, u13, u14, u15, u16, u17, u18, u19, u20, s21, s22, s23, s24, s25, s26, s27, s28, s29, s30, s31, s32, s33, s34, s35, s36, s37, s38, s39, s40, s41, s42, s43, s44, s45, s46, s47, .int .i64 kind, u49, u50, u51, u52, u53, u54, u55, u56, u57, u58, u59, u60, u61, u62, u63, u64, u65, u66, u67, u68, u69, u70, u71, u72, u73, u74, u75, u76, u77, u78, u79, u80, u81, u82, u83, u84, u85, u86, u87, u88, u89, u90, u91, u92, u93, u94, u95, u96, u97, u98, u99, u100, u101, u102, u103, u104, u105, u106, u107, u108, u109, u110, u111, u112, u113, u114, u115, u116, u117, u118, u119, u120, u121, u122, u123, u124, u125, u126, u127, u128, u129, u130, u131, u132, u133, u134, u135, u136, u137, u138, u139, u140, u141, u142, u143, u144, u145, u146, u147, u148, u149, u150, u151, u152, u153, u154, u155, u156, u157, u158, u159, u160, u161, u162, u163, u164, u165, u166, u167, u168, u169, u170, u171, u172, u173, u174, u175, u176, u177, u178, u179, u180, u181, u182, u183, u184, u185, u186, u187, u188, u189, u190, u191, u192, u193, u194, u195, u196, u197, u198, u199, u200, u201, u202, u203, u204, u205, u206, u207, u208, u209, u210, u211, u212, s213, s214, s215, s216, s217, s218, s219, s220, s221, s222, s223, s224, s225, s226, s227, s228, s229, s230, s231], []⟩ w') :
    (Code.block 2 (wpB 2)).wp Try.prog Q ⟨#[s0, s1, s2, .pointer (some ⟨p, 0, none⟩), .pointer (some ⟨s, 0, none⟩), .pointer (some ⟨A, 0, none⟩), .pointer (some ⟨D, 0, none⟩), .int .i64 (all : Int), s8, .pointer (some ⟨O, 0, none⟩), s10, s11, s12, s13, s14, s15, s16, s17, s18, s19, s20, s21, s22, s23, s24, s25, s26, s27, s28, s29, s30, s31, s32, s33, s34, s35, s36, s37, s38, s39, s40, s41, s42, s43, s44, s45, s46, s47, .int .i64 kind, s49, s50, s51, s52, s53, s54, s55, s56, s57, s58, s59, s60, s61, s62, s63, s64, s65, s66, s67, s68, s69, s70, s71, s72, s73, s74, s75, s76, s77, s78, s79, s80, s81, s82, s83, s84, s85, s86, s87, s88, s89, s90, s91, s92, s93, s94, s95, s96, s97, s98, s99, s100, s101, s102, s103, s104, s105, s106, s107, s108, s109, s110, s111, s112, s113, s114, s115, s116, s117, s118, s119, s120, s121, s122, s123, s124, s125, s126, s127, s128, s129, s130, s131, s132, s133, s134, s135, s136, s137, s138, s139, s140, s141, s142, s143, s144, s145, s146, s147, s148, s149, s150, s151, s152, s153, s154, s155, s156, s157, s158, s159, s160, s161, s162, s163, s164, s165, s166, s167, s168, s169, s170, s171, s172, s173, s174, s175, s176, s177, s178, s179, s180, s181, s182, s183, s184, s185, s186, s187, s188, s189, s190, s191, s192, s193, s194, s195, s196, s197, s198, s199, s200, s201, s202, s203, s204, s205, s206, s207, s208, s209, s210, s211, s212, s213, s214, s215, s216, s217, s218, s219, s220, s221, s222, s223, s224, s225, s226, s227, s228, s229, s230, s231], []⟩ wr := by
  conv => arg 2; arg 2; whnf
  have HOUT := Lib.hid hout; have HP := Lib.hid hP; have HZ := Lib.hid hz; have HLOW := Lib.hid hlow
  have HAA := Lib.hid hP.hA; have HKN := Lib.hid hP.kn
  have hO : wr.heap[O]? = some (.cells #[.int .i64 kind, .int .i64 vi, .int .i64 va, .int .i64 vsz, .bool vflip, .slice vla vll vlc] 51 (0, 0)) := hP.ws.keep (O, oObj kind vi va vsz vflip vla vll vlc) (by simp)
  have HO := Lib.hid hO
  have hco := box_cell hO
  clear hout hP hz hlow hO
  by_cases c0 : kind = 0
  · subst c0
    obtain ⟨k0, hk0, hke⟩ : ∃ k0 : Nat, k0 < 256 ∧ bits .and .i64 va 255 = (k0 : Int) := ⟨(va % 256).toNat, by omega, by rw [mask255]; omega⟩
    obtain ⟨q, hq16, hqe⟩ : ∃ q : Nat, q < 16 ∧ bits .and .i64 vsz 15 = (q : Int) := ⟨(vsz % 16).toNat, by omega, by rw [mask15]; omega⟩
    obtain ⟨z, hz64, hze⟩ : ∃ z : Nat, z < 64 ∧ bits .and .i64 vsz 63 = (z : Int) := ⟨(vsz % 64).toNat, by omega, by rw [mask63]; omega⟩
    have hw1 : IntKind.i64.wrap ((k0 : Int) + 1) = (k0 : Int) + 1 := IntWalk.i64_in _ (by omega)
    have HSEC := Lib.hid (secK (k := k0 + 1) (z := (k0 : Int) + 1) (by omega) (by omega) (by omega))
    go_wp2_with fail
    refine (HSEC.out _).mono ?_
    rintro e w2 ⟨g, cap, rfl, hf2, hg1, hg2, hr2, ht2, hcap, hcap2⟩
    obtain ⟨o, ho⟩ : ∃ o, w2.heap[g]? = some o := ⟨_, Array.getElem?_eq_getElem hg2⟩
    have hbt2 : Bts w2 g 64 := Bts.of hr2 ht2 (kindN_length _)
    have hsz := HP.out.ws.fr.size
    have hco2 := box_cell (hf2.keep HO.out (by simp))
    have hgA : g ≠ A ∧ g ≠ D ∧ g ≠ O := by
      have h1 := lt_of_heap (ws_rowA HP.out.ws); have h2 := lt_of_heap (ws_rowD HP.out.ws); have h3 := lt_of_heap HO.out
      omega
    have hW2 : WsAt w ([(g, o), (O, oObj 0 vi va vsz vflip vla vll vlc)] ++ rowsK A D now done) p s false B now done all w2 := HP.out.ws.regard hf2 (by simp) _ (fun y hy => by
      rcases List.mem_cons.1 hy with rfl | hy
      · exact ⟨ho, .inl hg1⟩
      · exact ⟨hf2.keep (HP.out.ws.keep y hy) (by simp), .inr ⟨y, hy, rfl⟩⟩)
    have HW2 := Lib.hid hW2; have HR2 := Lib.hid hr2; have HBT2 := Lib.hid hbt2; have HO2 := Lib.hid ho; have HF2 := Lib.hid hf2
    have HGA := Lib.hid hgA
    clear hW2 hr2 hbt2 ht2 ho hf2 hco hgA
    by_cases hq3 : q = 3
    · subst hq3
      have hz1 : (z : Int) ≤ (cap : Int) := by omega
      have hz2 : (0 : Int) ≤ (z : Int) := by omega
      have hz3 : ((z : Int)).toNat = z := by omega
      have hz4 : ((z : Int) == 64) = false := beq_eq_false_iff_ne.2 (by omega)
      have HWR := Lib.hid (fun cap' => ws_write_arg HW2.out vi (some ⟨g, 0, none⟩) z cap' (.inr (by omega)))
      by_cases v1 : 0 ≤ vi
      · by_cases v2 : vi < 40
        · go_wp2_with fail
          refine (HWR.out _).mono ?_
          rintro e w3 ⟨rfl, hW3⟩
          have hco3 := box_cell (hW3.keep (O, oObj 0 vi va vsz vflip vla vll vlc) (by simp))
          have hg3 := hW3.keep (g, o) (by simp)
          have HBT3 : Hid (Bts w3 g 64) := Lib.hid (HBT2.out.heap (by rw [hg3, HO2.out]))
          have HW3 := Lib.hid hW3
          clear hW3 hg3 HWR
          go_upto_block 5 with fail
          refine bkB w3 (some ⟨g, 0, none⟩) g z _ (by omega) (fun _ => ⟨rfl, fun j hj => HBT3.out j (by omega)⟩) ?_
          intro _ _ _ _ _ _ _ _ _ _ _ _ _ w5 hf5
          have hW5 := ws_rows (now' := now) (done' := done) HW3.out HAA.out (r := [g]) (fun x hx => .inr (.inr (by simp at hx; subst hx; exact ⟨by omega, (x, o), by simp, rfl⟩))) hf5 [] (by simp) (hf5.keep (ws_rowA HW3.out) (by simpa using fun e => HGA.out.1 e.symm)) (hf5.keep (ws_rowD HW3.out) (by simpa using fun e => HGA.out.2.1 e.symm))
          have HP5 : Hid (PwAt w [] p s A D false (B + 20000) now done all w5) := Lib.hid ⟨hW5.more (by omega), HKN.out, HAA.out⟩
          clear hW5 hf5
          go_wp2_with fail
          exact HOUT.out _ _ _ _ _ _ _ _ _ _ _ _ _ _ _ _ _ _ _ _ _ _ _ _ _ _ _ _ _ _ _ _ _ _ _ _ _ _ _ _ _ _ _ _ _ _ _ _ _ _ _ _ _ _ _ _ _ _ _ _ _ _ _ _ _ _ _ _ _ _ _ _ _ _ _ _ _ _ _ _ _ _ _ _ _ _ _ _ _ _ _ _ _ _ _ _ _ _ _ _ _ _ _ _ _ _ _ _ _ _ _ _ _ _ _ _ _ _ _ _ _ _ _ _ _ _ _ _ _ _ _ _ _ _ _ _ _ _ _ _ _ _ _ _ _ _ _ _ _ _ _ _ _ _ _ _ _ _ _ _ _ _ _ _ _ _ _ _ _ _ _ _ _ _ _ _ _ _ _ _ _ (by omega) HP5.out
        · go_wp2_with fail
          refine (HWR.out _).mono ?_
          rintro e w3 ⟨rfl, hW3⟩
          have hco3 := box_cell (hW3.keep (O, oObj 0 vi va vsz vflip vla vll vlc) (by simp))
          have hg3 := hW3.keep (g, o) (by simp)
          have HBT3 : Hid (Bts w3 g 64) := Lib.hid (HBT2.out.heap (by rw [hg3, HO2.out]))
          have HW3 := Lib.hid hW3
          clear hW3 hg3 HWR
          go_upto_block 5 with fail
          refine bkB w3 (some ⟨g, 0, none⟩) g z _ (by omega) (fun _ => ⟨rfl, fun j hj => HBT3.out j (by omega)⟩) ?_
          intro _ _ _ _ _ _ _ _ _ _ _ _ _ w5 hf5
          have hW5 := ws_rows (now' := now) (done' := done) HW3.out HAA.out (r := [g]) (fun x hx => .inr (.inr (by simp at hx; subst hx; exact ⟨by omega, (x, o), by simp, rfl⟩))) hf5 [] (by simp) (hf5.keep (ws_rowA HW3.out) (by simpa using fun e => HGA.out.1 e.symm)) (hf5.keep (ws_rowD HW3.out) (by simpa using fun e => HGA.out.2.1 e.symm))
          have HP5 : Hid (PwAt w [] p s A D false (B + 20000) now done all w5) := Lib.hid ⟨hW5.more (by omega), HKN.out, HAA.out⟩
          clear hW5 hf5
          go_wp2_with fail
          exact HOUT.out _ _ _ _ _ _ _ _ _ _ _ _ _ _ _ _ _ _ _ _ _ _ _ _ _ _ _ _ _ _ _ _ _ _ _ _ _ _ _ _ _ _ _ _ _ _ _ _ _ _ _ _ _ _ _ _ _ _ _ _ _ _ _ _ _ _ _ _ _ _ _ _ _ _ _ _ _ _ _ _ _ _ _ _ _ _ _ _ _ _ _ _ _ _ _ _ _ _ _ _ _ _ _ _ _ _ _ _ _ _ _ _ _ _ _ _ _ _ _ _ _ _ _ _ _ _ _ _ _ _ _ _ _ _ _ _ _ _ _ _ _ _ _ _ _ _ _ _ _ _ _ _ _ _ _ _ _ _ _ _ _ _ _ _ _ _ _ _ _ _ _ _ _ _ _ _ _ _ _ _ _ (by omega) HP5.out
      · go_wp2_with fail
        refine (HWR.out _).mono ?_
        rintro e w3 ⟨rfl, hW3⟩
        have hco3 := box_cell (hW3.keep (O, oObj 0 vi va vsz vflip vla vll vlc) (by simp))
        have hg3 := hW3.keep (g, o) (by simp)
        have HBT3 : Hid (Bts w3 g 64) := Lib.hid (HBT2.out.heap (by rw [hg3, HO2.out]))
        have HW3 := Lib.hid hW3
        clear hW3 hg3 HWR
        go_upto_block 5 with fail
        refine bkB w3 (some ⟨g, 0, none⟩) g z _ (by omega) (fun _ => ⟨rfl, fun j hj => HBT3.out j (by omega)⟩) ?_
        intro _ _ _ _ _ _ _ _ _ _ _ _ _ w5 hf5
        have hW5 := ws_rows (now' := now) (done' := done) HW3.out HAA.out (r := [g]) (fun x hx => .inr (.inr (by simp at hx; subst hx; exact ⟨by omega, (x, o), by simp, rfl⟩))) hf5 [] (by simp) (hf5.keep (ws_rowA HW3.out) (by simpa using fun e => HGA.out.1 e.symm)) (hf5.keep (ws_rowD HW3.out) (by simpa using fun e => HGA.out.2.1 e.symm))
        have HP5 : Hid (PwAt w [] p s A D false (B + 20000) now done all w5) := Lib.hid ⟨hW5.more (by omega), HKN.out, HAA.out⟩
        clear hW5 hf5
        go_wp2_with fail
        exact HOUT.out _ _ _ _ _ _ _ _ _ _ _ _ _ _ _ _ _ _ _ _ _ _ _ _ _ _ _ _ _ _ _ _ _ _ _ _ _ _ _ _ _ _ _ _ _ _ _ _ _ _ _ _ _ _ _ _ _ _ _ _ _ _ _ _ _ _ _ _ _ _ _ _ _ _ _ _ _ _ _ _ _ _ _ _ _ _ _ _ _ _ _ _ _ _ _ _ _ _ _ _ _ _ _ _ _ _ _ _ _ _ _ _ _ _ _ _ _ _ _ _ _ _ _ _ _ _ _ _ _ _ _ _ _ _ _ _ _ _ _ _ _ _ _ _ _ _ _ _ _ _ _ _ _ _ _ _ _ _ _ _ _ _ _ _ _ _ _ _ _ _ _ _ _ _ _ _ _ _ _ _ _ (by omega) HP5.out
    · have hq3' : ((q : Int) == 3) = false := beq_eq_false_iff_ne.2 (by omega)
      by_cases hin : 0 ≤ vi ∧ vi < 40
      · obtain ⟨i, rfl⟩ : ∃ i : Nat, vi = i := ⟨vi.toNat, by omega⟩
        have i1 : (i : Int) < 40 := by omega
        have i2 : (0 : Int) ≤ (i : Int) := by omega
        have i3 : ((i : Int)).toNat = i := by omega
        have HWR := Lib.hid (ws_write HW2.out i (by omega) g cap o (by simp) (k0 + 1) HR2.out)
        go_wp2_with fail
        refine HWR.out.mono ?_
        rintro e w3 ⟨rfl, hW3⟩
        have hco3 := box_cell (hW3.keep (O, oObj 0 i va vsz vflip vla vll vlc) (by simp))
        have hg3 := hW3.keep (g, o) (by simp)
        have hbt3 : Bts w3 g 64 := HBT2.out.heap (by rw [hg3, HO2.out])
        have hra := ws_rowA hW3; have hrd := ws_rowD hW3
        by_cases i16 : i < 16
        · have i4 : (i : Int) < 16 := by omega
          have hza : w3.cell? ⟨A, i, none⟩ = some (.int .i64 (now i)) := (box_cell hra i).trans (arrK_get now i16)
          have hfa := box_free hra i
          have hone : Fr [A] w3 (w3.setCell ⟨A, i, none⟩ (.int .i64 ((k0 : Int) + 1))) := (Fr.refl _ _).setCell (.inl (by simp)) _
          have hset := box_set hra i (.int .i64 ((k0 + 1 : Nat) : Int))
          rw [arrK_set now i16] at hset
          have hset' : (w3.setCell ⟨A, i, none⟩ (.int .i64 ((k0 : Int) + 1))).heap[A]? = some (.cells (arrK fun j => if j = i then k0 + 1 else now j) 49 (0, 0)) := hset
          have hW4 := ws_rows (now' := fun j => if j = i then k0 + 1 else now j) (done' := done) hW3 HAA.out (r := [A]) (by simp) hone [(g, o), (O, oObj 0 i va vsz vflip vla vll vlc)] (fun y hy => ⟨hy, by have := HGA.out; simp at hy; rcases hy with rfl | rfl <;> simp <;> omega⟩) hset' (hone.keep hrd (by simpa using fun e => HAA.out.2.2 e.symm))
          have HW4 := Lib.hid hW4
          have HBT4 := Lib.hid (hbt3.keep hone (by simpa using HGA.out.1))
          clear hW3 hg3 hbt3 hra hrd hone hset hset' hW4 HWR
          go_upto_block 5 with fail
          generalize w3.setCell ⟨A, i, none⟩ (.int .i64 ((k0 : Int) + 1)) = w4 at *
          refine bkB w4 (some ⟨g, 0, none⟩) g 64 cap (by omega) (fun _ => ⟨rfl, HBT4.out⟩) ?_
          intro _ _ _ _ _ _ _ _ _ _ _ _ _ w5 hf5
          have hg4 := lt_of_heap (ws_rowA HW4.out)
          have hW5 := ws_rows (now' := fun j => if j = i then k0 + 1 else now j) (done' := done) HW4.out HAA.out (r := [g]) (fun x hx => .inr (.inr (by simp at hx; subst hx; exact ⟨by omega, (x, o), by simp, rfl⟩))) hf5 [] (by simp) (hf5.keep (ws_rowA HW4.out) (by simpa using fun e => HGA.out.1 e.symm)) (hf5.keep (ws_rowD HW4.out) (by simpa using fun e => HGA.out.2.1 e.symm))
          have HP5 : Hid (PwAt w [] p s A D false (B + 20000) (fun j => if j = i then k0 + 1 else now j) done all w5) := Lib.hid ⟨hW5.more (by omega), fun j => ⟨by have := (HKN.out j).1; show (if j = i then k0 + 1 else now j) ≤ 256; split <;> omega, (HKN.out j).2⟩, HAA.out⟩
          clear hW5 hf5
          go_wp2_with fail
          exact HOUT.out _ _ _ _ _ _ _ _ _ _ _ _ _ _ _ _ _ _ _ _ _ _ _ _ _ _ _ _ _ _ _ _ _ _ _ _ _ _ _ _ _ _ _ _ _ _ _ _ _ _ _ _ _ _ _ _ _ _ _ _ _ _ _ _ _ _ _ _ _ _ _ _ _ _ _ _ _ _ _ _ _ _ _ _ _ _ _ _ _ _ _ _ _ _ _ _ _ _ _ _ _ _ _ _ _ _ _ _ _ _ _ _ _ _ _ _ _ _ _ _ _ _ _ _ _ _ _ _ _ _ _ _ _ _ _ _ _ _ _ _ _ _ _ _ _ _ _ _ _ _ _ _ _ _ _ _ _ _ _ _ _ _ _ _ _ _ _ _ _ _ _ _ _ _ _ _ _ _ _ _ _ (by omega) HP5.out
        · have i4 : ¬ (i : Int) < 16 := by omega
          have hW4 : WsAt w ([(g, o), (O, oObj 0 i va vsz vflip vla vll vlc)] ++ rowsK A D (fun j => if j = i then k0 + 1 else now j) done) p s false B (fun j => if j = i then k0 + 1 else now j) done all w3 := by
            unfold rowsK
            rw [arrK_far (by omega)]
            exact hW3
          have HW4 := Lib.hid hW4; have HBT4 := Lib.hid hbt3
          clear hW3 hg3 hbt3 hra hrd hW4 HWR
          go_upto_block 5 with fail
          obtain ⟨w4, hw4⟩ : ∃ w4, w3 = w4 := ⟨_, rfl⟩
          rw [hw4] at HW4 HBT4 ⊢
          clear hw4
          refine bkB w4 (some ⟨g, 0, none⟩) g 64 cap (by omega) (fun _ => ⟨rfl, HBT4.out⟩) ?_
          intro _ _ _ _ _ _ _ _ _ _ _ _ _ w5 hf5
          have hg4 := lt_of_heap (ws_rowA HW4.out)
          have hW5 := ws_rows (now' := fun j => if j = i then k0 + 1 else now j) (done' := done) HW4.out HAA.out (r := [g]) (fun x hx => .inr (.inr (by simp at hx; subst hx; exact ⟨by omega, (x, o), by simp, rfl⟩))) hf5 [] (by simp) (hf5.keep (ws_rowA HW4.out) (by simpa using fun e => HGA.out.1 e.symm)) (hf5.keep (ws_rowD HW4.out) (by simpa using fun e => HGA.out.2.1 e.symm))
          have HP5 : Hid (PwAt w [] p s A D false (B + 20000) (fun j => if j = i then k0 + 1 else now j) done all w5) := Lib.hid ⟨hW5.more (by omega), fun j => ⟨by have := (HKN.out j).1; show (if j = i then k0 + 1 else now j) ≤ 256; split <;> omega, (HKN.out j).2⟩, HAA.out⟩
          clear hW5 hf5
          go_wp2_with fail
          exact HOUT.out _ _ _ _ _ _ _ _ _ _ _ _ _ _ _ _ _ _ _ _ _ _ _ _ _ _ _ _ _ _ _ _ _ _ _ _ _ _ _ _ _ _ _ _ _ _ _ _ _ _ _ _ _ _ _ _ _ _ _ _ _ _ _ _ _ _ _ _ _ _ _ _ _ _ _ _ _ _ _ _ _ _ _ _ _ _ _ _ _ _ _ _ _ _ _ _ _ _ _ _ _ _ _ _ _ _ _ _ _ _ _ _ _ _ _ _ _ _ _ _ _ _ _ _ _ _ _ _ _ _ _ _ _ _ _ _ _ _ _ _ _ _ _ _ _ _ _ _ _ _ _ _ _ _ _ _ _ _ _ _ _ _ _ _ _ _ _ _ _ _ _ _ _ _ _ _ _ _ _ _ _ (by omega) HP5.out
      · have hno : (decide (0 ≤ vi) && decide (vi < 40)) = false := by
          rw [← Bool.not_eq_true]; simp only [Bool.and_eq_true, decide_eq_true_eq]; omega
        have HWR := Lib.hid (ws_write_arg HW2.out vi (some ⟨g, 0, none⟩) 64 cap (.inl hno))
        obtain ⟨z, hzz⟩ : ∃ z : Nat, z = 64 := ⟨_, rfl⟩
        by_cases hneg : 0 ≤ vi
        · have hneg2 : ¬ vi < 40 := by omega
          go_wp2_with fail
          refine HWR.out.mono ?_
          rintro e w3 ⟨rfl, hW3⟩
          have hco3 := box_cell (hW3.keep (O, oObj 0 vi va vsz vflip vla vll vlc) (by simp))
          have hg3 := hW3.keep (g, o) (by simp)
          have HBT3 : Hid (Bts w3 g 64) := Lib.hid (HBT2.out.heap (by rw [hg3, HO2.out]))
          have HW3 := Lib.hid hW3
          clear hW3 hg3 HWR
          go_upto_block 5 with fail
          refine bkB w3 (some ⟨g, 0, none⟩) g 64 _ (by omega) (fun _ => ⟨rfl, fun j hj => HBT3.out j (by omega)⟩) ?_
          intro _ _ _ _ _ _ _ _ _ _ _ _ _ w5 hf5
          have hW5 := ws_rows (now' := now) (done' := done) HW3.out HAA.out (r := [g]) (fun x hx => .inr (.inr (by simp at hx; subst hx; exact ⟨by omega, (x, o), by simp, rfl⟩))) hf5 [] (by simp) (hf5.keep (ws_rowA HW3.out) (by simpa using fun e => HGA.out.1 e.symm)) (hf5.keep (ws_rowD HW3.out) (by simpa using fun e => HGA.out.2.1 e.symm))
          have HP5 : Hid (PwAt w [] p s A D false (B + 20000) now done all w5) := Lib.hid ⟨hW5.more (by omega), HKN.out, HAA.out⟩
          clear hW5 hf5
          go_wp2_with fail
          exact HOUT.out _ _ _ _ _ _ _ _ _ _ _ _ _ _ _ _ _ _ _ _ _ _ _ _ _ _ _ _ _ _ _ _ _ _ _ _ _ _ _ _ _ _ _ _ _ _ _ _ _ _ _ _ _ _ _ _ _ _ _ _ _ _ _ _ _ _ _ _ _ _ _ _ _ _ _ _ _ _ _ _ _ _ _ _ _ _ _ _ _ _ _ _ _ _ _ _ _ _ _ _ _ _ _ _ _ _ _ _ _ _ _ _ _ _ _ _ _ _ _ _ _ _ _ _ _ _ _ _ _ _ _ _ _ _ _ _ _ _ _ _ _ _ _ _ _ _ _ _ _ _ _ _ _ _ _ _ _ _ _ _ _ _ _ _ _ _ _ _ _ _ _ _ _ _ _ _ _ _ _ _ _ (by omega) HP5.out
        · go_wp2_with fail
          refine HWR.out.mono ?_
          rintro e w3 ⟨rfl, hW3⟩
          have hco3 := box_cell (hW3.keep (O, oObj 0 vi va vsz vflip vla vll vlc) (by simp))
          have hg3 := hW3.keep (g, o) (by simp)
          have HBT3 : Hid (Bts w3 g 64) := Lib.hid (HBT2.out.heap (by rw [hg3, HO2.out]))
          have HW3 := Lib.hid hW3
          clear hW3 hg3 HWR
          go_upto_block 5 with fail
          refine bkB w3 (some ⟨g, 0, none⟩) g 64 _ (by omega) (fun _ => ⟨rfl, fun j hj => HBT3.out j (by omega)⟩) ?_
          intro _ _ _ _ _ _ _ _ _ _ _ _ _ w5 hf5
          have hW5 := ws_rows (now' := now) (done' := done) HW3.out HAA.out (r := [g]) (fun x hx => .inr (.inr (by simp at hx; subst hx; exact ⟨by omega, (x, o), by simp, rfl⟩))) hf5 [] (by simp) (hf5.keep (ws_rowA HW3.out) (by simpa using fun e => HGA.out.1 e.symm)) (hf5.keep (ws_rowD HW3.out) (by simpa using fun e => HGA.out.2.1 e.symm))
          have HP5 : Hid (PwAt w [] p s A D false (B + 20000) now done all w5) := Lib.hid ⟨hW5.more (by omega), HKN.out, HAA.out⟩
          clear hW5 hf5
          go_wp2_with fail
          exact HOUT.out _ _ _ _ _ _ _ _ _ _ _ _ _ _ _ _ _ _ _ _ _ _ _ _ _ _ _ _ _ _ _ _ _ _ _ _ _ _ _ _ _ _ _ _ _ _ _ _ _ _ _ _ _ _ _ _ _ _ _ _ _ _ _ _ _ _ _ _ _ _ _ _ _ _ _ _ _ _ _ _ _ _ _ _ _ _ _ _ _ _ _ _ _ _ _ _ _ _ _ _ _ _ _ _ _ _ _ _ _ _ _ _ _ _ _ _ _ _ _ _ _ _ _ _ _ _ _ _ _ _ _ _ _ _ _ _ _ _ _ _ _ _ _ _ _ _ _ _ _ _ _ _ _ _ _ _ _ _ _ _ _ _ _ _ _ _ _ _ _ _ _ _ _ _ _ _ _ _ _ _ _ (by omega) HP5.out
  · have k0 : (kind == 0) = false := beq_eq_false_iff_ne.2 c0
    by_cases c1 : kind = 1
    · subst c1
      have hw1 : IntKind.i64.wrap ((all : Int) + 1) = (all : Int) + 1 := IntWalk.i64_in _ (by omega)
      have HC := Lib.hid (ws_commit HP.out.ws (by omega) (by omega))
      go_wp2_with fail
      refine HC.out.mono ?_
      rintro e w2 ⟨rfl, hW⟩
      have hra := ws_rowA hW; have hrd := ws_rowD hW
      have HR := Lib.hid (arrK_range hra)
      have hfs : Fr [D] w2 (w2.setRow D (arrK now)) := (Fr.refl _ _).setRow (.inl (by simp))
      have hW3 := ws_rows (now' := now) (done' := now) hW HAA.out (r := [D]) (by simp) hfs [] (by simp) (hfs.keep hra (by simpa using HAA.out.2.2)) (setRow_sameK hrd)
      have HP5 : Hid (PwAt w [] p s A D false (B + 20000) now now (all + 1) (w2.setRow D (arrK now))) := Lib.hid ⟨hW3.more (by omega), fun j => ⟨(HKN.out j).1, (HKN.out j).1⟩, HAA.out⟩
      have H2 := Lib.hid hrd
      clear hW hra hrd hfs hW3 HC
      go_wp2_with (first
        | ((with_reducible_and_instances refine id (α := wpList _ _ _ (⟨some 164, .load 49 _, _, _, _, _⟩ :: _) _ _) ?_); refine wL_loadMid rfl 49 _ rfl A 0 rfl (arrK now).toList HR.out 16 3 Try.underlying49 (by simp [Try.size16, arrK_size]) ?_; rw [Array.toArray_toList])
        | ((with_reducible_and_instances refine id (α := wpList _ _ _ (⟨none, .store 49 _ _, _, _, _, _⟩ :: _) _ _) ?_); refine wL_storeW rfl 49 _ _ rfl D rfl (arrK now) rfl 49 (arrK done) H2.out (by simp [Try.size16, arrK_size]) (by simp [arrK_size]) (arrK_one _) ?_)
        | fail)
      exact HOUT.out _ _ _ _ _ _ _ _ _ _ _ _ _ _ _ _ _ _ _ _ _ _ _ _ _ _ _ _ _ _ _ _ _ _ _ _ _ _ _ _ _ _ _ _ _ _ _ _ _ _ _ _ _ _ _ _ _ _ _ _ _ _ _ _ _ _ _ _ _ _ _ _ _ _ _ _ _ _ _ _ _ _ _ _ _ _ _ _ _ _ _ _ _ _ _ _ _ _ _ _ _ _ _ _ _ _ _ _ _ _ _ _ _ _ _ _ _ _ _ _ _ _ _ _ _ _ _ _ _ _ _ _ _ _ _ _ _ _ _ _ _ _ _ _ _ _ _ _ _ _ _ _ _ _ _ _ _ _ _ _ _ _ _ _ _ _ _ _ _ _ _ _ _ _ _ _ _ _ _ _ (all + 1) (by omega) HP5.out
    · have k1 : (kind == 1) = false := beq_eq_false_iff_ne.2 c1
      by_cases c2 : kind = 2
      · subst c2
        have HC := Lib.hid (ws_abort HP.out.ws)
        go_wp2_with fail
        refine HC.out.mono ?_
        rintro e w2 ⟨rfl, hW⟩
        have hra := ws_rowA hW; have hrd := ws_rowD hW
        have HR := Lib.hid (arrK_range hrd)
        have hfs : Fr [A] w2 (w2.setRow A (arrK done)) := (Fr.refl _ _).setRow (.inl (by simp))
        have hW3 := ws_rows (now' := done) (done' := done) hW HAA.out (r := [A]) (by simp) hfs [] (by simp) (setRow_sameK hra) (hfs.keep hrd (by simpa using fun e => HAA.out.2.2 e.symm))
        have HP5 : Hid (PwAt w [] p s A D false (B + 20000) done done all (w2.setRow A (arrK done))) := Lib.hid ⟨hW3.more (by omega), fun j => ⟨(HKN.out j).2, (HKN.out j).2⟩, HAA.out⟩
        have H2 := Lib.hid hra
        clear hW hra hrd hfs hW3 HC
        go_wp2_with (first
          | ((with_reducible_and_instances refine id (α := wpList _ _ _ (⟨some 171, .load 49 _, _, _, _, _⟩ :: _) _ _) ?_); refine wL_loadMid rfl 49 _ rfl D 0 rfl (arrK done).toList HR.out 16 3 Try.underlying49 (by simp [Try.size16, arrK_size]) ?_; rw [Array.toArray_toList])
          | ((with_reducible_and_instances refine id (α := wpList _ _ _ (⟨none, .store 49 _ _, _, _, _, _⟩ :: _) _ _) ?_); refine wL_storeW rfl 49 _ _ rfl A rfl (arrK done) rfl 49 (arrK now) H2.out (by simp [Try.size16, arrK_size]) (by simp [arrK_size]) (arrK_one _) ?_)
          | fail)
        exact HOUT.out _ _ _ _ _ _ _ _ _ _ _ _ _ _ _ _ _ _ _ _ _ _ _ _ _ _ _ _ _ _ _ _ _ _ _ _ _ _ _ _ _ _ _ _ _ _ _ _ _ _ _ _ _ _ _ _ _ _ _ _ _ _ _ _ _ _ _ _ _ _ _ _ _ _ _ _ _ _ _ _ _ _ _ _ _ _ _ _ _ _ _ _ _ _ _ _ _ _ _ _ _ _ _ _ _ _ _ _ _ _ _ _ _ _ _ _ _ _ _ _ _ _ _ _ _ _ _ _ _ _ _ _ _ _ _ _ _ _ _ _ _ _ _ _ _ _ _ _ _ _ _ _ _ _ _ _ _ _ _ _ _ _ _ _ _ _ _ _ _ _ _ _ _ _ _ _ _ _ _ _ _ (by omega) HP5.out
      · have k2 : (kind == 2) = false := beq_eq_false_iff_ne.2 c2
        by_cases c3 : kind = 3
        · subst c3
          have HC := Lib.hid (ws_sync HP.out.ws (by omega))
          go_wp2_with fail
          refine HC.out.mono ?_
          rintro e w2 ⟨rfl, hW⟩
          have HM := Lib.hid (ws_commits hW)
          clear hW HC
          go_wp2_with fail
          refine HM.out.mono ?_
          rintro e w3 ⟨last, _, hl, rfl, hW⟩
          have hl : last = all := by first | exact hl trivial | exact hl rfl
          subst hl
          have hW3 := ws_rows (now' := now) (done' := done) hW HAA.out (r := []) (by simp) (Fr.refl [] w3) [] (by simp) (ws_rowA hW) (ws_rowD hW)
          have HP5 : Hid (PwAt w [] p s A D false (B + 20000) now done all w3) := Lib.hid ⟨hW3.more (by omega), HKN.out, HAA.out⟩
          clear hW hW3 HM
          go_wp2_with fail
          exact HOUT.out _ _ _ _ _ _ _ _ _ _ _ _ _ _ _ _ _ _ _ _ _ _ _ _ _ _ _ _ _ _ _ _ _ _ _ _ _ _ _ _ _ _ _ _ _ _ _ _ _ _ _ _ _ _ _ _ _ _ _ _ _ _ _ _ _ _ _ _ _ _ _ _ _ _ _ _ _ _ _ _ _ _ _ _ _ _ _ _ _ _ _ _ _ _ _ _ _ _ _ _ _ _ _ _ _ _ _ _ _ _ _ _ _ _ _ _ _ _ _ _ _ _ _ _ _ _ _ _ _ _ _ _ _ _ _ _ _ _ _ _ _ _ _ _ _ _ _ _ _ _ _ _ _ _ _ _ _ _ _ _ _ _ _ _ _ _ _ _ _ _ _ _ _ _ _ _ _ _ _ _ _ (by omega) HP5.out
        · have k3 : (kind == 3) = false := beq_eq_false_iff_ne.2 c3
          by_cases c4 : kind = 4
          · subst c4
            have HC := Lib.hid (ws_sync HP.out.ws (by omega))
            go_wp2_with fail
            refine HC.out.mono ?_
            rintro e w2 ⟨rfl, hW⟩
            have hco2 := box_cell (hW.keep (O, oObj 4 vi va vsz vflip vla vll vlc) (by simp))
            have HX := Lib.hid (ws_crash hW vflip vla vll vlc vlz (HZ.out.keep hW.fr) hlm HLOW.out)
            clear hW HC hco
            go_wp2_with fail
            refine HX.out.mono ?_
            rintro e w3 ⟨rfl, hD⟩
            have HCA := Lib.hid (de_carried hD (by omega))
            clear hD HX hco2
            go_wp2_with fail
            refine HCA.out.mono ?_
            rintro e w4 ⟨p', rfl, hD⟩
            have HOP := Lib.hid (de_open hD (by omega))
            clear hD HCA
            go_wp2_with fail
            refine HOP.out.mono ?_
            rintro e w5 ⟨s', rfl, hW⟩
            have hra := ws_rowA hW; have hrd := ws_rowD hW
            have HR := Lib.hid (arrK_range hrd)
            have hfs : Fr [A] w5 (w5.setRow A (arrK done)) := (Fr.refl _ _).setRow (.inl (by simp))
            have hW3 := ws_rows (now' := done) (done' := done) hW HAA.out (r := [A]) (by simp) hfs [] (by simp) (setRow_sameK hra) (hfs.keep hrd (by simpa using fun e => HAA.out.2.2 e.symm))
            have HP5 : Hid (PwAt w [] p' s' A D false (B + 20000) done done 0 (w5.setRow A (arrK done))) := Lib.hid ⟨hW3.more (by omega), fun j => ⟨(HKN.out j).2, (HKN.out j).2⟩, HAA.out⟩
            have H2 := Lib.hid hra
            clear hW hra hrd hfs hW3 HOP
            go_wp2_with (first
              | ((with_reducible_and_instances refine id (α := wpList _ _ _ (⟨some 212, .load 49 _, _, _, _, _⟩ :: _) _ _) ?_); refine wL_loadMid rfl 49 _ rfl D 0 rfl (arrK done).toList HR.out 16 3 Try.underlying49 (by simp [Try.size16, arrK_size]) ?_; rw [Array.toArray_toList])
              | ((with_reducible_and_instances refine id (α := wpList _ _ _ (⟨none, .store 49 _ _, _, _, _, _⟩ :: _) _ _) ?_); refine wL_storeW rfl 49 _ _ rfl A rfl (arrK done) rfl 49 (arrK now) H2.out (by simp [Try.size16, arrK_size]) (by simp [arrK_size]) (arrK_one _) ?_)
              | fail)
            exact HOUT.out _ _ _ _ _ _ _ _ _ _ _ _ _ _ _ _ _ _ _ _ _ _ _ _ _ _ _ _ _ _ _ _ _ _ _ _ _ _ _ _ _ _ _ _ _ _ _ _ _ _ _ _ _ _ _ _ _ _ _ _ _ _ _ _ _ _ _ _ _ _ _ _ _ _ _ _ _ _ _ _ _ _ _ _ _ _ _ _ _ _ _ _ _ _ _ _ _ _ _ _ _ _ _ _ _ _ _ _ _ _ _ _ _ _ _ _ _ _ _ _ _ _ _ _ _ _ _ _ _ _ _ _ _ _ _ _ _ _ _ _ _ _ _ _ _ _ _ _ _ _ _ _ _ _ _ _ _ _ _ _ _ _ _ _ _ _ _ _ _ _ _ _ _ _ _ _ _ _ _ _ 0 (by omega) HP5.out
          · have k4 : (kind == 4) = false := beq_eq_false_iff_ne.2 c4
            by_cases hin : 0 ≤ vi ∧ vi < 40
            · obtain ⟨i, rfl⟩ : ∃ i : Nat, vi = i := ⟨vi.toNat, by omega⟩
              have i1 : (i : Int) < 40 := by omega
              have i2 : (0 : Int) ≤ (i : Int) := by omega
              have HC := Lib.hid (ws_read HP.out.ws i (by omega) (by omega))
              go_wp2_with fail
              refine HC.out.mono ?_
              rintro e w2 ⟨g, cap, o, rfl, hbt, hgr, hW⟩
              have hco2 := box_cell (hW.keep (O, oObj kind i va vsz vflip vla vll vlc) (by simp))
              have hgo := hW.keep (g, o) (by simp)
              have HGA := Lib.hid (ws_new HP.out.ws hgr)
              have hgw : w.heap.size ≤ g := by have := HP.out.ws.fr.size; omega
              have HBT := Lib.hid hbt; have HW := Lib.hid hW
              clear hbt hW hgo HC hco
              go_upto_block 3 with fail
              refine bkX w2 (some ⟨g, 0, none⟩) g 64 _ (by omega) (fun _ => ⟨rfl, HBT.out⟩) ?_
              intro _ _ _ _ _ _ _ _ _ _ _ _ _ w5 hf5
              have hW5 := ws_rows (X := [(g, o), (O, oObj kind i va vsz vflip vla vll vlc)]) (now' := now) (done' := done) HW.out HAA.out (r := [g]) (fun x hx => .inr (.inr (by simp at hx; subst hx; exact ⟨hgw, (x, o), by simp, rfl⟩))) hf5 [] (by simp) (hf5.keep (ws_rowA (X := [(g, o), (O, oObj kind i va vsz vflip vla vll vlc)]) HW.out) (by simpa using fun e => HGA.out.1 e.symm)) (hf5.keep (ws_rowD (X := [(g, o), (O, oObj kind i va vsz vflip vla vll vlc)]) HW.out) (by simpa using fun e => HGA.out.2 e.symm))
              have HP5 : Hid (PwAt w [] p s A D false (B + 20000) now done all w5) := Lib.hid ⟨hW5.more (by omega), HKN.out, HAA.out⟩
              clear hW5 hf5
              go_wp2_with fail
              exact HOUT.out _ _ _ _ _ _ _ _ _ _ _ _ _ _ _ _ _ _ _ _ _ _ _ _ _ _ _ _ _ _ _ _ _ _ _ _ _ _ _ _ _ _ _ _ _ _ _ _ _ _ _ _ _ _ _ _ _ _ _ _ _ _ _ _ _ _ _ _ _ _ _ _ _ _ _ _ _ _ _ _ _ _ _ _ _ _ _ _ _ _ _ _ _ _ _ _ _ _ _ _ _ _ _ _ _ _ _ _ _ _ _ _ _ _ _ _ _ _ _ _ _ _ _ _ _ _ _ _ _ _ _ _ _ _ _ _ _ _ _ _ _ _ _ _ _ _ _ _ _ _ _ _ _ _ _ _ _ _ _ _ _ _ _ _ _ _ _ _ _ _ _ _ _ _ _ _ _ _ _ _ _ (by omega) HP5.out
            · have hno : (decide (0 ≤ vi) && decide (vi < 40)) = false := by
                rw [← Bool.not_eq_true]; simp only [Bool.and_eq_true, decide_eq_true_eq]; omega
              have HC := Lib.hid (ws_read_arg HP.out.ws vi hno)
              by_cases hneg : 0 ≤ vi
              · have hneg2 : ¬ vi < 40 := by omega
                go_wp2_with fail
                refine HC.out.mono ?_
                rintro e w2 ⟨rfl, hW⟩
                have hco2 := box_cell (hW.keep (O, oObj kind vi va vsz vflip vla vll vlc) (by simp))
                have HW := Lib.hid hW
                clear hW HC hco
                go_upto_block 3 with fail
                refine bkX w2 none w2.heap.size 0 _ (by omega) (fun h => absurd h (by omega)) ?_
                intro _ _ _ _ _ _ _ _ _ _ _ _ _ w5 hf5
                have hf0 : Fr [] w2 w5 := (Fr.refl [] w2).trans_new hf5 (fun x hx => .inr (by simp at hx; omega))
                have hW5 := ws_rows (now' := now) (done' := done) HW.out HAA.out (r := []) (by simp) hf0 [] (by simp) (hf0.keep (ws_rowA HW.out) (by simp)) (hf0.keep (ws_rowD HW.out) (by simp))
                have HP5 : Hid (PwAt w [] p s A D false (B + 20000) now done all w5) := Lib.hid ⟨hW5.more (by omega), HKN.out, HAA.out⟩
                clear hW5 hf5 hf0
                go_wp2_with fail
                exact HOUT.out _ _ _ _ _ _ _ _ _ _ _ _ _ _ _ _ _ _ _ _ _ _ _ _ _ _ _ _ _ _ _ _ _ _ _ _ _ _ _ _ _ _ _ _ _ _ _ _ _ _ _ _ _ _ _ _ _ _ _ _ _ _ _ _ _ _ _ _ _ _ _ _ _ _ _ _ _ _ _ _ _ _ _ _ _ _ _ _ _ _ _ _ _ _ _ _ _ _ _ _ _ _ _ _ _ _ _ _ _ _ _ _ _ _ _ _ _ _ _ _ _ _ _ _ _ _ _ _ _ _ _ _ _ _ _ _ _ _ _ _ _ _ _ _ _ _ _ _ _ _ _ _ _ _ _ _ _ _ _ _ _ _ _ _ _ _ _ _ _ _ _ _ _ _ _ _ _ _ _ _ _ (by omega) HP5.out
              · go_wp2_with fail
                refine HC.out.mono ?_
                rintro e w2 ⟨rfl, hW⟩
                have hco2 := box_cell (hW.keep (O, oObj kind vi va vsz vflip vla vll vlc) (by simp))
                have HW := Lib.hid hW
                clear hW HC hco
                go_upto_block 3 with fail
                refine bkX w2 none w2.heap.size 0 _ (by omega) (fun h => absurd h (by omega)) ?_
                intro _ _ _ _ _ _ _ _ _ _ _ _ _ w5 hf5
                have hf0 : Fr [] w2 w5 := (Fr.refl [] w2).trans_new hf5 (fun x hx => .inr (by simp at hx; omega))
                have hW5 := ws_rows (now' := now) (done' := done) HW.out HAA.out (r := []) (by simp) hf0 [] (by simp) (hf0.keep (ws_rowA HW.out) (by simp)) (hf0.keep (ws_rowD HW.out) (by simp))
                have HP5 : Hid (PwAt w [] p s A D false (B + 20000) now done all w5) := Lib.hid ⟨hW5.more (by omega), HKN.out, HAA.out⟩
                clear hW5 hf5 hf0
                go_wp2_with fail
                exact HOUT.out _ _ _ _ _ _ _ _ _ _ _ _ _ _ _ _ _ _ _ _ _ _ _ _ _ _ _ _ _ _ _ _ _ _ _ _ _ _ _ _ _ _ _ _ _ _ _ _ _ _ _ _ _ _ _ _ _ _ _ _ _ _ _ _ _ _ _ _ _ _ _ _ _ _ _ _ _ _ _ _ _ _ _ _ _ _ _ _ _ _ _ _ _ _ _ _ _ _ _ _ _ _ _ _ _ _ _ _ _ _ _ _ _ _ _ _ _ _ _ _ _ _ _ _ _ _ _ _ _ _ _ _ _ _ _ _ _ _ _ _ _ _ _ _ _ _ _ _ _ _ _ _ _ _ _ _ _ _ _ _ _ _ _ _ _ _ _ _ _ _ _ _ _ _ _ _ _ _ _ _ _ (by omega) HP5.out
end Go.Proofs.Ytoifpbifipgpkaa
