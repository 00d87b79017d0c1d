/-
  alloc: AllocPlays: a round's call.
-/
import Derived.Test.YtoifpbifipgpkaaAl8
import Derived.Test.YtoifpbifipgpkaaAlRow
namespace Go.Proofs.Ytoifpbifipgpkaa
open Go.RowKit Go.MapKept
theorem mk8_or : ∀ b0 b1 b2 b3 b4 b5 b6 b7 : Bool, ∀ r : Fin 8, bits .or .u8 ((mk8 b0 b1 b2 b3 b4 b5 b6 b7 : Nat) : Int) ((2 ^ r.val : Nat) : Int) = ((mk8 (b0 || (r.val == 0)) (b1 || (r.val == 1)) (b2 || (r.val == 2)) (b3 || (r.val == 3)) (b4 || (r.val == 4)) (b5 || (r.val == 5)) (b6 || (r.val == 6)) (b7 || (r.val == 7)) : Nat) : Int) := by decide +kernel
theorem b8_or (f : Nat → Bool) (a : Nat) {r : Nat} (hr : r < 8) (h0 : f (a + r) = false) : bits .or .u8 ((b8 f a : Nat) : Int) ((2 ^ r : Nat) : Int) = ((b8 (flip f (a + r)) a : Nat) : Int) := by
  refine (mk8_or _ _ _ _ _ _ _ _ ⟨r, hr⟩).trans ?_
  have e : ∀ t, flip f (a + r) (a + t) = (f (a + t) || (r == t)) := fun t => by
    have e1 : (a + t == a + r) = (r == t) := by rw [Bool.eq_iff_iff, beq_iff_eq, beq_iff_eq]; omega
    unfold flip
    rw [e1]
    by_cases h : r = t
    · subst h; simp [h0]
    · have : (r == t) = false := beq_eq_false_iff_ne.2 h
      simp [this]
  unfold b8
  rw [show flip f (a + r) a = (f a || (r == 0)) from e 0, e 1, e 2, e 3, e 4, e 5, e 6, e 7]
theorem mod60 (n : Int) : ∃ N : Nat, N < 60 ∧ (wrap64 (n.tmod 60 + 60)).tmod 60 = (N : Int) := by
  have h1 : n.tmod 60 < 60 := Int.tmod_lt_of_pos n (by decide)
  have h2 : (-n).tmod 60 < 60 := Int.tmod_lt_of_pos (-n) (by decide)
  rw [Int.neg_tmod] at h2
  have h3 : wrap64 (n.tmod 60 + 60) = n.tmod 60 + 60 := by simp only [wrap64]; omega
  rw [h3]
  have h4 : 0 ≤ (n.tmod 60 + 60).tmod 60 := Int.tmod_nonneg 60 (by omega)
  have h5 : (n.tmod 60 + 60).tmod 60 < 60 := Int.tmod_lt_of_pos _ (by decide)
  exact ⟨((n.tmod 60 + 60).tmod 60).toNat, by omega, by omega⟩
/-- The two rows of the law: what is taken, what was at the last Commit. -/
def rows (A D : Nat) (f g : Nat → Bool) : List (Nat × Obj) := [(A, .cells (arrB f 61) 71 (0, 0)), (D, .cells (arrB g 61) 71 (0, 0))]
structure PlAt (w : World) (s p l m h N A D : Nat) (B : Nat) (f g : Nat → Bool) (all : Nat) (wr : World) : Prop where
  al : AlAt w s p l m h 5 N (rows A D f g) B f g all wr
  out : ∀ y, N ≤ y → f y = false ∧ g y = false
  hA : w.heap.size ≤ A ∧ w.heap.size ≤ D ∧ A ≠ D
/-- A block of a text, by its number. -/
def blkAt (k : Nat) : Code → Option Code
  | .block j c => if j = k then some c else blkAt k c
  | .seq a b => match blkAt k a with
    | some c => some c
    | none => blkAt k b
  | .loop c => blkAt k c
  | .cond _ a b => match blkAt k a with
    | some c => some c
    | none => blkAt k b
  | _ => none
noncomputable def plB (k : Nat) : Code := ((Try.f10.body.bind (blkAt k)).getD .skip)
theorem Try.size61 : (Try.prog.info? 71).map (·.size) = some 61 := by kernel_rfl
theorem arrB_size (F : Nat → Bool) (n : Nat) : (arrB F n).size = n := by simp [arrB]
theorem arrB_range {w : World} {g : Nat} {F : Nat → Bool} {n : Nat} {T : TypeId} {fr : Nat × Nat} (h : w.heap[g]? = some (.cells (arrB F n) T fr)) : w.rangeAt g 0 (arrB F n).toList := fun j v hv => by
  rw [box_cell h, Nat.zero_add]; simpa using hv
theorem arrB_one (F : Nat → Bool) (n : Nat) : (arrB F n).all (·.oneCell') = true := by
  simp [arrB, Value.oneCell']
theorem set_flip {f : Nat → Bool} {t : Nat} {x : Bool} (h : f t = !x) : (fun q => if q = t then x else f q) = flip f t := by
  funext q
  unfold flip
  by_cases e : q = t
  · subst e; rw [h]; cases x <;> simp
  · have : (q == t) = false := beq_eq_false_iff_ne.2 e
    simp [e, this]
section
variable {w wr : World} {s p l m h N A D B : Nat} {f g : Nat → Bool} {all : Nat}
theorem PlAt.rowA (hP : PlAt w s p l m h N A D B f g all wr) : wr.heap[A]? = some (.cells (arrB f 61) 71 (0, 0)) := hP.al.keep (A, .cells (arrB f 61) 71 (0, 0)) (by simp [rows])
theorem PlAt.rowD (hP : PlAt w s p l m h N A D B f g all wr) : wr.heap[D]? = some (.cells (arrB g 61) 71 (0, 0)) := hP.al.keep (D, .cells (arrB g 61) 71 (0, 0)) (by simp [rows])
/-- The rows turn. -/
theorem pl_rows {f' g' f0 g0 : Nat → Bool} {W : World} (hP : AlAt w s p l m h 5 N (rows A D f0 g0) B f g all wr) (hA : w.heap.size ≤ A ∧ w.heap.size ≤ D ∧ A ≠ D) {r : List Nat} (hr : ∀ x ∈ r, x = A ∨ x = D) (hf : Fr r wr W) (h1 : W.heap[A]? = some (.cells (arrB f' 61) 71 (0, 0))) (h2 : W.heap[D]? = some (.cells (arrB g' 61) 71 (0, 0))) :
    AlAt w s p l m h 5 N (rows A D f' g') B f g all W := by
  refine hP.regard hf (fun x hx => .inr ?_) (rows A D f' g') (fun y hy => ?_)
  · rcases hr x hx with rfl | rfl
    · exact ⟨(x, .cells (arrB f0 61) 71 (0, 0)), by simp [rows], rfl, hA.1⟩
    · exact ⟨(x, .cells (arrB g0 61) 71 (0, 0)), by simp [rows], rfl, hA.2.1⟩
  · simp only [rows, List.mem_cons, List.not_mem_nil, or_false] at hy
    rcases hy with rfl | rfl
    · exact ⟨h1, .inr ⟨(A, .cells (arrB f0 61) 71 (0, 0)), by simp [rows], rfl⟩⟩
    · exact ⟨h2, .inr ⟨(D, .cells (arrB g0 61) 71 (0, 0)), by simp [rows], rfl⟩⟩
theorem PlAt.more (hP : PlAt w s p l m h N A D B f g all wr) {B' : Nat} (hB : B ≤ B') : PlAt w s p l m h N A D B' f g all wr := ⟨hP.al.more hB, hP.out, hP.hA⟩
/-- One bit turns, in the row too. -/
theorem pl_one {t : Nat} {x : Bool} {wr0 : World} (hA : AlAt w s p l m h 5 N (rows A D f g) B (flip f t) g all wr) (hP : PlAt w s p l m h N A D B f g all wr0) (ht : t < N) (hN : N ≤ 60) (hx : f t = !x) : PlAt w s p l m h N A D B (flip f t) g all (wr.setCell ⟨A, t, none⟩ (.bool x)) := by
  have h1 := hA.keep (A, .cells (arrB f 61) 71 (0, 0)) (by simp [rows])
  have h2 := hA.keep (D, .cells (arrB g 61) 71 (0, 0)) (by simp [rows])
  have hone : Fr [A] wr (wr.setCell ⟨A, t, none⟩ (.bool x)) := (Fr.refl _ _).setCell (.inl (by simp)) _
  have hset := box_set h1 t (.bool x)
  rw [arrB_set f (by omega), set_flip hx] at hset
  refine ⟨pl_rows hA hP.hA (by simp) hone hset (hone.keep h2 (by simpa using fun e => hP.hA.2.2 e.symm)), fun y hy => ⟨?_, (hP.out y hy).2⟩, hP.hA⟩
  have : (y == t) = false := beq_eq_false_iff_ne.2 (by omega)
  simp [flip, this, (hP.out y hy).1]
end
theorem give_out {n : Nat} {f f' : Nat → Bool} {e : Ending} {i : Int} (h : GiveDone n f i e f') (hi : isIn i n = false) : e = .returned (.int .i64 1) ∧ f' = f := by
  rcases h with ⟨y, hy, hyl, hy0, _, _⟩ | ⟨_, h1, h2⟩
  · subst hy
    have : isIn (y : Int) n = true := by simp [isIn]; omega
    rw [this] at hi; cases hi
  · exact ⟨h1, h2⟩
theorem setRow_same {w : World} {b : Nat} {cs cur : Array Value} {T : TypeId} {fr : Nat × Nat} (h : w.heap[b]? = some (.cells cur T fr)) : (w.setRow b cs).heap[b]? = some (.cells cs T fr) := by
  exact setRow_heap _ _ _ _ _ _ h
set_option maxRecDepth 1000000 in
set_option maxHeartbeats 16000000 in
theorem sw2 {s1 s2 s3 s4 s9 s12 s13 s14 s15 s16 s17 s18 s19 s20 s21 s22 s23 s24 s25 s26 s27 s28 s29 s30 s31 s32 s33 s34 s35 s36 s37 s38 s39 s40 s41 s42 s43 s44 s45 s46 s47 s48 s49 s50 s51 s52 s53 s54 s55 s56 s57 s58 s59 s60 s61 s62 s63 s64 s65 s66 s68 s69 s70 s71 s72 s73 s74 s75 s76 s77 s78 s79 s80 s81 s82 s83 s84 s85 s86 s87 s88 s89 s90 s91 s92 s93 s94 s95 s96 s97 s98 s99 s100 s101 s102 s103 s104 s105 s106 s107 s108 s109 s110 s111 s112 s113 s114 s115 s116 s117 s118 s119 s120 s121 s122 s123 s124 s125 s126 s127 s128 s129 s130 s131 s132 s133 s134 s135 s136 s137 s138 s139 s140 s141 s142 s143 s144 s145 s146 s147 s148 s149 s150 s151 s152 s153 s154 s155 s156 s157 s158 s159 s160 s161 s162 s163 s164 s165 s166 s167 s168 s169 s170 s171 s172 s173 s174 s175 s176 s177 s178 s179 s180 s181 s182 s183 s184 s185 s186 s187 s188 s189 s190 s191 s192 s193 s194 s195 s196 s197 s198 s199 s200 s201 s202 s203 s204 s205 s206 s207 s208 s209 s210 s211 s212 s213 s214 s215 s216 s217 s218 s219 s220 s221 s222 : Value} {Q : Exit → Act → World → Prop} (w wr : World) (s p l m h N A D B : Nat) (f g : Nat → Bool) (all : Nat) (kind k : Int) (ib : Bool) (hib : isIn k N = ib) (hN : 1 ≤ N ∧ N ≤ 60) (hB : B ≤ 1000000) (hall : all < 1000)
    (hP : PlAt w s p l m h N A D B f g all wr)
    (hout : ∀ (u12 u13 u14 u15 u16 u17 u68 u69 u70 u71 u72 u73 u74 u75 u76 u77 u78 u79 u80 u81 u82 u83 u84 u85 u86 u87 u88 u89 u90 u91 u92 u93 u94 u95 u96 u97 u98 u99 u100 u101 u102 u103 u104 u105 u106 u107 u108 u109 u110 u111 u112 u113 u114 u115 u116 u117 u118 u119 u120 u121 u122 u123 u124 u125 u126 u127 u128 u129 u130 u131 u132 u133 u134 u135 u136 u137 u138 u139 u140 u141 u142 u143 u144 u145 u146 u147 u148 u149 u150 u151 u152 u153 u154 u155 u156 u157 u158 u159 u160 u161 u162 u163 u164 u165 u166 u167 u168 u169 u170 u171 u172 u173 : Value) (w' : World) (f' g' : Nat → Bool) (all' : Nat), all' ≤ all + 1 → PlAt w s p l m h N A D (B + 900) f' g' all' w' → Q .normal ⟨#[.int .i64 (N : Int), s1, s2, s3, s4, .pointer (some ⟨s, 0, none⟩), .pointer (some ⟨h, 0, none⟩), .pointer (some ⟨A, 0, none⟩), .pointer (some ⟨D, 0, none⟩), s9, .int .i64 k, .bool ib, u12, u13, u14, u15, u16, u17, s18, s19, s20, s21, s22, s23, s24, s25, s26, s27, s28, s29, s30, s31, s32, s33, s34, s35, s36, s37, s38, s39, s40, s41, s42, s43, s44, s45, s46, s47, s48, s49, s50, s51, s52, s53, s54, s55, s56, s57, s58, s59, s60, s61, s62, s63, s64, s65, s66, .int .i64 kind, u68, u69, u70, u71, u72, u73, u74, u75, u76, u77, u78, u79, u80, u81, u82, u83, u84, u85, u86, u87, u88, u89, u90, u91, u92, u93, u94, u95, u96, u97, u98, u99, u100, u101, u102, u103, u104, u105, u106, u107, u108, u109, u110, u111, u112, u113, u114, u115, u116, u117, u118, u119, u120, u121, u122, u123, u124, u125, u126, u127, u128, u129, u130, u131, u132, u133, u134, u135, u136, u137, u138, u139, u140, u141, u142, u143, u144, u145, u146, u147, u148, u149, u150, u151, u152, u153, u154, u155, u156, u157, u158, u159, u160, u161, u162, u163, u164, u165, u166, u167, u168, u169, u170, u171, u172, u173, s174, s175, s176, s177, s178, s179, s180, s181, s182, s183, s184, s185, s186, s187, s188, s189, s190, s191, s192, s193, s194, s195, s196, s197, s198, s199, s200, s201, s202, s203, s204, s205, s206, s207, s208, s209, s210, s211, s212, s213, s214, s215, s216, s217, s218, s219, s220, s221, s222], []⟩ w') :
    (Code.block 2 (plB 2)).wp Try.prog Q ⟨#[.int .i64 (N : Int), s1, s2, s3, s4, .pointer (some ⟨s, 0, none⟩), .pointer (some ⟨h, 0, none⟩), .pointer (some ⟨A, 0, none⟩), .pointer (some ⟨D, 0, none⟩), s9, .int .i64 k, .bool ib, s12, s13, s14, s15, s16, s17, s18, s19, s20, s21, s22, s23, s24, s25, s26, s27, s28, s29, s30, s31, s32, s33, s34, s35, s36, s37, s38, s39, s40, s41, s42, s43, s44, s45, s46, s47, s48, s49, s50, s51, s52, s53, s54, s55, s56, s57, s58, s59, s60, s61, s62, s63, s64, s65, s66, .int .i64 kind, s68, s69, s70, s71, s72, s73, s74, s75, s76, s77, s78, s79, s80, s81, s82, s83, s84, s85, s86, s87, s88, s89, s90, s91, s92, s93, s94, s95, s96, s97, s98, s99, s100, s101, s102, s103, s104, s105, s106, s107, s108, s109, s110, s111, s112, s113, s114, s115, s116, s117, s118, s119, s120, s121, s122, s123, s124, s125, s126, s127, s128, s129, s130, s131, s132, s133, s134, s135, s136, s137, s138, s139, s140, s141, s142, s143, s144, s145, s146, s147, s148, s149, s150, s151, s152, s153, s154, s155, s156, s157, s158, s159, s160, s161, s162, s163, s164, s165, s166, s167, s168, s169, s170, s171, s172, s173, s174, s175, s176, s177, s178, s179, s180, s181, s182, s183, s184, s185, s186, s187, s188, s189, s190, s191, s192, s193, s194, s195, s196, s197, s198, s199, s200, s201, s202, s203, s204, s205, s206, s207, s208, s209, s210, s211, s212, s213, s214, s215, s216, s217, s218, s219, s220, s221, s222], []⟩ wr := by
  conv => arg 2; arg 2; whnf
  have HOUT := Lib.hid hout; have HP := Lib.hid hP; have HIB := Lib.hid hib
  have hra := hP.rowA
  have hrc : ∀ t, t < 61 → wr.cell? ⟨A, t, none⟩ = some (.bool (f t)) := fun t ht => (box_cell hra t).trans (arrB_get f ht)
  have HRC := Lib.hid hrc
  clear hout hP hib hra hrc
  by_cases c0 : kind = 0
  · subst c0
    go_wp2_with fail
    go_loopw [12] (fun v12 wx => ∃ t : Nat, t ≤ N ∧ v12 = .int .i64 t ∧ wr = wx ∧ ∀ y, y < t → f y = true) (fun v12 _ => N - (intOf v12).toNat)
    case atStart => exact ⟨0, by omega, rfl, rfl, fun y hy => by omega⟩
    case round =>
      obtain ⟨t, ht, rfl, rfl, hall⟩ := hrel
      have hw1 : IntKind.i64.wrap ((t : Int) + 1) = (t : Int) + 1 := IntWalk.i64_in _ (by omega)
      have HAL := Lib.hid hall
      clear hall
      by_cases htn : t < N
      · have t1 : (t : Int) < (N : Int) := by omega
        have t2 : (0 : Int) ≤ (t : Int) := by omega
        have t3 : ((t : Int)).toNat = t := by omega
        have t4 : (t : Int) < 61 := by omega
        have hct := HRC.out t (by omega)
        cases hft : f t with
        | true =>
          rw [hft] at hct
          have HFT := Lib.hid hft
          clear hft
          go_wp2_with fail
          go_roundw
          case rel =>
            refine ⟨t + 1, by omega, by go_num, trivial, fun y hy => ?_⟩
            by_cases e : y < t
            · exact HAL.out y e
            · obtain rfl : y = t := by omega
              exact HFT.out
          case measure => simp [intOf]; omega
        | false =>
          rw [hft] at hct
          have HT := Lib.hid (al_take HP.out.al (by omega) (by omega) (by omega))
          have HFT := Lib.hid hft
          have tn : ((t : Int) == (N : Int)) = false := beq_eq_false_iff_ne.2 (by omega)
          clear hft
          go_wp2_with fail
          refine HT.out.mono ?_
          rintro e w2 ⟨f2, hd, hA⟩
          obtain ⟨rfl, rfl⟩ := done_x hd t htn HAL.out HFT.out
          have hP2 := pl_one (x := true) hA (HP.out.more (by omega)) htn hN.2 HFT.out
          have hfz := box_free (hA.keep (A, .cells (arrB f 61) 71 (0, 0)) (by simp [rows])) t
          have hcz : w2.cell? ⟨A, t, none⟩ = some (.bool false) := by
            have := box_cell (hA.keep (A, .cells (arrB f 61) 71 (0, 0)) (by simp [rows])) t
            rw [this, arrB_get f (by omega), HFT.out]
          have HP2 := Lib.hid hP2
          clear hP2 hA hd HT hct
          go_wp2_with fail
          exact HOUT.out _ _ _ _ _ _ _ _ _ _ _ _ _ _ _ _ _ _ _ _ _ _ _ _ _ _ _ _ _ _ _ _ _ _ _ _ _ _ _ _ _ _ _ _ _ _ _ _ _ _ _ _ _ _ _ _ _ _ _ _ _ _ _ _ _ _ _ _ _ _ _ _ _ _ _ _ _ _ _ _ _ _ _ _ _ _ _ _ _ _ _ _ _ _ _ _ _ _ _ _ _ _ _ _ _ _ _ _ _ _ _ _ _ _ _ _ (by omega) (HP2.out.more (by omega))
      · obtain rfl : N = t := by omega
        have tn : ¬ (N : Int) < (N : Int) := by omega
        have HT := Lib.hid (al_take HP.out.al (by omega) (by omega) (by omega))
        go_wp2_with fail
        refine HT.out.mono ?_
        rintro e w2 ⟨f2, hd, hA⟩
        obtain ⟨rfl, rfl⟩ := done_full hd HAL.out
        have HP2 : Hid (PlAt w s p l m h N A D (B + 17) f2 g all w2) := Lib.hid ⟨hA, HP.out.out, HP.out.hA⟩
        clear hA hd HT
        go_wp2_with fail
        exact HOUT.out _ _ _ _ _ _ _ _ _ _ _ _ _ _ _ _ _ _ _ _ _ _ _ _ _ _ _ _ _ _ _ _ _ _ _ _ _ _ _ _ _ _ _ _ _ _ _ _ _ _ _ _ _ _ _ _ _ _ _ _ _ _ _ _ _ _ _ _ _ _ _ _ _ _ _ _ _ _ _ _ _ _ _ _ _ _ _ _ _ _ _ _ _ _ _ _ _ _ _ _ _ _ _ _ _ _ _ _ _ _ _ _ _ _ _ _ (by omega) (HP2.out.more (by omega))
  · have k0 : (kind == 0) = false := beq_eq_false_iff_ne.2 c0
    by_cases c1 : kind = 1
    · subst c1
      cases ib with
      | true =>
        obtain ⟨x, rfl⟩ : ∃ x : Nat, k = x := ⟨k.toNat, by have := HIB.out; simp [isIn] at this; omega⟩
        have hx : x < N := by have := HIB.out; simp [isIn] at this; omega
        have x1 : (x : Int) < 60 := by omega
        have x2 : (0 : Int) ≤ (x : Int) := by omega
        have x3 : ((x : Int)).toNat = x := by omega
        have x4 : (x : Int) < 61 := by omega
        have hct := HRC.out x (by omega)
        have HT := Lib.hid (al_give HP.out.al (by omega) (by omega) (by omega) (x : Int))
        have hmm : max (min (x : Int) 60) 0 = (x : Int) := by omega
        cases hfx : f x with
        | true =>
          have HFX := Lib.hid hfx
          clear hfx hct
          go_wp2_with fail
          refine HT.out.mono ?_
          rintro e w2 ⟨f2, hd, hA⟩
          obtain ⟨rfl, rfl⟩ := give_x hd x rfl hx HFX.out
          have hP2 := pl_one (x := false) hA (HP.out.more (by omega)) hx hN.2 HFX.out
          have hbx := hA.keep (A, .cells (arrB f 61) 71 (0, 0)) (by simp [rows])
          have hfz := box_free hbx x
          have hcz : w2.cell? ⟨A, x, none⟩ = some (.bool true) := by
            have := box_cell hbx x
            rw [this, arrB_get f (by omega), HFX.out]
          have HP2 := Lib.hid hP2
          clear hP2 hA hd HT hbx
          go_wp2_with fail
          exact HOUT.out _ _ _ _ _ _ _ _ _ _ _ _ _ _ _ _ _ _ _ _ _ _ _ _ _ _ _ _ _ _ _ _ _ _ _ _ _ _ _ _ _ _ _ _ _ _ _ _ _ _ _ _ _ _ _ _ _ _ _ _ _ _ _ _ _ _ _ _ _ _ _ _ _ _ _ _ _ _ _ _ _ _ _ _ _ _ _ _ _ _ _ _ _ _ _ _ _ _ _ _ _ _ _ _ _ _ _ _ _ _ _ _ _ _ _ _ (by omega) (HP2.out.more (by omega))
        | false =>
          have HFX := Lib.hid hfx
          clear hfx hct
          go_wp2_with fail
          refine HT.out.mono ?_
          rintro e w2 ⟨f2, hd, hA⟩
          obtain ⟨rfl, rfl⟩ := give_free hd x rfl HFX.out
          have hbx := hA.keep (A, .cells (arrB f2 61) 71 (0, 0)) (by simp [rows])
          have hcz : w2.cell? ⟨A, x, none⟩ = some (.bool false) := by
            have := box_cell hbx x
            rw [this, arrB_get f2 (by omega), HFX.out]
          have HP2 : Hid (PlAt w s p l m h N A D (B + 17) f2 g all w2) := Lib.hid ⟨hA, HP.out.out, HP.out.hA⟩
          clear hA hd HT hbx
          go_wp2_with fail
          exact HOUT.out _ _ _ _ _ _ _ _ _ _ _ _ _ _ _ _ _ _ _ _ _ _ _ _ _ _ _ _ _ _ _ _ _ _ _ _ _ _ _ _ _ _ _ _ _ _ _ _ _ _ _ _ _ _ _ _ _ _ _ _ _ _ _ _ _ _ _ _ _ _ _ _ _ _ _ _ _ _ _ _ _ _ _ _ _ _ _ _ _ _ _ _ _ _ _ _ _ _ _ _ _ _ _ _ _ _ _ _ _ _ _ _ _ _ _ _ (by omega) (HP2.out.more (by omega))
      | false =>
        have HT := Lib.hid (al_give HP.out.al (by omega) (by omega) (by omega) k)
        go_wp2_with fail
        refine HT.out.mono ?_
        rintro e w2 ⟨f2, hd, hA⟩
        obtain ⟨rfl, rfl⟩ := give_out hd HIB.out
        have HP2 : Hid (PlAt w s p l m h N A D (B + 17) f2 g all w2) := Lib.hid ⟨hA, HP.out.out, HP.out.hA⟩
        clear hA hd HT
        go_wp2_with fail
        exact HOUT.out _ _ _ _ _ _ _ _ _ _ _ _ _ _ _ _ _ _ _ _ _ _ _ _ _ _ _ _ _ _ _ _ _ _ _ _ _ _ _ _ _ _ _ _ _ _ _ _ _ _ _ _ _ _ _ _ _ _ _ _ _ _ _ _ _ _ _ _ _ _ _ _ _ _ _ _ _ _ _ _ _ _ _ _ _ _ _ _ _ _ _ _ _ _ _ _ _ _ _ _ _ _ _ _ _ _ _ _ _ _ _ _ _ _ _ _ (by omega) (HP2.out.more (by omega))
    · have k1 : (kind == 1) = false := beq_eq_false_iff_ne.2 c1
      by_cases c2 : kind = 2
      · subst c2
        have ht := al_taken HP.out.al (by omega) (by omega) (by omega) k
        rw [HIB.out] at ht
        cases ib with
        | true =>
          obtain ⟨x, rfl⟩ : ∃ x : Nat, k = x := ⟨k.toNat, by have := HIB.out; simp [isIn] at this; omega⟩
          have hx : x < N := by have := HIB.out; simp [isIn] at this; omega
          have x2 : (0 : Int) ≤ (x : Int) := by omega
          have x3 : ((x : Int)).toNat = x := by omega
          have x4 : (x : Int) < 61 := by omega
          rw [x3, Bool.true_and, if_pos rfl] at ht
          cases hfx : f x with
          | true =>
            rw [hfx] at ht
            have HT := Lib.hid ht
            have HFX := Lib.hid hfx
            clear hfx ht
            go_wp2_with fail
            refine HT.out.mono ?_
            rintro e w2 ⟨rfl, hA⟩
            have hcz : w2.cell? ⟨A, x, none⟩ = some (.bool true) := by
              have := box_cell (hA.keep (A, .cells (arrB f 61) 71 (0, 0)) (by simp [rows])) x
              rw [this, arrB_get f (by omega), HFX.out]
            have HP2 : Hid (PlAt w s p l m h N A D (B + 17) f g all w2) := Lib.hid ⟨hA, HP.out.out, HP.out.hA⟩
            clear hA HT
            go_wp2_with fail
            exact HOUT.out _ _ _ _ _ _ _ _ _ _ _ _ _ _ _ _ _ _ _ _ _ _ _ _ _ _ _ _ _ _ _ _ _ _ _ _ _ _ _ _ _ _ _ _ _ _ _ _ _ _ _ _ _ _ _ _ _ _ _ _ _ _ _ _ _ _ _ _ _ _ _ _ _ _ _ _ _ _ _ _ _ _ _ _ _ _ _ _ _ _ _ _ _ _ _ _ _ _ _ _ _ _ _ _ _ _ _ _ _ _ _ _ _ _ _ _ (by omega) (HP2.out.more (by omega))
          | false =>
            rw [hfx] at ht
            have HT := Lib.hid ht
            have HFX := Lib.hid hfx
            clear hfx ht
            go_wp2_with fail
            refine HT.out.mono ?_
            rintro e w2 ⟨rfl, hA⟩
            have hcz : w2.cell? ⟨A, x, none⟩ = some (.bool false) := by
              have := box_cell (hA.keep (A, .cells (arrB f 61) 71 (0, 0)) (by simp [rows])) x
              rw [this, arrB_get f (by omega), HFX.out]
            have HP2 : Hid (PlAt w s p l m h N A D (B + 17) f g all w2) := Lib.hid ⟨hA, HP.out.out, HP.out.hA⟩
            clear hA HT
            go_wp2_with fail
            exact HOUT.out _ _ _ _ _ _ _ _ _ _ _ _ _ _ _ _ _ _ _ _ _ _ _ _ _ _ _ _ _ _ _ _ _ _ _ _ _ _ _ _ _ _ _ _ _ _ _ _ _ _ _ _ _ _ _ _ _ _ _ _ _ _ _ _ _ _ _ _ _ _ _ _ _ _ _ _ _ _ _ _ _ _ _ _ _ _ _ _ _ _ _ _ _ _ _ _ _ _ _ _ _ _ _ _ _ _ _ _ _ _ _ _ _ _ _ _ (by omega) (HP2.out.more (by omega))
        | false =>
          rw [Bool.false_and, if_neg (by simp)] at ht
          have HT := Lib.hid ht
          clear ht
          go_wp2_with fail
          refine HT.out.mono ?_
          rintro e w2 ⟨rfl, hA⟩
          have HP2 : Hid (PlAt w s p l m h N A D (B + 17) f g all w2) := Lib.hid ⟨hA, HP.out.out, HP.out.hA⟩
          clear hA HT
          go_wp2_with fail
          exact HOUT.out _ _ _ _ _ _ _ _ _ _ _ _ _ _ _ _ _ _ _ _ _ _ _ _ _ _ _ _ _ _ _ _ _ _ _ _ _ _ _ _ _ _ _ _ _ _ _ _ _ _ _ _ _ _ _ _ _ _ _ _ _ _ _ _ _ _ _ _ _ _ _ _ _ _ _ _ _ _ _ _ _ _ _ _ _ _ _ _ _ _ _ _ _ _ _ _ _ _ _ _ _ _ _ _ _ _ _ _ _ _ _ _ _ _ _ _ (by omega) (HP2.out.more (by omega))
      · have k2 : (kind == 2) = false := beq_eq_false_iff_ne.2 c2
        by_cases c3 : kind = 3
        · subst c3
          have HT := Lib.hid (al_commit HP.out.al (by omega) (by omega))
          go_wp2_with fail
          refine HT.out.mono ?_
          rintro e w2 ⟨rfl, hA⟩
          have h1 := hA.keep (A, .cells (arrB f 61) 71 (0, 0)) (by simp [rows])
          have h2 := hA.keep (D, .cells (arrB g 61) 71 (0, 0)) (by simp [rows])
          have hR := arrB_range h1
          have hfs : Fr [D] w2 (w2.setRow D (arrB f 61)) := (Fr.refl _ _).setRow (.inl (by simp))
          have h3 : (w2.setRow D (arrB f 61)).heap[D]? = some (.cells (arrB f 61) 71 (0, 0)) := setRow_same h2
          have HP2 : Hid (PlAt w s p l m h N A D (B + 800) f f (all + 1) (w2.setRow D (arrB f 61))) := Lib.hid ⟨pl_rows hA HP.out.hA (by simp) hfs (hfs.keep h1 (by simpa using HP.out.hA.2.2)) h3, fun y hy => ⟨(HP.out.out y hy).1, (HP.out.out y hy).1⟩, HP.out.hA⟩
          have HR := Lib.hid hR; have H2 := Lib.hid h2
          clear hA HT h1 h2 hR hfs h3
          go_wp2_with (first
            | ((with_reducible_and_instances refine id (α := wpList _ _ _ (⟨some 173, .load 71 _, _, _, _, _⟩ :: _) _ _) ?_); refine wL_loadMid rfl 71 _ rfl A 0 rfl (arrB f 61).toList HR.out 61 4 Try.underlying71 (by simp [Try.size61, arrB_size]) ?_; rw [Array.toArray_toList])
            | ((with_reducible_and_instances refine id (α := wpList _ _ _ (⟨none, .store 71 _ _, _, _, _, _⟩ :: _) _ _) ?_); refine wL_storeW rfl 71 _ _ rfl D rfl (arrB f 61) rfl 71 (arrB g 61) H2.out (by simp [Try.size61, arrB_size]) (by simp [arrB_size]) (arrB_one _ _) ?_)
            | fail)
          exact HOUT.out _ _ _ _ _ _ _ _ _ _ _ _ _ _ _ _ _ _ _ _ _ _ _ _ _ _ _ _ _ _ _ _ _ _ _ _ _ _ _ _ _ _ _ _ _ _ _ _ _ _ _ _ _ _ _ _ _ _ _ _ _ _ _ _ _ _ _ _ _ _ _ _ _ _ _ _ _ _ _ _ _ _ _ _ _ _ _ _ _ _ _ _ _ _ _ _ _ _ _ _ _ _ _ _ _ _ _ _ _ _ _ _ _ _ _ _ (by omega) (HP2.out.more (by omega))
        · have k3 : (kind == 3) = false := beq_eq_false_iff_ne.2 c3
          have HT := Lib.hid (al_abort HP.out.al)
          go_wp2_with fail
          refine HT.out.mono ?_
          rintro e w2 ⟨rfl, hA⟩
          have h1 := hA.keep (A, .cells (arrB f 61) 71 (0, 0)) (by simp [rows])
          have h2 := hA.keep (D, .cells (arrB g 61) 71 (0, 0)) (by simp [rows])
          have hR := arrB_range h2
          have hfs : Fr [A] w2 (w2.setRow A (arrB g 61)) := (Fr.refl _ _).setRow (.inl (by simp))
          have h3 : (w2.setRow A (arrB g 61)).heap[A]? = some (.cells (arrB g 61) 71 (0, 0)) := setRow_same h1
          have HP2 : Hid (PlAt w s p l m h N A D B g g all (w2.setRow A (arrB g 61))) := Lib.hid ⟨pl_rows hA HP.out.hA (by simp) hfs h3 (hfs.keep h2 (by simpa using fun e => HP.out.hA.2.2 e.symm)), fun y hy => ⟨(HP.out.out y hy).2, (HP.out.out y hy).2⟩, HP.out.hA⟩
          have HR := Lib.hid hR; have H2 := Lib.hid h1
          clear hA HT h1 h2 hR hfs h3
          go_wp2_with (first
            | ((with_reducible_and_instances refine id (α := wpList _ _ _ (⟨some 70, .load 71 _, _, _, _, _⟩ :: _) _ _) ?_); refine wL_loadMid rfl 71 _ rfl D 0 rfl (arrB g 61).toList HR.out 61 4 Try.underlying71 (by simp [Try.size61, arrB_size]) ?_; rw [Array.toArray_toList])
            | ((with_reducible_and_instances refine id (α := wpList _ _ _ (⟨none, .store 71 _ _, _, _, _, _⟩ :: _) _ _) ?_); refine wL_storeW rfl 71 _ _ rfl A rfl (arrB g 61) rfl 71 (arrB f 61) H2.out (by simp [Try.size61, arrB_size]) (by simp [arrB_size]) (arrB_one _ _) ?_)
            | fail)
          exact HOUT.out _ _ _ _ _ _ _ _ _ _ _ _ _ _ _ _ _ _ _ _ _ _ _ _ _ _ _ _ _ _ _ _ _ _ _ _ _ _ _ _ _ _ _ _ _ _ _ _ _ _ _ _ _ _ _ _ _ _ _ _ _ _ _ _ _ _ _ _ _ _ _ _ _ _ _ _ _ _ _ _ _ _ _ _ _ _ _ _ _ _ _ _ _ _ _ _ _ _ _ _ _ _ _ _ _ _ _ _ _ _ _ _ _ _ _ _ (by omega) (HP2.out.more (by omega))
end Go.Proofs.Ytoifpbifipgpkaa
