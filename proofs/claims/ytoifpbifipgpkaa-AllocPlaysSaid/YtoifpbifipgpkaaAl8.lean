/-
  alloc: AllocFull.
-/
import Derived.Test.YtoifpbifipgpkaaAl7
import Derived.Test.YtoifpbifipgpkaaWalRow
namespace Go.Proofs.Ytoifpbifipgpkaa
open Go.RowKit Go.MapKept
theorem Try.infoBool : (Try.prog.info? 4).map (fun i => (i.zero, i.size, i.bytes)) = some (some (.bool false), 1, 1) := by kernel_rfl
/-- Bools in a row. -/
def arrB (F : Nat → Bool) (n : Nat) : Array Value := ((List.range n).map fun p => Value.bool (F p)).toArray
theorem arrB_get (F : Nat → Bool) {n p : Nat} (h : p < n) : (arrB F n)[p]? = some (.bool (F p)) := by simp [arrB, h]
theorem arrB_set (F : Nat → Bool) {n p : Nat} (_h : p < n) (x : Bool) : (arrB F n).setIfInBounds p (.bool x) = arrB (fun q => if q = p then x else F q) n := by
  apply Array.ext_getElem?
  intro q
  by_cases hq : q < n
  · by_cases e : p = q
    · subst e
      rw [Array.getElem?_setIfInBounds_self_of_lt (by simp [arrB, hq]), arrB_get _ hq, if_pos rfl]
    · have e' : ¬ q = p := fun h => e h.symm
      rw [Array.getElem?_setIfInBounds_ne e, arrB_get _ hq, arrB_get _ hq, if_neg e']
  · simp [arrB, hq]
theorem made_bools (n : Nat) : madeCells #[.bool false] n = arrB (fun _ => false) n := by
  apply Array.ext_getElem?
  intro j
  by_cases hj : j < n
  · simp [madeCells, arrB, hj, Nat.mod_one]
  · simp [madeCells, arrB, hj]
theorem mod600 (n : Int) : ∃ N : Nat, N < 600 ∧ (wrap64 (n.tmod 600 + 600)).tmod 600 = (N : Int) := by
  have h1 : n.tmod 600 < 600 := Int.tmod_lt_of_pos n (by decide)
  have h2 : (-n).tmod 600 < 600 := Int.tmod_lt_of_pos (-n) (by decide)
  rw [Int.neg_tmod] at h2
  have h3 : wrap64 (n.tmod 600 + 600) = n.tmod 600 + 600 := by simp only [wrap64]; omega
  rw [h3]
  have h4 : 0 ≤ (n.tmod 600 + 600).tmod 600 := Int.tmod_nonneg 600 (by omega)
  have h5 : (n.tmod 600 + 600).tmod 600 < 600 := Int.tmod_lt_of_pos _ (by decide)
  exact ⟨((n.tmod 600 + 600).tmod 600).toNat, by omega, by omega⟩
theorem modN (z : Int) (N : Nat) (hN : 1 ≤ N ∧ N ≤ 1000000) : ∃ q : Nat, q < N ∧ (wrap64 (z.tmod N + N)).tmod N = (q : Int) := by
  have h1 : z.tmod N < N := Int.tmod_lt_of_pos z (by omega)
  have h2 : (-z).tmod N < N := Int.tmod_lt_of_pos (-z) (by omega)
  rw [Int.neg_tmod] at h2
  have h3 : wrap64 (z.tmod N + N) = z.tmod N + N := by simp only [wrap64]; omega
  rw [h3]
  have h4 : 0 ≤ (z.tmod N + N).tmod N := Int.tmod_nonneg N (by omega)
  have h5 : (z.tmod N + N).tmod N < N := Int.tmod_lt_of_pos _ (by omega)
  exact ⟨((z.tmod N + N).tmod N).toNat, by omega, by omega⟩
/-- The first i are taken. -/
def upTo (i : Nat) : Nat → Bool := fun y => decide (y < i)
theorem flip_upTo (i : Nat) : flip (upTo i) i = upTo (i + 1) := by
  funext y
  unfold flip upTo
  by_cases h1 : y < i
  · have h2 : y < i + 1 := by omega
    have h3 : (y == i) = false := beq_eq_false_iff_ne.2 (by omega)
    simp [h1, h2, h3]
  · by_cases h2 : y = i
    · subst h2; simp
    · have h3 : ¬ y < i + 1 := by omega
      have h4 : (y == i) = false := beq_eq_false_iff_ne.2 h2
      simp [h1, h3, h4]
/-- All of n but those that were given and are not had again (the first i are). -/
def left (gv : Nat → Bool) (i n : Nat) : Nat → Bool := fun y => decide (y < n) && (!gv y || decide (y < i))
theorem left_start (n : Nat) : left (fun _ => false) 0 n = upTo n := by funext y; simp [left, upTo]
theorem left_end (gv : Nat → Bool) (n : Nat) : left gv n n = upTo n := by
  funext y
  unfold left upTo
  by_cases h : y < n <;> simp [h]
theorem left_give (gv : Nat → Bool) (n k : Nat) (hk : k < n) (h0 : gv k = false) : flip (left gv 0 n) k = left (fun q => if q = k then true else gv q) 0 n := by
  funext y
  unfold flip left
  by_cases e : y = k
  · subst e; simp [hk, h0]
  · have h4 : (y == k) = false := beq_eq_false_iff_ne.2 e
    simp [e, h4]
theorem left_take (gv : Nat → Bool) (n i : Nat) (hi : i < n) (h0 : gv i = true) : flip (left gv i n) i = left gv (i + 1) n := by
  funext y
  unfold flip left
  by_cases e : y = i
  · subst e; simp [hi, h0]
  · have h4 : (y == i) = false := beq_eq_false_iff_ne.2 e
    have h5 : decide (y < i + 1) = decide (y < i) := by rw [Bool.eq_iff_iff]; simp only [decide_eq_true_eq]; omega
    simp [h4, h5]
theorem left_skip (gv : Nat → Bool) (n i : Nat) (h0 : gv i = false) : left gv (i + 1) n = left gv i n := by
  funext y
  unfold left
  by_cases e : y = i
  · subst e; simp [h0]
  · have h5 : decide (y < i + 1) = decide (y < i) := by rw [Bool.eq_iff_iff]; simp only [decide_eq_true_eq]; omega
    rw [h5]
theorem cntB_upTo (n : Nat) : ∀ k, k ≤ n → cntB (upTo n) k = k
  | 0, _ => rfl
  | k + 1, h => by
    have h1 : upTo n k = true := by unfold upTo; simp; omega
    simp only [cntB, cntB_upTo n k (by omega), h1]
    rfl
theorem cntB_flip_out (f : Nat → Bool) (k : Nat) : ∀ n, n ≤ k → cntB (flip f k) n = cntB f n
  | 0, _ => rfl
  | n + 1, h => by
    have h1 : flip f k n = f n := by
      have : (n == k) = false := beq_eq_false_iff_ne.2 (by omega)
      simp [flip, this]
    simp only [cntB, cntB_flip_out f k n (by omega), h1]
theorem cntB_flip (f : Nat → Bool) (k : Nat) (h0 : f k = true) : ∀ n, k < n → cntB (flip f k) n + 1 = cntB f n
  | 0, h => absurd h (by omega)
  | n + 1, h => by
    by_cases e : n = k
    · subst e
      have h1 : flip f n n = false := by simp [flip, h0]
      simp only [cntB, cntB_flip_out f n n (Nat.le_refl _), h1, h0]
      rfl
    · have h1 : flip f k n = f n := by
        have : (n == k) = false := beq_eq_false_iff_ne.2 e
        simp [flip, this]
      have := cntB_flip f k h0 n (by omega)
      simp only [cntB, h1]
      omega
theorem done_full {n : Nat} {f f' : Nat → Bool} {e : Ending} (h : TakeDone n f e f') (ha : ∀ y, y < n → f y = true) : e = .returned (.tuple #[.int .i64 0, .int .i64 60]) ∧ f' = f := by
  rcases h with ⟨y, hy, _, hy0, _, _⟩ | ⟨_, h1, h2⟩
  · rw [ha y hy] at hy0; cases hy0
  · exact ⟨h1, h2⟩
theorem give_free {n : Nat} {f f' : Nat → Bool} {e : Ending} {i : Int} (h : GiveDone n f i e f') (x : Nat) (hi : i = x) (hx0 : f x = false) : e = .returned (.int .i64 1) ∧ f' = f := by
  rcases h with ⟨y, hy, hyl, hy0, _, _⟩ | ⟨_, h1, h2⟩
  · obtain rfl : y = x := by omega
    rw [hx0] at hy0; cases hy0
  · exact ⟨h1, h2⟩
set_option maxRecDepth 100000 in
set_option maxHeartbeats 16000000 in
theorem full_calls (w : World) (n : Int) (ad : Option Addr) (cap : Nat) (zs : List Int) (hz : RdI w ad cap zs) :
    Calls Try.prog 9 #[.int .i64 n, .slice ad zs.length cap] w fun e w' => e = .returned (.bool true) ∧ Fr [] w w' := by
  have HZ := Lib.hid hz
  obtain ⟨N0, hN0, hNe⟩ := mod600 n
  obtain ⟨N, hN⟩ : ∃ N : Nat, N0 + 1 = N := ⟨_, rfl⟩
  have hN1 : 1 ≤ N ∧ N ≤ 600 := by omega
  have hw0 : IntKind.i64.wrap ((N0 : Int) + 1) = (N : Int) := by rw [IntWalk.i64_in _ (by omega)]; omega
  have HM := Lib.hid (made_calls w 2 N (by omega) (by omega) (by omega))
  obtain ⟨i0, hi, hz0, hz1, hz2⟩ := info_parts Try.infoBool
  have HZ1 := Lib.hid hz1; have HI0 := Lib.hid hi; have HZ0 := Lib.hid hz0
  have HB64 : Hid (i0.bytes * N ≤ 281474976710656) := Lib.hid (by rw [hz2]; omega)
  have hNp : (0 : Int) < (N : Int) := by omega
  have hNz : ¬ ((N : Int) = 0) := by omega
  clear hz0 hz1 hz2 hi hz hN
  go_enter Try.func9, Try.ntmps9
  go_wp2_with fail
  refine HM.out.mono ?_
  rintro e w1 ⟨s, p, l, m, h, rfl, hA⟩
  have HA := Lib.hid hA
  clear hA HM
  go_wp2_with fail
  go_loopw [7] (fun v7 wr => ∃ (i all : Nat) (g : Nat → Bool), (i ≤ N ∧ all ≤ i) ∧ v7 = .int .i64 i ∧ AlAt w s p l m h 2 N [] (1 + 900 * i) (upTo i) g all wr) (fun v7 _ => N - (intOf v7).toNat)
  case atStart => exact ⟨0, 0, _, by omega, rfl, HA.out⟩
  case round =>
    clear HA
    rename World => wr
    obtain ⟨i, all, g, ⟨hi, hall⟩, rfl, hA⟩ := hrel
    have hw1 : IntKind.i64.wrap ((i : Int) + 1) = (i : Int) + 1 := IntWalk.i64_in _ (by omega)
    by_cases hlt : i < N
    · have hl1 : (i : Int) < (N : Int) := by omega
      have hl0 : (0 : Int) ≤ (i : Int) := by omega
      have HT := Lib.hid (al_take hA (by omega) (by omega) (by omega))
      clear hA
      go_wp2_with fail
      refine HT.out.mono ?_
      rintro e w2 ⟨f2, hd, hA⟩
      obtain ⟨rfl, hf2⟩ := done_x hd i hlt (fun y hy => by simp [upTo, hy]) (by simp [upTo])
      rw [flip_upTo] at hf2
      subst hf2
      have HA2 := Lib.hid hA
      clear hA hd HT
      by_cases h99 : (i : Int) % 100 = 99
      · have HC := Lib.hid (al_commit HA2.out (by omega) (by omega))
        have h99' : ((i : Int) % 100 == 99) = true := beq_iff_eq.2 h99
        clear h99
        go_wp2_with fail
        refine HC.out.mono ?_
        rintro e w3 ⟨rfl, hA3⟩
        have HA3 := Lib.hid hA3
        clear hA3 HC
        go_wp2_with fail
        go_roundw
        case rel => exact ⟨i + 1, all + 1, _, by omega, by go_num, HA3.out.more (by omega)⟩
        case measure => simp [intOf]; omega
      · have h99' : ((i : Int) % 100 == 99) = false := beq_eq_false_iff_ne.2 h99
        clear h99
        go_wp2_with fail
        go_roundw
        case rel => exact ⟨i + 1, all, _, by omega, by go_num, HA2.out.more (by omega)⟩
        case measure => simp [intOf]; omega
    · obtain rfl : N = i := by omega
      have HT := Lib.hid (al_take hA (by omega) (by omega) (by omega))
      clear hA
      go_wp2_with fail
      refine HT.out.mono ?_
      rintro e w2 ⟨f2, hd, hA⟩
      obtain ⟨rfl, rfl⟩ := done_full hd (fun y hy => by simp [upTo, hy])
      have HA2 := Lib.hid hA
      clear hA hd HT
      go_wp2_with (first
        | (refine wL_make (o := ⟨some 69, .makeSlice _ _ _, _, _, _, _⟩) rfl _ _ 22 rfl 4 i0 (.bool false) Try.underlying22 HI0.out HZ0.out N rfl rfl HB64.out (by omega) ?_; rw [HZ1.out, Nat.mul_one, show madeCells (Value.bool false).cells N = arrB (fun _ => false) N from made_bools N])
        | fail)
      obtain ⟨A, hA⟩ : ∃ A, w2.heap.size = A := ⟨_, rfl⟩
      have harr := heap_alloc_new w2 (.cells (arrB (fun _ => false) N) 4)
      have hfa : Fr [] w2 (w2.alloc (.cells (arrB (fun _ => false) N) 4)) := (Fr.refl [] w2).alloc _
      rw [hA] at harr ⊢
      generalize w2.alloc (.cells (arrB (fun _ => false) N) 4) = W0 at *
      have hAw : w.heap.size ≤ A := by have := HA2.out.fr.size; omega
      have HA0 := Lib.hid (HA2.out.regard hfa (by simp) [(A, .cells (arrB (fun _ => false) N) 4 (0, 0))] (by simp; exact ⟨harr, by omega⟩))
      clear harr hfa HA2 hA
      go_wp2_with fail
      go_loopw [13, 14] (fun v13 v14 wr => ∃ (i : Nat) (gv : Nat → Bool), (i ≤ 20 ∧ i ≤ zs.length) ∧ v14 = .int .i64 i ∧ v13 = .int .i64 (cntB (left gv 0 N) N) ∧ AlAt w s p l m h 2 N [(A, .cells (arrB gv N) 4 (0, 0))] (1000000 + 20 * i) (left gv 0 N) g all wr) (fun _ v14 _ => 60 - (intOf v14).toNat)
      case atStart => exact ⟨0, fun _ => false, by omega, rfl, by rw [left_start, cntB_upTo N N (Nat.le_refl _)], by rw [left_start]; exact HA0.out.more (by omega)⟩
      case round =>
        clear HA0
        rename World => wr
        obtain ⟨i, gv, ⟨hi20, hilen⟩, rfl, rfl, hA⟩ := hrel
        have hw1 : IntKind.i64.wrap ((i : Int) + 1) = (i : Int) + 1 := IntWalk.i64_in _ (by omega)
        have hcb := cntB_le (left gv 0 N) N
        by_cases hlt : i < zs.length ∧ i < 20
        · obtain ⟨hl1, hl2⟩ := hlt
          have g1 : (i : Int) < (zs.length : Int) := by omega
          have g2 : (i : Int) < 20 := by omega
          have g3 : (0 : Int) ≤ (i : Int) := by omega
          obtain ⟨b0, off, rfl, hcz⟩ : ∃ b0 off, ad = some ⟨b0, off, none⟩ ∧ ∀ j, j < zs.length → wr.cell? ⟨b0, off + j, none⟩ = some (.int .i64 (zs.getD j 0)) := by
            have hr := HZ.out.keep hA.fr
            cases had : ad with
            | none => have := hr.nil had; omega
            | some a =>
              obtain ⟨b0, off, rfl, hc⟩ := hr.at_ a had (by omega)
              exact ⟨b0, off, rfl, hc⟩
          have hci := hcz i hl1
          clear hcz
          obtain ⟨z, hz⟩ : ∃ z, zs.getD i 0 = z := ⟨_, rfl⟩
          rw [hz] at hci
          clear hz
          obtain ⟨k, hk, hke⟩ := modN z N (by omega)
          have HG := Lib.hid (al_give hA (by omega) (by omega) (by omega) (k : Int))
          have k1 : (k : Int) < (N : Int) := by omega
          have k2 : (0 : Int) ≤ (k : Int) := by omega
          have k3 : ((k : Int)).toNat = k := by omega
          clear hA
          go_wp2_with fail
          refine HG.out.mono ?_
          rintro e w3 ⟨f3, hd, hA⟩
          have hbox : w3.heap[A]? = some (.cells (arrB gv N) 4 (0, 0)) := hA.keep (A, .cells (arrB gv N) 4 (0, 0)) (by simp)
          have hck : w3.cell? ⟨A, k, none⟩ = some (.bool (gv k)) := (box_cell hbox k).trans (arrB_get gv hk)
          have hfk := box_free hbox k
          cases hgk : gv k with
          | false =>
            obtain ⟨gv', hgv⟩ : ∃ gv', (fun q => if q = k then true else gv q) = gv' := ⟨_, rfl⟩
            have hlg := left_give gv N k hk hgk
            rw [hgv] at hlg
            obtain ⟨rfl, rfl⟩ := give_x hd k rfl hk (by simp [left, hk, hgk])
            rw [hlg] at hA
            have hcf := cntB_flip (left gv 0 N) k (by simp [left, hk, hgk]) N hk
            rw [hlg] at hcf
            rw [hgk] at hck
            have hw2 : IntKind.i64.wrap ((cntB (left gv 0 N) N : Int) - 1) = ((cntB (left gv' 0 N) N : Nat) : Int) := by
              rw [show (cntB (left gv 0 N) N : Int) - 1 = ((cntB (left gv' 0 N) N : Nat) : Int) by omega]; exact IntWalk.i64_in _ (by omega)
            have hone : Fr [A] w3 (w3.setCell ⟨A, k, none⟩ (.bool true)) := (Fr.refl _ _).setCell (.inl (by simp)) _
            have hset := box_set hbox k (.bool true)
            rw [arrB_set gv hk, hgv] at hset
            have HN := Lib.hid (hA.regard hone (by simp; exact .inr hAw) [(A, .cells (arrB gv' N) 4 (0, 0))] (by simp; exact hset))
            clear hgv hlg hA hone hset hbox hcf HG hd hgk
            go_wp2_with fail
            go_roundw
            case rel => exact ⟨i + 1, _, by omega, by go_num, rfl, HN.out.more (by omega)⟩
            case measure => simp [intOf]; omega
          | true =>
            obtain ⟨rfl, rfl⟩ := give_free hd k rfl (by simp [left, hgk])
            rw [hgk] at hck
            have HN := Lib.hid hA
            clear hA hbox HG hd hgk
            go_wp2_with fail
            go_roundw
            case rel => exact ⟨i + 1, gv, by omega, by go_num, rfl, HN.out.more (by omega)⟩
            case measure => simp [intOf]; omega
        · have HC := Lib.hid (al_count hA (by omega) (by omega) (by omega))
          obtain ⟨Cn, hCn⟩ : ∃ Cn, cntB (left gv 0 N) N = Cn := ⟨_, rfl⟩
          rw [hCn] at HC ⊢
          clear hA hcb hCn
          by_cases hl1 : i < zs.length
          · have g1 : (i : Int) < (zs.length : Int) := by omega
            have g2 : ¬ (i : Int) < 20 := by omega
            go_wp2_with fail
            refine HC.out.mono ?_
            rintro e w3 ⟨rfl, hA⟩
            have HA3 := Lib.hid hA
            clear hA HC
            go_wp2_with fail
            go_loopw [19] (fun v19 wr => ∃ i : Nat, i ≤ N ∧ v19 = .int .i64 i ∧ AlAt w s p l m h 2 N [(A, .cells (arrB gv N) 4 (0, 0))] (2000000 + 20 * i) (left gv i N) g all wr) (fun v19 _ => N - (intOf v19).toNat)
            case atStart => exact ⟨0, by omega, rfl, HA3.out.more (by omega)⟩
            case round =>
              clear HA3
              rename World => wr
              obtain ⟨j, hj, rfl, hA⟩ := hrel
              have hw3 : IntKind.i64.wrap ((j : Int) + 1) = (j : Int) + 1 := IntWalk.i64_in _ (by omega)
              by_cases hjn : j < N
              · have j1 : (j : Int) < (N : Int) := by omega
                have j2 : (0 : Int) ≤ (j : Int) := by omega
                have j3 : ((j : Int)).toNat = j := by omega
                have hbox := hA.keep (A, .cells (arrB gv N) 4 (0, 0)) (by simp)
                have hck : wr.cell? ⟨A, j, none⟩ = some (.bool (gv j)) := (box_cell hbox j).trans (arrB_get gv hjn)
                cases hgj : gv j with
                | false =>
                  rw [hgj] at hck
                  have HN := Lib.hid (show AlAt w s p l m h 2 N [(A, .cells (arrB gv N) 4 (0, 0))] (2000000 + 20 * (j + 1)) (left gv (j + 1) N) g all wr by rw [left_skip gv N j hgj]; exact hA.more (by omega))
                  clear hA hbox hgj
                  go_wp2_with fail
                  go_roundw
                  case rel => exact ⟨j + 1, by omega, by go_num, HN.out⟩
                  case measure => simp [intOf]; omega
                | true =>
                  rw [hgj] at hck
                  have HT := Lib.hid (al_take hA (by omega) (by omega) (by omega))
                  have HGJ := Lib.hid hgj
                  clear hA hbox hgj
                  go_wp2_with fail
                  refine HT.out.mono ?_
                  rintro e w4 ⟨f4, hd, hA⟩
                  obtain ⟨rfl, hf4⟩ := done_x hd j hjn (fun y hy => by simp [left, hy]; omega) (by simp [left, HGJ.out])
                  rw [left_take gv N j hjn HGJ.out] at hf4
                  subst hf4
                  have HN := Lib.hid hA
                  clear hA hd HT
                  go_wp2_with fail
                  go_roundw
                  case rel => exact ⟨j + 1, by omega, by go_num, HN.out.more (by omega)⟩
                  case measure => simp [intOf]; omega
              · obtain rfl : N = j := by omega
                rw [left_end] at hA
                have HT := Lib.hid (al_take hA (by omega) (by omega) (by omega))
                clear hA
                go_wp2_with fail
                refine HT.out.mono ?_
                rintro e w4 ⟨f4, hd, hA⟩
                obtain ⟨rfl, rfl⟩ := done_full hd (fun y hy => by simp [upTo, hy])
                have HF := Lib.hid hA.fr
                clear hA hd HT
                go_wp2_with fail
                refine (awake5_calls _).mono ?_
                rintro e w5 ⟨rfl, hf5⟩
                have HF5 := Lib.hid (HF.out.trans hf5)
                clear hf5
                go_wp2_with fail
                go_ret
                exact ⟨rfl, HF5.out⟩
          · have g1 : ¬ (i : Int) < (zs.length : Int) := by omega
            go_wp2_with fail
            refine HC.out.mono ?_
            rintro e w3 ⟨rfl, hA⟩
            have HA3 := Lib.hid hA
            clear hA HC
            go_wp2_with fail
            go_loopw [19] (fun v19 wr => ∃ i : Nat, i ≤ N ∧ v19 = .int .i64 i ∧ AlAt w s p l m h 2 N [(A, .cells (arrB gv N) 4 (0, 0))] (2000000 + 20 * i) (left gv i N) g all wr) (fun v19 _ => N - (intOf v19).toNat)
            case atStart => exact ⟨0, by omega, rfl, HA3.out.more (by omega)⟩
            case round =>
              clear HA3
              rename World => wr
              obtain ⟨j, hj, rfl, hA⟩ := hrel
              have hw3 : IntKind.i64.wrap ((j : Int) + 1) = (j : Int) + 1 := IntWalk.i64_in _ (by omega)
              by_cases hjn : j < N
              · have j1 : (j : Int) < (N : Int) := by omega
                have j2 : (0 : Int) ≤ (j : Int) := by omega
                have j3 : ((j : Int)).toNat = j := by omega
                have hbox := hA.keep (A, .cells (arrB gv N) 4 (0, 0)) (by simp)
                have hck : wr.cell? ⟨A, j, none⟩ = some (.bool (gv j)) := (box_cell hbox j).trans (arrB_get gv hjn)
                cases hgj : gv j with
                | false =>
                  rw [hgj] at hck
                  have HN := Lib.hid (show AlAt w s p l m h 2 N [(A, .cells (arrB gv N) 4 (0, 0))] (2000000 + 20 * (j + 1)) (left gv (j + 1) N) g all wr by rw [left_skip gv N j hgj]; exact hA.more (by omega))
                  clear hA hbox hgj
                  go_wp2_with fail
                  go_roundw
                  case rel => exact ⟨j + 1, by omega, by go_num, HN.out⟩
                  case measure => simp [intOf]; omega
                | true =>
                  rw [hgj] at hck
                  have HT := Lib.hid (al_take hA (by omega) (by omega) (by omega))
                  have HGJ := Lib.hid hgj
                  clear hA hbox hgj
                  go_wp2_with fail
                  refine HT.out.mono ?_
                  rintro e w4 ⟨f4, hd, hA⟩
                  obtain ⟨rfl, hf4⟩ := done_x hd j hjn (fun y hy => by simp [left, hy]; omega) (by simp [left, HGJ.out])
                  rw [left_take gv N j hjn HGJ.out] at hf4
                  subst hf4
                  have HN := Lib.hid hA
                  clear hA hd HT
                  go_wp2_with fail
                  go_roundw
                  case rel => exact ⟨j + 1, by omega, by go_num, HN.out.more (by omega)⟩
                  case measure => simp [intOf]; omega
              · obtain rfl : N = j := by omega
                rw [left_end] at hA
                have HT := Lib.hid (al_take hA (by omega) (by omega) (by omega))
                clear hA
                go_wp2_with fail
                refine HT.out.mono ?_
                rintro e w4 ⟨f4, hd, hA⟩
                obtain ⟨rfl, rfl⟩ := done_full hd (fun y hy => by simp [upTo, hy])
                have HF := Lib.hid hA.fr
                clear hA hd HT
                go_wp2_with fail
                refine (awake5_calls _).mono ?_
                rintro e w5 ⟨rfl, hf5⟩
                have HF5 := Lib.hid (HF.out.trans hf5)
                clear hf5
                go_wp2_with fail
                go_ret
                exact ⟨rfl, HF5.out⟩
end Go.Proofs.Ytoifpbifipgpkaa
