/-
  For any device and any script, DevPlays returns true and leaves its arguments as they were.
-/
import Derived.Test.YthjoakgcmelhmaaRows
import Derived.Test.YthjoakgcmelhmaaTie
import Derived.Test.YthjoakgcmelhmaaDevAwake
import Derived.Test.YthjoakgcmelhmaaTieAny
import Derived.Test.YthjoakgcmelhmaaBytesOf
import Derived.Test.YthjoakgcmelhmaaMask
import Derived.Deep.RegionHeld3
import Derived.ProofKit
import Derived.OpenShut
import Derived.ShutString
import Derived.ChangeOld
import Derived.Below
import Derived.Deep.DeepCutAuto
import Derived.Deep.CutBlock
namespace Go.Proofs.Ythjoakgcmelhmaa.devPlays
open Go.ChangeShapes Go.WideShapes Go.ChangeAt Go.RowKit Go.MapKept
set_option linter.unusedVariables false
/-- One call of the script. -/
structure OpV where
  kind : Int
  i : Int
  a : Int
  size : Int
  flip : Bool
  la : Option Addr
  ll : Nat
  lc : Nat
  lz : List Int
/-- It lies at offset o of block b. -/
structure OpAt (w : World) (b o : Nat) (v : OpV) : Prop where
  c0 : w.cell? ⟨b, o, none⟩ = some (.int .i64 v.kind)
  c1 : w.cell? ⟨b, o + 1, none⟩ = some (.int .i64 v.i)
  c2 : w.cell? ⟨b, o + 2, none⟩ = some (.int .i64 v.a)
  c3 : w.cell? ⟨b, o + 3, none⟩ = some (.int .i64 v.size)
  c4 : w.cell? ⟨b, o + 4, none⟩ = some (.bool v.flip)
  c5 : w.cell? ⟨b, o + 5, none⟩ = some (.slice v.la v.ll v.lc)
  row : IsRow .i64 w v.la v.ll v.lc v.lz
  ri : -9223372036854775808 ≤ v.i ∧ v.i ≤ 9223372036854775807
  ra : -9223372036854775808 ≤ v.a ∧ v.a ≤ 9223372036854775807
/-- A script that came in. -/
def ScriptAt (w : World) (a : Option Addr) (len : Nat) (os : Nat → OpV) : Prop :=
  len ≤ 9223372036854775807 ∧ (0 < len → ∃ b o, a = some ⟨b, o, none⟩ ∧ b < w.heap.size ∧ ∀ k, k < len → OpAt w b (o + k * 6) (os k))
/-- What holds at each round's head. -/
structure Playing (w : World) (i : Nat) (n : Nat) (wr : World) (p l m q r b q' : Nat) (c f : Int) (d : Bool) (ls : Nat → List UInt8) (wt : Int → Option (List UInt8)) : Prop where
  tie : Tie wr p l m q r b q' n c f d ls wt
  fr : Fr [] w wr
  new : w.heap.size ≤ p ∧ w.heap.size ≤ l ∧ w.heap.size ≤ m ∧ w.heap.size ≤ r ∧ w.heap.size ≤ b
  cb : 0 ≤ c ∧ c ≤ i
theorem Playing.lts {w : World} {i n : Nat} {wr : World} {p l m q r b q' : Nat} {c f : Int} {d : Bool} {ls : Nat → List UInt8} {wt : Int → Option (List UInt8)} (h : Playing w i n wr p l m q r b q' c f d ls wt) :
    p < wr.heap.size ∧ l < wr.heap.size ∧ m < wr.heap.size ∧ r < wr.heap.size ∧ b < wr.heap.size :=
  ⟨lt_of_heap h.tie.dev.box, by obtain ⟨lc, h1, _⟩ := h.tie.dev.las; exact lt_of_heap h1, h.tie.dev.wai.lt, h.tie.ref.lt.1, h.tie.ref.lt.2⟩
theorem Playing.next {w : World} {i n : Nat} {wr wx : World} {p l m q r b q' p' l' m' q1 r' b' q2 : Nat} {c f c' f' : Int} {d d' : Bool} {ls ls' : Nat → List UInt8} {wt wt' : Int → Option (List UInt8)} (h : Playing w i n wr p l m q r b q' c f d ls wt)
    (ht : Tie wx p' l' m' q1 r' b' q2 n c' f' d' ls' wt') {L : List Nat} (hf : Fr L wr wx) (hL : ∀ x ∈ L, w.heap.size ≤ x) (hn : w.heap.size ≤ p' ∧ w.heap.size ≤ l' ∧ w.heap.size ≤ m' ∧ w.heap.size ≤ r' ∧ w.heap.size ≤ b') (hc : 0 ≤ c' ∧ c' ≤ c + 1) :
    Playing w (i + 1) n wx p' l' m' q1 r' b' q2 c' f' d' ls' wt' :=
  ⟨ht, h.fr.trans_new hf (fun x hx => .inr (hL x hx)), hn, by have := h.cb; omega⟩
theorem Playing.keep {w : World} {i n : Nat} {wr wx : World} {p l m q r b q' : Nat} {c f : Int} {d : Bool} {ls : Nat → List UInt8} {wt : Int → Option (List UInt8)} (h : Playing w i n wr p l m q r b q' c f d ls wt) (hf : Fr [] wr wx) : Playing w i n wx p l m q r b q' c f d ls wt :=
  ⟨h.tie.keep hf, h.fr.trans hf, h.new, h.cb⟩
set_option maxRecDepth 100000 in
set_option maxHeartbeats 4000000 in
theorem walk (n : Int) (hn : -9223372036854775808 ≤ n ∧ n ≤ 9223372036854775807) (a : Option Addr) (len cap : Nat) (os : Nat → OpV) (w : World) (hs : ScriptAt w a len os) :
    Calls Try.prog 5 #[.int .i64 n, .slice a len cap] w fun e w' => e = .returned (.bool true) ∧ Below w.heap.size w w' := by
  have hlen := hs.1
  have HS := Lib.hid hs; clear hs
  by_cases hin : 0 ≤ n ∧ n ≤ 8192
  · obtain ⟨k, rfl⟩ := Int.eq_ofNat_of_zero_le hin.1
    have hk : k ≤ 8192 := by omega
    clear hin hn
    go_enter Try.func5, Try.ntmps5
    go_wp2_with fail
    refine (new_ok w k hk).mono ?_
    rintro e w1 ⟨p, l, m, rfl, hf1, hp, hl, hm, hd1⟩
    have hl1 : p < w1.heap.size ∧ l < w1.heap.size ∧ m < w1.heap.size := ⟨lt_of_heap hd1.box, by obtain ⟨lc, h1, _⟩ := hd1.las; exact lt_of_heap h1, hd1.wai.lt⟩
    have HD1 := Lib.hid hd1; have HF1 := Lib.hid hf1; clear hd1 hf1
    go_wp2_with fail
    refine (rnew_ok w1 k hk).mono ?_
    rintro e w2 ⟨r, b, rfl, hf2, hr, hb, hr2⟩
    have hz1 := HF1.out.size
    have HT2 : Hid (Playing w 0 k w2 p l m k r b k 0 (-1) false (fun _ => zeros) (fun _ => none)) := Lib.hid
      ⟨⟨HD1.out.keep hf2 (by simp) (by simp) (by simp), hr2.congr (fun _ _ => rfl) (fun _ _ => rfl) (fun _ _ => rfl), by omega, by omega⟩, HF1.out.trans hf2, by omega, by omega⟩
    clear HD1 HF1 hf2 hr2
    go_wp2_with fail
    refine (awake_calls w2).mono ?_
    rintro e w3 ⟨rfl, hf3⟩
    have hT := HT2.out
    have HT3 : Hid (Playing w 0 k w3 p l m k r b k 0 (-1) false (fun _ => zeros) (fun _ => none)) := Lib.hid ⟨hT.tie.keep hf3, hT.fr.trans hf3, hT.new, hT.cb⟩
    clear hT HT2 hf3 hl1 hz1
    go_wp2_with fail
    go_loopw [5, 7, 9] (fun v5 v7 v9 wr => ∃ (i : Nat) (p l m q r b q' : Nat) (c f : Int) (d : Bool) (ls : Nat → List UInt8) (wt : Int → Option (List UInt8)), i ≤ 50 ∧ v9 = .int .i64 i ∧ v5 = .pointer (some ⟨p, 0, none⟩) ∧ v7 = .pointer (some ⟨r, 0, none⟩) ∧ Playing w i k wr p l m q r b q' c f d ls wt) (fun _ _ v9 _ => 50 - (intOf v9).toNat)
    case atStart => exact ⟨0, _, _, _, _, _, _, _, _, _, _, _, _, by omega, rfl, rfl, rfl, HT3.out⟩
    case round =>
      clear HT3
      clear hp hl hm hr hb
      obtain ⟨i, p, l, m, q, r, b, q', c, f, d, ls, wt, hi, rfl, rfl, rfl, hP⟩ := hrel
      by_cases hlt : i < len
      · by_cases h50 : i < 50
        · obtain ⟨bs, o, rfl, hbs, hat⟩ := HS.out.2 (by omega)
          obtain ⟨v, hv⟩ : ∃ v, v = os i := ⟨_, rfl⟩
          have hop := hat i hlt
          rw [← hv] at hop
          have g0 := cell_fr hP.fr hop.c0 (by simp)
          have g1 := cell_fr hP.fr hop.c1 (by simp)
          have g2 := cell_fr hP.fr hop.c2 (by simp)
          have g3 := cell_fr hP.fr hop.c3 (by simp)
          have g4 := cell_fr hP.fr hop.c4 (by simp)
          have g5 := cell_fr hP.fr hop.c5 (by simp)
          have HOP := Lib.hid hop; have HP := Lib.hid hP
          clear hat hv hop hP
          obtain ⟨wa, hwa⟩ : ∃ wa, wa = wr.alloc (.cells #[.int .i64 v.kind, .int .i64 v.i, .int .i64 v.a, .int .i64 v.size, .bool v.flip, .slice v.la v.ll v.lc] 45) := ⟨_, rfl⟩
          have hfa : Fr [] wr wa := by rw [hwa]; exact (Fr.refl _ _).alloc _
          have hbo : wa.heap[wr.heap.size]? = some (.cells #[.int .i64 v.kind, .int .i64 v.i, .int .i64 v.a, .int .i64 v.size, .bool v.flip, .slice v.la v.ll v.lc] 45 (0, 0)) := by rw [hwa]; exact heap_alloc_new _ _
          have HPa := Lib.hid (HP.out.keep hfa)
          have hlt5 := HP.out.lts
          have hri := HOP.out.ri; have hra := HOP.out.ra
          have hnew := HP.out.new; have hcb := HP.out.cb; have hsep := HP.out.tie.sep; have hrng := HP.out.tie.rng
          have HBO := Lib.hid hbo
          have HWA := Lib.hid hwa
          have HPW := Lib.hid hri; have HPX := Lib.hid hra; have HPY := Lib.hid hsep; have HPZ := Lib.hid hlt5
          clear hfa hbo hwa HP
          go_wp2_with fail
          all_goals rw [← HWA.out]
          all_goals clear HWA g0 g1 g2 g3 g4 g5
          · have hT := HPa.out.tie
            obtain ⟨na, hna⟩ : ∃ na : Nat, bits BinOp.and IntKind.i64 v.a 65535 = (na : Int) := ⟨(v.a % 65536).toNat, by rw [mask65535]; omega⟩
            obtain ⟨nk, hnk⟩ : ∃ nk : Nat, bits BinOp.and IntKind.i64 v.size 127 = (nk : Int) := ⟨(v.size % 128).toNat, by rw [mask127]; omega⟩
            have hna2 : na ≤ 65535 := by rw [mask65535] at hna; omega
            have hnk2 : nk ≤ 127 := by rw [mask127] at hnk; omega
            rw [hna, hnk]
            refine (bytes_calls wa na nk (by omega) (by omega)).mono ?_
            rintro e w4 ⟨rfl, hf4⟩
            have hsl := bys_length na nk
            generalize bys na nk = S at *
            have HSL := Lib.hid hsl
            have hPb := HPa.out.keep hf4
            have hbo4 := hf4.keep HBO.out (by simp)
            have HPb := Lib.hid hPb; have HB4 := Lib.hid hbo4
            have hsz4 := hf4.size
            have hsz5 := lt_of_heap HBO.out
            clear hPb hbo4 hna hnk hT hsl HPa HBO
            go_wp2_with (first
              | ((with_reducible_and_instances refine id (α := wpList _ _ _ (⟨some 76, .convert _ _ _, _, _, _, _⟩ :: _) _ _) ?_); refine wL_bytesOf rfl 9 28 5 _ rfl Try.underlying9 Try.underlying28 Try.underlying5 S nk HSL.out rfl (by rw [HSL.out]; unfold maxLen; omega) ?_)
              | fail)
            intro cap5 w5 hf5 hr5 ht5 _ _
            have hP5 := HPb.out.keep hf5
            have hT := hP5.tie
            have hbo5 := hf5.keep HB4.out (by simp)
            obtain ⟨g, hg⟩ : ∃ g, w4.heap.size = g := ⟨_, rfl⟩
            rw [hg] at hr5 ht5 hsz4 ⊢
            have hg5 : g < w5.heap.size ∨ nk = 0 := by
              by_cases h0 : 0 < nk
              · have := (ht5 0 h0).1
                rcases hcc : w5.cell? ⟨g, 0 + 0, none⟩ with _ | vv
                · rw [hcc] at this; cases this
                · exact .inl (World.block_lt_of_cell? _ _ hcc)
              · exact .inr (by omega)
            obtain ⟨code, c', f', d', wt', hc', hf', KD0, KR0⟩ := hT.writeAny (by omega) v.i hri g cap5 nk S HSL.out (by omega)
            have KD := Lib.hid KD0; have KR := Lib.hid KR0
            have hfd : Fr [] w5 w5.drew := (Fr.refl [] w5).drew
            have hD0 := hT.dev.keep hfd (by simp) (by simp) (by simp)
            have hR0 := hT.ref.keep hfd (by simp) (by simp)
            have hb0 := Bts.of hr5 ht5 HSL.out
            have hgl : g ∉ [p, l, m, r, b] := by simp; omega
            have HS : Hid (∀ w', Fr [p, l, m, r, b] w5 w' → w'.cell? ⟨wr.heap.size, 1, none⟩ = some (.int .i64 v.i) ∧ (convert 28 9 (.slice (some ⟨g, 0, none⟩) nk cap5)).run Try.prog w' = .ok (.string ⟨S.toArray⟩) w' ∧ w'.rangeAt g 0 (cel S)) := Lib.hid (fun w' hf => by
              have hrg : w'.rangeAt g 0 (cel S) := fun j v hv => by
                have := hr5 j v hv
                rw [World.cell?_of_block (w := w5) (hf.block g (World.block_lt_of_cell? _ _ this) hgl)]; exact this
              exact ⟨by rw [box_cell (hf.keep hbo5 (by simp; omega))]; rfl, run_toString Try.underlying28 Try.underlying5 Try.underlying9 g 0 cap5 S nk HSL.out hrg, hrg⟩)
            have hq : Fr [p, l, m, r, b] w5 w5.drew := (Fr.refl _ _).drew
            have HQ0 := Lib.hid hq
            have HP5 := Lib.hid hP5; have HB0 := Lib.hid hb0
            clear KD0 KR0 hT hf5 hr5 ht5 hbo5 hP5 hb0 HPb HB4 hfd
            go_wp2_with fail
            go_region_held3 (fun w' => w'.cell? ⟨wr.heap.size, 1, none⟩ = some (.int .i64 v.i) ∧ (convert 28 9 (.slice (some ⟨g, 0, none⟩) nk cap5)).run Try.prog w' = .ok (.string ⟨S.toArray⟩) w')
              (exact ⟨(HS.out _ hq).1, (HS.out _ hq).2.1⟩)
              (first
                | (go_at_call 12; (with_reducible refine (KD.out _ hD0 (HS.out _ hq).2.2).mono ?_); rintro e w6 ⟨rfl, hf6, hd6⟩; have hq := hq.trans (hf6.mono (by simp)))
                | (go_at_call 12; (with_reducible refine (KD.out _ (hD0.keep hg6 (by simp; omega) (by simp; omega) (by simp; omega)) (HS.out _ hq).2.2).mono ?_); rintro e w7 ⟨rfl, hg7, hd7⟩; have hq := hq.trans (hg7.mono (by simp)); have HTT : Hid (Tie w7 p l m q r b q' k c' f' d' ls wt') := Lib.hid ⟨hd7, hr6.keep hg7 (by simp; omega) (by simp; omega), hsep, hf'⟩)
                | (go_at_call 19; (with_reducible refine (KR.out _ hR0).mono ?_); rintro e w6 ⟨rfl, hg6, hr6⟩; have hq := hq.trans (hg6.mono (by simp)))
                | (go_at_call 19; (with_reducible refine (KR.out _ (hR0.keep hf6 (by simp; omega) (by simp; omega))).mono ?_); rintro e w7 ⟨rfl, hf7, hr7⟩; have hq := hq.trans (hf7.mono (by simp)); have HTT : Hid (Tie w7 p l m q r b q' k c' f' d' ls wt') := Lib.hid ⟨hd6.keep hf7 (by simp; omega) (by simp; omega) (by simp; omega), hr7, hsep, hf'⟩))
            all_goals
              have HB : Hid (Bts w7 g nk) := Lib.hid (HB0.out.keep hq hgl)
              have HTZ : Hid (∀ wz, Fr [g] w7 wz → Playing w (i + 1) k wz p l m q r b q' c' f' d' ls wt') := Lib.hid (fun wz hfz =>
                HP5.out.next (p' := p) (l' := l) (m' := m) (r' := r) (b' := b) ⟨HTT.out.dev.keep hfz (by simp; omega) (by simp; omega) (by simp; omega), HTT.out.ref.keep hfz (by simp; omega) (by simp; omega), hsep, hf'⟩ (L := [p, l, m, r, b, g]) ((hq.mono (by simp +contextual)).trans (hfz.mono (by simp))) (by intro x hx; simp at hx; omega) (by omega) hc')
              clear hD0 hR0 hq HQ0 KD KR HP5 HB0 HTT HS
              go_wp2_with fail
              go_loopw [13] (fun v13 wz => ∃ kk : Nat, kk ≤ nk ∧ v13 = .int .i64 kk ∧ Bts wz g nk ∧ Fr [g] w7 wz) (fun v13 _ => nk - (intOf v13).toNat)
              case atStart => exact ⟨0, by omega, rfl, HB.out, Fr.refl _ _⟩
              case round =>
                clear HB
                rename World => wz
                obtain ⟨kk, hkk, rfl, hB, hfz⟩ := hrel
                by_cases hlk : kk < nk
                · obtain ⟨⟨x0, hx0⟩, hf0⟩ := hB kk hlk
                  have hlk' : (kk : Int) < (nk : Int) := by omega
                  have hk0 : (0 : Int) ≤ (kk : Int) := by omega
                  have HBS := Lib.hid (fun x : Int => hB.set kk x); have HFS := Lib.hid (fun x : Int => hfz.setCell (p := ⟨g, kk, none⟩) (.inl (by simp)) (.int .u8 x))
                  clear hB hfz
                  go_wp2_with fail
                  go_roundw
                  case rel => exact ⟨kk + 1, by omega, by go_num, HBS.out _, HFS.out _⟩
                  case measure => simp [intOf]; omega
                · obtain rfl : kk = nk := by omega
                  have HT : Hid (Playing w (i + 1) k wz p l m q r b q' c' f' d' ls wt') := Lib.hid (HTZ.out wz hfz)
                  clear HTZ hB hfz
                  go_wp2_with fail
                  refine (HT.out.tie.same).mono ?_
                  rintro e wS ⟨rfl, hfS⟩
                  have HTS := Lib.hid (HT.out.keep hfS)
                  clear HT hfS
                  go_wp2_with fail
                  go_roundw
                  case rel => exact ⟨i + 1, _, _, _, _, _, _, _, _, _, _, _, _, by omega, by go_num, rfl, rfl, HTS.out⟩
                  case measure => simp [intOf]; omega
          · have hT := HPa.out.tie
            obtain ⟨code, c', S, hc', hsl, KD, KR⟩ := hT.readAny (by omega) v.i hri
            have hwa1 := lt_of_heap HBO.out
            refine (KD wa hT.dev).mono ?_
            rintro e w4 ⟨vx, rfl, hf4, hd4, ho4⟩
            have hR4 := hT.ref.keep hf4 (by simp; omega) (by simp; omega)
            have hbo4 := hf4.keep HBO.out (by simp; omega)
            have hco4 := box_cell hbo4
            have hKR := KR w4 hR4
            have HKR := Lib.hid hKR; have HD4 := Lib.hid hd4; have Hf4 := Lib.hid hf4; have HO4 := Lib.hid ho4
            have hsz4 := hf4.size
            obtain ⟨nk, hnk⟩ : ∃ nk, S.length = nk := ⟨_, rfl⟩
            have hnk64 : nk ≤ 64 := by omega
            have HNK := Lib.hid hnk
            clear hR4 hbo4 hT hf4 hd4 ho4 KD KR hKR hnk HBO
            go_wp2_with fail
            refine HKR.out.mono ?_
            rintro e w5 ⟨rfl, hf5, hr5⟩
            have hsz5 := lt_of_heap hr5.box
            have ho5 := own_keepL HO4.out hf5 (fun g hg => by simp; omega)
            have hcv := own_str Try.underlying28 Try.underlying5 Try.underlying9 ho5
            have HTT : Hid (Tie w5 p l m q r b q' k c' f d ls wt) := Lib.hid ⟨HD4.out.keep hf5 (by simp; omega) (by simp; omega) (by simp; omega), hr5, hsep, hrng⟩
            have HF5 : Hid (Fr [p, l, m, r, b] wa w5) := Lib.hid ((Hf4.out.mono (by simp)).trans (hf5.mono (by simp)))
            have HTZ : Hid (∀ wz g, wa.heap.size ≤ g → Fr [g] w5 wz → Playing w (i + 1) k wz p l m q r b q' c' f d ls wt) := Lib.hid (fun wz g hg hfz =>
              HPa.out.next (p' := p) (l' := l) (m' := m) (r' := r) (b' := b) ⟨HTT.out.dev.keep hfz (by simp; omega) (by simp; omega) (by simp; omega), HTT.out.ref.keep hfz (by simp; omega) (by simp; omega), hsep, hrng⟩ (L := [p, l, m, r, b, g]) ((HF5.out.mono (by simp +contextual)).trans (hfz.mono (by simp))) (by intro x hx; simp at hx; omega) (by omega) hc')
            rw [HNK.out] at ho5
            have hwaw := HPa.out.fr.size
            by_cases h0 : 0 < nk
            · obtain ⟨g, capx, rfl, hBg, _, hrg, hth⟩ := owns_range ho5 h0
              have HB : Hid (Bts w5 g nk) := Lib.hid (Bts.of hrg hth HNK.out)
              have HTZ' := Lib.hid (fun wz hfz => HTZ.out wz g hBg hfz)
              clear ho5 hf5 hr5 HTZ hrg hth HO4 HD4 Hf4 HTT HF5 HPa HKR hco4
              have HTZ := HTZ'
              clear HTZ'
              go_wp2_with fail
              go_loopw [18] (fun v18 wz => ∃ kk : Nat, kk ≤ nk ∧ v18 = .int .i64 kk ∧ Bts wz g nk ∧ Fr [g] w5 wz) (fun v18 _ => nk - (intOf v18).toNat)
              case atStart => exact ⟨0, by omega, rfl, HB.out, Fr.refl _ _⟩
              case round =>
                clear HB
                rename World => wz
                obtain ⟨kk, hkk, rfl, hB, hfz⟩ := hrel
                by_cases hlk : kk < nk
                · obtain ⟨⟨x0, hx0⟩, hf0⟩ := hB kk hlk
                  have hlk' : (kk : Int) < (nk : Int) := by omega
                  have hk0 : (0 : Int) ≤ (kk : Int) := by omega
                  have HBS := Lib.hid (fun x : Int => hB.set kk x); have HFS := Lib.hid (fun x : Int => hfz.setCell (p := ⟨g, kk, none⟩) (.inl (by simp)) (.int .u8 x))
                  clear hB hfz
                  go_wp2_with fail
                  go_roundw
                  case rel => exact ⟨kk + 1, by omega, by go_num, HBS.out _, HFS.out _⟩
                  case measure => simp [intOf]; omega
                · obtain rfl : kk = nk := by omega
                  have HT : Hid (Playing w (i + 1) k wz p l m q r b q' c' f d ls wt) := Lib.hid (HTZ.out wz hfz)
                  clear HTZ hB hfz
                  go_wp2_with fail
                  refine (HT.out.tie.same).mono ?_
                  rintro e wS ⟨rfl, hfS⟩
                  have HTS := Lib.hid (HT.out.keep hfS)
                  clear HT hfS
                  go_wp2_with fail
                  go_roundw
                  case rel => exact ⟨i + 1, _, _, _, _, _, _, _, _, _, _, _, _, by omega, by go_num, rfl, rfl, HTS.out⟩
                  case measure => simp [intOf]; omega

            · obtain rfl : nk = 0 := by omega
              obtain ⟨ax, cx, rfl⟩ := owns_sl ho5
              have HT0 := Lib.hid (HTZ.out w5 wa.heap.size (Nat.le_refl _) (Fr.refl _ _))
              clear ho5 hf5 hr5 HTZ HO4 HD4 Hf4 HTT HF5 HPa HKR hco4
              go_wp2_with fail
              go_loopw [18] (fun v18 wz => v18 = .int .i64 0 ∧ wz = w5) (fun _ _ => 0)
              case atStart => exact ⟨rfl, rfl⟩
              case round =>
                rename World => wz
                obtain ⟨rfl, rfl⟩ := hrel
                have HT := HT0
                go_wp2_with fail
                refine (HT.out.tie.same).mono ?_
                rintro e wS ⟨rfl, hfS⟩
                have HTS := Lib.hid (HT.out.keep hfS)
                clear HT hfS
                go_wp2_with fail
                go_roundw
                case rel => exact ⟨i + 1, _, _, _, _, _, _, _, _, _, _, _, _, by omega, by go_num, rfl, rfl, HTS.out⟩
                case measure => simp [intOf]; omega
          · have hT := HPa.out.tie
            obtain ⟨code, c', f', d', ls', wt', hc', hf', KD0, KR0⟩ := hT.flushAny (by omega)
            have KR := Lib.hid KR0
            refine (KD0 wa hT.dev).mono ?_
            rintro e w4 ⟨rfl, hf4, hd4⟩
            have hR4 := hT.ref.keep hf4 (by simp; omega) (by simp; omega)
            have HR4 := Lib.hid hR4; have HD4 := Lib.hid hd4; have Hf4 := Lib.hid hf4
            clear KD0 KR0 hT hR4 hd4 hf4
            go_wp2_with fail
            refine (KR.out w4 HR4.out).mono ?_
            rintro e w5 ⟨rfl, hf5, hr5⟩
            have HT : Hid (Playing w (i + 1) k w5 p l m q r b q' c' f' d' ls' wt') := Lib.hid (HPa.out.next (p' := p) (l' := l) (m' := m) (r' := r) (b' := b) ⟨HD4.out.keep hf5 (by simp; omega) (by simp; omega) (by simp; omega), hr5, hsep, hf'⟩ (L := [p, l, m, r, b]) ((Hf4.out.mono (by simp +contextual)).trans (hf5.mono (by simp +contextual))) (by intro x hx; simp at hx; omega) (by omega) hc')
            clear hf5 hr5 HR4 HD4 Hf4 KR HPa
            go_wp2_with fail
            refine (HT.out.tie.same).mono ?_
            rintro e wS ⟨rfl, hfS⟩
            have HTS := Lib.hid (HT.out.keep hfS)
            clear HT hfS
            go_wp2_with fail
            go_roundw
            case rel => exact ⟨i + 1, _, _, _, _, _, _, _, _, _, _, _, _, by omega, by go_num, rfl, rfl, HTS.out⟩
            case measure => simp [intOf]; omega
          · have hT := HPa.out.tie
            refine (crash_calls wa p l m k q c f d ls wt hT.dev v.flip v.la v.ll v.lc v.lz (HOP.out.row.ints HPa.out.fr) HOP.out.row.lt63 (fun h0 x hx => by have := HOP.out.row.block h0 x hx; omega)).mono ?_
            rintro e w4 ⟨rfl, hf4, m', hm', hd4⟩
            have hbo4 := hf4.keep HBO.out (by simp; omega)
            have hco4 := box_cell hbo4
            have hR4 := hT.ref.keep hf4 (by simp; omega) (by simp; omega)
            have hF4 : Fr [] w w4 := HPa.out.fr.trans_new hf4 (by intro x hx; simp at hx; omega)
            have HR4 := Lib.hid hR4; have HD4 := Lib.hid hd4; have HF4 := Lib.hid hF4; have Hf4 := Lib.hid hf4; have HM := Lib.hid hm'
            clear hR4 hd4 hF4 hbo4 hT hf4 hm'
            go_wp2_with fail
            refine (rcrash_calls w4 r b k q' c (fuseOf f) d ls _ _ HR4.out v.flip v.la v.ll v.lc v.lz (HOP.out.row.ints HF4.out) HOP.out.row.lt63 (fun h0 x hx => by have := HOP.out.row.block h0 x hx; omega)).mono ?_
            rintro e w5 ⟨rfl, hf5, hr5⟩
            have HT := Lib.hid (HPa.out.next (HPa.out.tie.crashed HM.out HD4.out hf5 hr5) (L := [p, l, m, r, b]) ((Hf4.out.mono (by simp)).trans (hf5.mono (by simp))) (by intro x hx; simp at hx; omega) (by have := HM.out; have := HPa.out.lts; omega) (by omega))
            clear hf5 hr5 HR4 HD4 HF4 Hf4 HM HPa hco4
            go_wp2_with fail
            refine (HT.out.tie.same).mono ?_
            rintro e wS ⟨rfl, hfS⟩
            have HTS := Lib.hid (HT.out.keep hfS)
            clear HT hfS
            go_wp2_with fail
            go_roundw
            case rel => exact ⟨i + 1, _, _, _, _, _, _, _, _, _, _, _, _, by omega, by go_num, rfl, rfl, HTS.out⟩
            case measure => simp [intOf]; omega
          · have hT := HPa.out.tie
            refine (fuse_calls wa p l m k q c f d ls wt hT.dev v.a).mono ?_
            rintro e w4 ⟨rfl, hf4, hd4⟩
            have hbo4 := hf4.keep HBO.out (by simp; omega)
            have hco4 := box_cell hbo4
            have hR4 := hT.ref.keep hf4 (by simp; omega) (by simp; omega)
            have hrc := box_cell hR4.box; have hrf := box_free hR4.box
            have HR4 := Lib.hid hR4; have HD4 := Lib.hid hd4; have Hf4 := Lib.hid hf4
            clear hR4 hd4 hbo4 hT hf4
            go_wp2_with fail
            have e : max v.a (-1) = fuseOf v.a := by unfold fuseOf; split <;> omega
            rw [e]
            have hr5 := HR4.out.reboxed ((Fr.refl _ _).setCell (.inl (by simp)) _) (box_set HR4.out.box 2 (.int .i64 (fuseOf v.a)))
            have hf5 : Fr [r] w4 (w4.setCell ⟨r, 2, none⟩ (.int .i64 (fuseOf v.a))) := (Fr.refl _ _).setCell (.inl (by simp)) _
            have HT := Lib.hid (HPa.out.next ⟨HD4.out.keep hf5 (by simp; omega) (by simp; omega) (by simp; omega), hr5, hsep, hra⟩ (L := [p, r]) ((Hf4.out.mono (by simp)).trans (hf5.mono (by simp))) (by intro x hx; simp at hx; omega) (by omega) (by omega))
            clear hr5 hf5 HR4 HD4 Hf4 HPa hrc hrf hco4 e
            refine (HT.out.tie.same).mono ?_
            rintro e wS ⟨rfl, hfS⟩
            have HTS := Lib.hid (HT.out.keep hfS)
            clear HT hfS
            go_wp2_with fail
            go_roundw
            case rel => exact ⟨i + 1, _, _, _, _, _, _, _, _, _, _, _, _, by omega, by go_num, rfl, rfl, HTS.out⟩
            case measure => simp [intOf]; omega
          · have hT := HPa.out.tie
            refine (copy_calls wa p l m k q c f d ls wt hT.dev).mono ?_
            rintro e w4 ⟨p4, l4, m4, q4, rfl, hf4, hp4, hl4, hm4, hd4⟩
            have hR4 := hT.ref.keep hf4 (by simp) (by simp)
            have HR4 := Lib.hid hR4; have HD4 := Lib.hid hd4; have Hf4 := Lib.hid hf4
            have hsa := HPa.out.fr.size
            have hlt4 : p4 < w4.heap.size ∧ l4 < w4.heap.size ∧ m4 < w4.heap.size := ⟨lt_of_heap hd4.box, by obtain ⟨lc, h1, _⟩ := hd4.las; exact lt_of_heap h1, hd4.wai.lt⟩
            clear hR4 hd4 hT hf4
            go_wp2_with fail
            refine (rcopy_calls w4 r b k q' c (fuseOf f) d ls _ _ HR4.out).mono ?_
            rintro e w5 ⟨r5, b5, q5, rfl, hf5, hr5, hb5, hr6⟩
            have HT := Lib.hid (HPa.out.next (p' := p4) (l' := l4) (m' := m4) (r' := r5) (b' := b5) ⟨HD4.out.keep hf5 (by simp) (by simp) (by simp), hr6, by omega, hrng⟩ (L := []) (Hf4.out.trans hf5) (by simp) (by have := Hf4.out.size; omega) (by omega))
            clear hf5 hr6 HR4 HD4 Hf4 HPa
            go_wp2_with fail
            refine (HT.out.tie.same).mono ?_
            rintro e wS ⟨rfl, hfS⟩
            have HTS := Lib.hid (HT.out.keep hfS)
            clear HT hfS
            go_wp2_with fail
            go_roundw
            case rel => exact ⟨i + 1, _, _, _, _, _, _, _, _, _, _, _, _, by omega, by go_num, rfl, rfl, HTS.out⟩
            case measure => simp [intOf]; omega
        · go_wp2_with fail
          go_ret
          exact ⟨rfl, hP.fr.below (Nat.le_refl _) (by simp)⟩
      · go_wp2_with fail
        go_ret
        exact ⟨rfl, hP.fr.below (Nat.le_refl _) (by simp)⟩
  · have HN := Lib.hid hin
    go_enter Try.func5, Try.ntmps5
    go_wp2_with fail
    refine (new_arg w n hn (by omega)).mono ?_
    rintro e w1 ⟨rfl, rfl⟩
    go_wp2_with fail
    refine (rnew_arg w n (by omega)).mono ?_
    rintro e w2 ⟨rfl, rfl⟩
    go_wp2_with fail
    refine (awake_calls w).mono ?_
    rintro e w3 ⟨rfl, hf3⟩
    have HF3 := Lib.hid hf3
    clear hf3
    go_wp2_with fail
    go_loopw [5, 7, 9] (fun v5 v7 v9 wr => v5 = .pointer none ∧ v7 = .pointer none ∧ v9 = .int .i64 0 ∧ Fr [] w wr) (fun _ _ _ _ => 0)
    case atStart => exact ⟨rfl, rfl, rfl, HF3.out⟩
    case round =>
      clear HF3
      obtain ⟨rfl, rfl, rfl, hf⟩ := hrel
      have HF := Lib.hid hf
      clear hf
      by_cases hlt : 0 < len
      · have hlt' : (0 : Int) < (len : Int) := by omega
        go_wp2_with fail
        go_ret
        exact ⟨rfl, HF.out.below (Nat.le_refl _) (by simp)⟩
      · have hlt' : ¬ (0 : Int) < (len : Int) := by omega
        go_wp2_with fail
        go_ret
        exact ⟨rfl, HF.out.below (Nat.le_refl _) (by simp)⟩
end Go.Proofs.Ythjoakgcmelhmaa.devPlays
