/-
  wal: what a log that was left tells.
  wal: what a crash left is brought home; Open, whatever comes of it.
  wal: what a failure at any call leaves, as plain values: the sectors that may be kept.
  wal: a settle, whatever comes of it: behind it, or behind a crash in it, one of two states is there.
  wal: a store that may die at any call, as a plain value: which states may be there behind a crash.
  wal: a store that may die, in memory: its calls.
  wal: WalLasts: behind a crash: what is carried, opened, told.
  wal: WalLasts: what a store behind a crash tells, opened again.
-/
import Derived.Test.YtoifpbifipgpkaaWal29
import Derived.Test.YtoifpbifipgpkaaWal28
import Derived.Test.YtoifpbifipgpkaaWp2
set_option linter.unusedVariables false
set_option linter.unusedSimpArgs false
namespace Go.Proofs.Ytoifpbifipgpkaa
open Go.RowKit Go.MapKept
section
variable {P : Program} {ops : Array Oper} {rest : List Oper} {o : Oper} {a : Act} {Q : Exit → Act → World → Prop} {w : World}
theorem wL_array (hg : o.guard = none) (T : TypeId) (x : Operand) (hop : o.op = .sliceToArrayPointer T x) (ad : Addr) (k cap : Nat) (hx : a.eval x = .slice (some ad) k cap) (n : Nat) (e : TypeId) (hu : P.underlying T = some (.array n e)) (hn : n ≤ k)
    (h : wpList P ops Q rest (a.put o.dst (.pointer (some ad))) w) : wpList P ops Q (o :: rest) a w := by
  refine wpList_val hg ?_ h
  simp [execOp, hop, hx, run_arrayAt (P := P) (w := w) T e n (some ad) k cap hu hn]
end
theorem numAt_range (s : List UInt8) (k : Nat) : 0 ≤ numAt s k ∧ numAt s k ≤ 65535 := by
  unfold numAt
  have u0 := (s.getD (2 * k) 0).toNat_lt; have u1 := (s.getD (2 * k + 1) 0).toNat_lt
  generalize (s.getD (2 * k) 0).toNat = x0 at *
  generalize (s.getD (2 * k + 1) 0).toNat = x1 at *
  have e : bits .or .i64 (x0 : Int) ((x1 : Int) * 256) = ((x0 ||| x1 * 256 : Nat) : Int) := by
    have hlt : x0 ||| x1 * 256 < 2 ^ 16 := Nat.or_lt_two_pow (by omega) (by omega)
    unfold bits
    have e1 : (BitVec.ofInt 64 (x0 : Int)).toNat = x0 := by
      rw [BitVec.toNat_ofInt]; omega
    have e2 : (BitVec.ofInt 64 ((x1 : Int) * 256)).toNat = x1 * 256 := by
      rw [BitVec.toNat_ofInt]; omega
    have e3 : (BitVec.ofInt 64 (x0 : Int) ||| BitVec.ofInt 64 ((x1 : Int) * 256)).toNat = x0 ||| x1 * 256 := by
      rw [BitVec.toNat_or, e1, e2]
    show IntKind.i64.wrap ((BitVec.ofInt 64 (x0 : Int) ||| BitVec.ofInt 64 ((x1 : Int) * 256)).toNat : Int) = _
    rw [e3]
    exact IntWalk.i64_in _ (by omega)
  have hlt : x0 ||| x1 * 256 < 2 ^ 16 := Nat.or_lt_two_pow (by omega) (by omega)
  rw [e]
  omega
/-- The number at a place of the log. -/
def logNum (ls : Nat → List UInt8) (j : Nat) : Int := numAt (ls (1 + j / 32)) (j % 32)
/-- What the first k places of the log tell. -/
def logTo (ls : Nat → List UInt8) : Nat → Int → Option (List UInt8)
  | 0 => fun _ => none
  | k + 1 => wrote (logTo ls k) (logNum ls k) (ls (9 + k))
/-- What a log of N places tells to a device of n sectors. -/
def LogIs (ls : Nat → List UInt8) (n N : Nat) (C : Int → Option (List UInt8)) : Prop :=
  (N ≤ 256 ∧ (∀ j, j < N → logNum ls j + 300 < n) ∧ C = logTo ls N) ∨ ((256 < N ∨ ∃ j, j < N ∧ (n : Int) ≤ logNum ls j + 300) ∧ C = fun _ => none)
def ReadLogPost (w : World) (p l m n q : Nat) (b f : Int) (ls : Nat → List UInt8) (N : Nat) (e : Ending) (w' : World) : Prop :=
  ∃ mc C, LogIs ls n N C ∧ e = .returned (.tuple #[.map (some mc), .int .i64 0]) ∧ w.heap.size ≤ mc ∧ ChAt w' mc n C ∧ Fr [p] w w' ∧ ∃ c', DvAt w' p l m n q (b + 600) ⟨c', f, false, ls, fun _ => none⟩
theorem ChAt.emptyW {w : World} {mc n : Nat} (h : IMap w mc (fun _ => none)) : ChAt w mc n (fun _ => none) := ⟨h, fun i s h => by cases h⟩
set_option maxRecDepth 100000 in
set_option maxHeartbeats 4000000 in
theorem readLog_calls (w : World) (p l m n q : Nat) (b c f : Int) (ls : Nat → List UInt8) (h : DvAt w p l m n q b ⟨c, f, false, ls, fun _ => none⟩) (hn : 300 < n) (hb : b < 8000000000000000000) (N : Nat) (hN : N ≤ 65535) :
    Calls Try.prog 64 #[.pointer (some ⟨p, 0, none⟩), .int .i64 N] w (ReadLogPost w p l m n q b f ls N) := by
  have hmm := @run_makeMap Try.prog
  have hlts := h.lts
  have hnb := h.at_.nb
  have hlens : ∀ i, i < n → (ls i).length = 64 := fun i hi => by obtain ⟨_, _, _, h3⟩ := h.at_.las; exact (h3 i hi).1
  have HL := Lib.hid hlens
  have hfa : Fr [] w (w.alloc (.map #[] 0)) := (Fr.refl [] w).alloc _
  have hmp : IMap (w.alloc (.map #[] 0)) w.heap.size (fun _ => none) := ⟨#[], 0, heap_alloc_new w _, Holds.empty 0⟩
  have H := Lib.hid (h.keep hfa (by simp) (by simp) (by simp)); have HFA := Lib.hid hfa; have HMP := Lib.hid hmp
  clear h hlens hfa hmp
  by_cases hbig : 256 < N
  · have hbig' : (256 : Int) < (N : Int) := by omega
    go_enter Try.func64, Try.ntmps64
    go_wp2_with fail
    go_ret2
    exact ⟨w.heap.size, _, .inr ⟨.inl hbig, rfl⟩, rfl, Nat.le_refl _, ChAt.emptyW HMP.out, HFA.out.mono (by simp), c, H.out.more (by omega)⟩
  · have hbig' : ¬ (256 : Int) < (N : Int) := by omega
    go_enter Try.func64, Try.ntmps64
    go_wp2_with fail
    obtain ⟨mc, hmc⟩ : ∃ mc, w.heap.size = mc := ⟨_, rfl⟩
    rw [hmc] at HMP ⊢
    have hmw : p ≠ mc ∧ l ≠ mc ∧ m ≠ mc := by omega
    go_loopw [16] (fun v16 wr => ∃ (k : Nat) (c' : Int), k ≤ N ∧ v16 = .int .i64 k ∧ ChAt wr mc n (logTo ls k) ∧ (∀ j, j < k → logNum ls j + 300 < n) ∧ DvAt wr p l m n q (b + 2 * k) ⟨c', f, false, ls, fun _ => none⟩ ∧ Fr [p, mc] (w.alloc (.map #[] 0)) wr) (fun v16 _ => N - (intOf v16).toNat)
    case atStart => exact ⟨0, c, by omega, rfl, ChAt.emptyW HMP.out, fun j hj => by omega, H.out.more (by omega), Fr.refl _ _⟩
    case round =>
      rename World => wr
      obtain ⟨k, c', hk, rfl, hch, hall, hd, hf⟩ := hrel
      have hw1 : IntKind.i64.wrap ((k : Int) + 1) = (k : Int) + 1 := IntWalk.i64_in _ (by omega)
      have HCH := Lib.hid hch; have HALL := Lib.hid hall; have HF := Lib.hid hf
      clear hch hall hf
      by_cases hkn : k < N
      · have k1 : (k : Int) < (N : Int) := by omega
        have k2 : (0 : Int) ≤ (k : Int) := by omega
        have k3 : IntKind.i64.wrap (1 + (k : Int) / 32) = ((1 + k / 32 : Nat) : Int) := by rw [show 1 + (k : Int) / 32 = ((1 + k / 32 : Nat) : Int) by omega]; exact IntWalk.i64_in _ (by omega)
        have k4 : (k : Int) % 32 = ((k % 32 : Nat) : Int) := by omega
        have k5 : IntKind.i64.wrap (9 + (k : Int)) = ((9 + k : Nat) : Int) := by rw [show 9 + (k : Int) = ((9 + k : Nat) : Int) by omega]; exact IntWalk.i64_in _ (by omega)
        have hrn := readNumber_calls wr p l m n q (b + 2 * k) _ hd (by omega) (1 + k / 32) (by omega) (k % 32) (by omega)
        have hrv : (if (⟨c', f, false, ls, fun _ => none⟩ : Dv).d then 0 else numAt ((⟨c', f, false, ls, fun _ => none⟩ : Dv).text (1 + k / 32)) (k % 32)) = logNum ls k := rfl
        rw [hrv, show ((⟨c', f, false, ls, fun _ => none⟩ : Dv).read (1 + k / 32)).1 = 0 from rfl] at hrn
        obtain ⟨kd, hkd⟩ : ∃ kd : Nat, k / 32 = kd := ⟨_, rfl⟩
        obtain ⟨kr, hkr⟩ : ∃ kr : Nat, k % 32 = kr := ⟨_, rfl⟩
        rw [hkd] at k3 hrn
        rw [hkr] at k4 hrn
        rw [show ((1 + kd : Nat) : Int) = 1 + (kd : Int) by omega] at k3 hrn
        have hnr := numAt_range (ls (1 + k / 32)) (k % 32)
        have hnr' : 0 ≤ logNum ls k ∧ logNum ls k ≤ 65535 := hnr
        have HRN := Lib.hid hrn; have HNR := Lib.hid hnr'
        have e1 : (k : Int) / 32 = (kd : Int) := by omega
        clear hrn hrv hd hnr hnr' hkr hkd
        go_wp2_with fail
        refine HRN.out.mono ?_
        rintro e w2 ⟨rfl, hf2, hd2⟩
        have hd2' : DvAt w2 p l m n q (b + 2 * k + 1) ⟨c' + 1, f, false, ls, fun _ => none⟩ := hd2
        have HSZ := Lib.hid (size_calls w2 p l m n q (c' + 1) f false ls (fun _ => none) hd2'.at_)
        have HRM := Lib.hid (fun W => room_calls W n (by omega))
        have HD2 := Lib.hid hd2'; have HF2 := Lib.hid (HF.out.trans (hf2.mono (by simp)))
        have HCH2 := Lib.hid (HCH.out.keep hf2 (by simpa using fun e => hmw.1 e.symm))
        have hri : roomI n = (n : Int) - 300 := by unfold roomI; rw [if_neg (by omega)]
        rw [hri] at HRM
        obtain ⟨L, hL⟩ : ∃ L, logNum ls k = L := ⟨_, rfl⟩
        have HLE := Lib.hid hL
        have hLr := HNR.out
        rw [hL] at hLr ⊢
        clear hf2 hd2 hd2' HRN hri hL
        by_cases hroom : (n : Int) - 300 ≤ L
        · go_wp2_with fail
          refine HSZ.out.mono ?_
          rintro e w3 ⟨rfl, rfl⟩
          go_wp2_with fail
          refine (HRM.out _).mono ?_
          rintro e w3 ⟨rfl, rfl⟩
          have hfn : Fr [] w2 (w2.alloc (.map #[] 0)) := (Fr.refl [] w2).alloc _
          have hmn : IMap (w2.alloc (.map #[] 0)) w2.heap.size (fun _ => none) := ⟨#[], 0, heap_alloc_new w2 _, Holds.empty 0⟩
          have HFN := Lib.hid hfn; have HMN := Lib.hid hmn
          clear hfn hmn
          go_wp2_with fail
          go_ret2
          have hs2 := HF2.out.size
          have hsa := HFA.out.size
          refine ⟨w2.heap.size, _, .inr ⟨.inr ⟨k, hkn, by rw [HLE.out]; omega⟩, rfl⟩, rfl, by omega, ChAt.emptyW HMN.out, ?_, c' + 1, (HD2.out.keep HFN.out (by simp) (by simp) (by simp)).more (by omega)⟩
          exact (HFA.out.mono (by simp)).trans_new (HF2.out.trans (HFN.out.mono (by simp))) (fun x hx => by simp at hx; rcases hx with rfl | rfl; exact .inl (by simp); exact .inr (by omega))
        · have hroom' : ¬ ((n : Int) - 300 ≤ L) := hroom
          obtain ⟨Ln, rfl⟩ : ∃ Ln : Nat, L = Ln := ⟨L.toNat, by omega⟩
          have hrd := dread_calls w2 p l m n q (b + 2 * k + 1) _ HD2.out (by omega) (9 + k) (by omega)
          rw [show ((9 + k : Nat) : Int) = 9 + (k : Int) by omega] at k5 hrd
          rw [show ((⟨c' + 1, f, false, ls, fun _ => none⟩ : Dv).text (9 + k)) = ls (9 + k) from rfl, show ((⟨c' + 1, f, false, ls, fun _ => none⟩ : Dv).read (9 + k)).1 = 0 from rfl, HL.out (9 + k) (by omega)] at hrd
          have HRD := Lib.hid hrd
          have hlen9 := HL.out (9 + k) (by omega)
          clear hrd
          go_wp2_with fail
          refine HSZ.out.mono ?_
          rintro e w3 ⟨rfl, rfl⟩
          go_wp2_with fail
          refine (HRM.out _).mono ?_
          rintro e w3 ⟨rfl, rfl⟩
          go_wp2_with fail
          refine HRD.out.mono ?_
          rintro e w3 ⟨x, rfl, hf3, hd3, ho⟩
          obtain ⟨g, cap, rfl, hg1, hg2, hr⟩ := row_range ho (by omega)
          have hd3' : DvAt w3 p l m n q (b + 2 * ((k + 1 : Nat) : Int)) ⟨c' + 1 + 1, f, false, ls, fun _ => none⟩ := DvAt.more (b := b + 2 * k + 1 + 1) hd3 (by omega)
          have hch3 := HCH2.out.keep hf3 (by simpa using fun e => hmw.1 e.symm)
          have HR3 := Lib.hid hr; have HD3 := Lib.hid hd3'; have HF3 := Lib.hid (HF2.out.trans (hf3.mono (by simp))); have HCH3 := Lib.hid hch3
          clear hr hd3 hd3' hf3 hch3 ho HRD HSZ HRM HD2 HF2 HCH2 HCH
          go_wp2_with (first
            | ((with_reducible_and_instances refine id (α := wpList _ _ _ (⟨some 51, .sliceToArrayPointer _ _, _, _, _, _⟩ :: _) _ _) ?_); refine wL_array rfl _ _ rfl ⟨g, 0, none⟩ 64 cap rfl 64 5 Try.underlying82 (Nat.le_refl _) ?_)
            | ((with_reducible_and_instances refine id (α := wpList _ _ _ (⟨some 52, .load 82 _, _, _, _, _⟩ :: _) _ _) ?_); refine wL_loadMid rfl _ _ rfl g 0 rfl (cel (ls (9 + k))) HR3.out 64 5 Try.underlying82 (by rw [cel_length, hlen9]; exact Try.sizeWS) ?_)
            | (at_mapUpdate; refine wL_mapUpdate rfl _ _ _ _ rfl 3 82 Try.underlying85 Try.underlying3 mc rfl (Ln : Int) rfl (secV (ls (9 + k))) rfl _ HCH3.out.map ?_)
            | fail)
          intro w4 hf4 hmap
          have hch4 : ChAt w4 mc n (logTo ls (k + 1)) := by
            refine ⟨?_, fun j t hj => ?_⟩
            · have e : (fun j => if j = (Ln : Int) then some (secV (ls (9 + k))) else (logTo ls k j).map secV) = fun j => (logTo ls (k + 1) j).map secV := by
                funext j
                show _ = (wrote (logTo ls k) (logNum ls k) (ls (9 + k)) j).map secV
                rw [HLE.out]
                unfold wrote
                by_cases hj : j = (Ln : Int) <;> simp [hj]
              rw [← e]; exact hmap
            · have hj' : wrote (logTo ls k) (logNum ls k) (ls (9 + k)) j = some t := hj
              rw [HLE.out] at hj'
              unfold wrote at hj'
              by_cases e : j = (Ln : Int)
              · rw [if_pos e] at hj'; cases hj'; exact ⟨by omega, by omega, hlen9⟩
              · rw [if_neg e] at hj'; exact HCH3.out.dom j t hj'
          have HCH4 := Lib.hid hch4
          have HD4 := Lib.hid (HD3.out.keep hf4 (by simpa using hmw.1) (by simpa using hmw.2.1) (by simpa using hmw.2.2))
          have HF4 := Lib.hid (HF3.out.trans (hf4.mono (by simp)))
          clear hf4 hmap hch4 HCH3 HD3 HF3 HR3
          go_wp2_with fail
          go_roundw
          case rel =>
            refine ⟨k + 1, c' + 1 + 1, by omega, by go_num, HCH4.out, fun j hj => ?_, HD4.out, HF4.out⟩
            by_cases e : j < k
            · exact HALL.out j e
            · obtain rfl : j = k := by omega
              rw [HLE.out]; omega
          case measure => simp [intOf]; omega
      · obtain rfl : N = k := by omega
        have k1 : ¬ (N : Int) < (N : Int) := by omega
        have HD := Lib.hid hd
        clear hd
        go_wp2_with fail
        go_ret2
        refine ⟨mc, _, .inl ⟨by omega, HALL.out, rfl⟩, rfl, by omega, HCH.out, ?_, c', HD.out.more (by omega)⟩
        exact (HFA.out.mono (by simp)).trans_new HF.out (fun x hx => by simp at hx; rcases hx with rfl | rfl; exact .inl (by simp); exact .inr (by omega))
end Go.Proofs.Ytoifpbifipgpkaa
namespace Go.Proofs.Ytoifpbifipgpkaa
open Go.RowKit Go.MapKept
/-- What finish makes of a device on which nothing waits. -/
def FinIs (n : Nat) (f : Int) (ls : Nat → List UInt8) (code : Int) (v' : Dv) : Prop :=
  ∃ c' : Int, (numAt (ls 0) 0 = 0 ∧ code = 0 ∧ v' = ⟨c', f, false, ls, fun _ => none⟩) ∨
    (∃ (N : Nat) (C : Int → Option (List UInt8)) (ks : List Int), numAt (ls 0) 0 = N ∧ 0 < N ∧ LogIs ls n N C ∧ (∀ i s, C i = some s → 0 ≤ i ∧ i + 300 < n ∧ s.length = 64) ∧ KeysOf C ks ∧ code = ((⟨c', f, false, ls, fun _ => none⟩ : Dv).home C ks).1 ∧ v' = ((⟨c', f, false, ls, fun _ => none⟩ : Dv).home C ks).2)
def FinPost (w : World) (p l m n q : Nat) (b f : Int) (ls : Nat → List UInt8) (e : Ending) (w' : World) : Prop :=
  Fr [p, l, m] w w' ∧ ∃ code v', FinIs n f ls code v' ∧ e = .returned (.int .i64 code) ∧ DvAt w' p l m n q (b + n + 1000) v'
set_option maxHeartbeats 4000000 in
theorem finish_calls (w : World) (p l m n q : Nat) (b c f : Int) (ls : Nat → List UInt8) (h : DvAt w p l m n q b ⟨c, f, false, ls, fun _ => none⟩) (hn : 300 < n) (hb : b < 7000000000000000000) :
    Calls Try.prog 46 #[.pointer (some ⟨p, 0, none⟩)] w (FinPost w p l m n q b f ls) := by
  have hW := waiting_calls w p l m n q c f false ls (fun _ => none) h.at_
  have hnb := h.at_.nb
  have H := Lib.hid h
  have HW := Lib.hid hW
  have hlts := h.lts
  have hrng := numAt_range (ls 0) 0
  obtain ⟨N, hN⟩ : ∃ N : Nat, numAt (ls 0) 0 = N := ⟨(numAt (ls 0) 0).toNat, by omega⟩
  have hNr : N ≤ 65535 := by omega
  have HN := Lib.hid hN
  clear h hW hrng hN
  go_enter Try.func46, Try.ntmps46
  go_wp2_with fail
  refine HW.out.mono ?_
  rintro e w1 ⟨vx, ks, rfl, hmem, _, _, hown, hnil, hf1⟩
  have hks : ks = [] := by
    cases ks with
    | nil => rfl
    | cons x xs =>
      obtain ⟨s, hs⟩ := (hmem x).1 (by simp)
      cases hs
  obtain rfl := hnil.2 hks
  have H1 := Lib.hid (H.out.keep hf1 (by simp) (by simp) (by simp)); have HF1 := Lib.hid hf1
  have hrn := readNumber_calls w1 p l m n q b _ H1.out (by omega) 0 (by omega) 0 (by omega)
  rw [show (if (⟨c, f, false, ls, fun _ => none⟩ : Dv).d then 0 else numAt ((⟨c, f, false, ls, fun _ => none⟩ : Dv).text 0) 0) = numAt (ls 0) 0 from rfl, show ((⟨c, f, false, ls, fun _ => none⟩ : Dv).read 0).1 = 0 from rfl, HN.out] at hrn
  have HRN := Lib.hid hrn
  clear hmem hown hnil hf1 hks hrn HW
  go_wp2_with fail
  refine HRN.out.mono ?_
  rintro e w2 ⟨rfl, hf2, hd2⟩
  have hd2' : DvAt w2 p l m n q (b + 1) ⟨c + 1, f, false, ls, fun _ => none⟩ := hd2
  have HD2 := Lib.hid hd2'; have HF2 := Lib.hid ((HF1.out.mono (l' := [p]) (by simp)).trans hf2)
  clear hf2 hd2 hd2' HRN H1
  by_cases h0 : N = 0
  · subst h0
    go_wp2_with fail
    go_ret
    exact ⟨HF2.out.mono (by simp), 0, _, ⟨c + 1, .inl ⟨HN.out, rfl, rfl⟩⟩, rfl, HD2.out.more (by omega)⟩
  · have h1 : ((N : Int) == 0) = false := beq_eq_false_iff_ne.2 (by omega)
    have HL := Lib.hid (readLog_calls w2 p l m n q (b + 1) (c + 1) f ls HD2.out hn (by omega) N hNr)
    have hsz2 := HF2.out.size
    go_wp2_with fail
    refine HL.out.mono ?_
    rintro e w3 ⟨mc, C, hlog, rfl, hmc, hch, hf3, c3, hd3⟩
    have HB := Lib.hid (bringHome_calls w3 p l m n q (b + 1 + 600) _ hd3 (by omega) mc C hch (by omega) (by omega))
    have HLG := Lib.hid hlog; have HDM := Lib.hid hch.dom; have HF3 := Lib.hid (HF2.out.trans hf3)
    clear hlog hch hf3 hd3 HL
    go_wp2_with fail
    refine HB.out.mono ?_
    rintro e w4 ⟨ks2, hks2, rfl, hf4, hd4⟩
    have HK2 := Lib.hid hks2; have HF4 := Lib.hid ((HF3.out.mono (l' := [p, l, m]) (by simp)).trans hf4); have HD4 := Lib.hid hd4
    clear hks2 hf4 hd4 HB
    go_wp2_with fail
    go_ret
    exact ⟨HF4.out, _, _, ⟨c3, .inr ⟨N, C, ks2, HN.out, by omega, HLG.out, HDM.out, HK2.out, rfl, rfl⟩⟩, rfl, HD4.out.more (by omega)⟩
def OpenPost (w : World) (p l m n q : Nat) (b f : Int) (ls : Nat → List UInt8) (e : Ending) (w' : World) : Prop :=
  Fr [p, l, m] w w' ∧ ∃ code v', FinIs n f ls code v' ∧ DvAt w' p l m n q (b + n + 1000) v' ∧
    ((code = 0 ∧ ∃ s bs, e = .returned (.tuple #[.pointer (some ⟨s, 0, none⟩), .int .i64 0]) ∧ w.heap.size ≤ s ∧ (∀ x ∈ bs, x = p ∨ x = l ∨ x = m ∨ w.heap.size ≤ x) ∧ StAt w' bs s p l m n q (b + n + 1000) (Sv.new v')) ∨
     (code ≠ 0 ∧ e = .returned (.tuple #[.pointer none, .int .i64 code])))
set_option maxHeartbeats 4000000 in
theorem open_calls (w : World) (p l m n q : Nat) (b c f : Int) (ls : Nat → List UInt8) (h : DvAt w p l m n q b ⟨c, f, false, ls, fun _ => none⟩) (hn : 300 < n) (hb : b < 7000000000000000000) :
    Calls Try.prog 19 #[.pointer (some ⟨p, 0, none⟩)] w (OpenPost w p l m n q b f ls) := by
  have hmm := @run_makeMap Try.prog
  have hnb := h.at_.nb
  have HS := Lib.hid (size_calls w p l m n q c f false ls (fun _ => none) h.at_)
  have HR := Lib.hid (room_calls w n (by omega))
  have hr : roomI n = (n : Int) - 300 := by unfold roomI; rw [if_neg (by omega)]
  have HF := Lib.hid (finish_calls w p l m n q b c f ls h hn hb)
  rw [hr] at HR
  have hlt := h.lts
  clear h hr
  have hne : ¬ ((n : Int) - 300 = 0) := by omega
  go_enter Try.func19, Try.ntmps19
  go_wp2_with fail
  refine HS.out.mono ?_
  rintro e w1 ⟨rfl, rfl⟩
  go_wp2_with fail
  refine HR.out.mono ?_
  rintro e w1 ⟨rfl, rfl⟩
  go_wp2_with fail
  refine HF.out.mono ?_
  rintro e w1 ⟨hf1, code, v', hfin, rfl, hd1⟩
  have HF1 := Lib.hid hf1; have HD1 := Lib.hid hd1; have HFI := Lib.hid hfin
  clear hf1 hd1 hfin HF HS HR
  by_cases hc : code = 0
  · subst hc
    go_wp2_with fail
    go_ret2
    have hsz := HF1.out.size
    have e1 : (w1.alloc (.map #[] 0)).heap.size = w1.heap.size + 1 := by simp
    have hfa : Fr [] w1 ((w1.alloc (.map #[] 0)).alloc (.cells #[.pointer (some ⟨p, 0, none⟩), .map (some w1.heap.size), .slice none 0 0, .int .i64 0, .int .i64 0, .bool false] 88)) := ((Fr.refl [] w1).alloc _).alloc _
    have hbx : StoreBox ((w1.alloc (.map #[] 0)).alloc (.cells #[.pointer (some ⟨p, 0, none⟩), .map (some w1.heap.size), .slice none 0 0, .int .i64 0, .int .i64 0, .bool false] 88)) (w1.heap.size + 1) p w1.heap.size (.slice none 0 0) 0 0 false := by
      have := heap_alloc_new (w1.alloc (.map #[] 0)) (.cells #[.pointer (some ⟨p, 0, none⟩), .map (some w1.heap.size), .slice none 0 0, .int .i64 0, .int .i64 0, .bool false] 88)
      rw [e1] at this
      exact this
    have hmp : IMap ((w1.alloc (.map #[] 0)).alloc (.cells #[.pointer (some ⟨p, 0, none⟩), .map (some w1.heap.size), .slice none 0 0, .int .i64 0, .int .i64 0, .bool false] 88)) w1.heap.size (fun _ => none) :=
      ⟨#[], 0, ((Fr.refl [] (w1.alloc (.map #[] 0))).alloc _).keep (heap_alloc_new w1 _) (by simp), Holds.empty 0⟩
    have hd2 := HD1.out.keep hfa (by simp) (by simp) (by simp)
    have hls := lt_of_heap hbx
    refine ⟨HF1.out.trans (hfa.mono (by simp)), 0, v', HFI.out, hd2, .inl ⟨rfl, w1.heap.size + 1, [w1.heap.size + 1, p, l, m, w1.heap.size], rfl, by omega, fun x hx => by simp at hx; omega, ?_⟩⟩
    exact ⟨⟨w1.heap.size, _, [], _, ⟨hbx, ⟨hmp, fun i s h => by cases h⟩, World.ownsRow_nil _ _ _ _, ⟨hls, by omega, by omega, by omega, Nat.le_refl _⟩, rfl, fun j hj => absurd hj (by simp), by omega, by simp, by simp, by simp, fun g hg => by cases hg⟩⟩, hd2, by omega, Card.empty, by simp [Sv.new], rfl, fun j hj => absurd hj (by simp [Sv.new]), by simp [Sv.new], by simp [Sv.new], by simp [Sv.new], hn, by simp [Sv.new]⟩
  · have hc' : (code == 0) = false := beq_eq_false_iff_ne.2 hc
    go_wp2_with fail
    go_ret2
    exact ⟨HF1.out, code, v', HFI.out, HD1.out, .inr ⟨hc, rfl⟩⟩
end Go.Proofs.Ytoifpbifipgpkaa
namespace Go.Proofs.Ytoifpbifipgpkaa
open Go.RowKit Go.MapKept
/-! ### One call of the device, whatever comes of it -/
theorem write_two (v : Dv) (hd : v.d = false) (i : Int) (s : List UInt8) : v.write i s = (50, ⟨v.c, 0, true, v.ls, v.wt⟩) ∨ v.write i s = (0, ⟨v.c + 1, burnF v.f, false, v.ls, wrote v.wt i s⟩) := by
  unfold Dv.write
  rw [hd, if_neg (by simp)]
  by_cases h : v.f = 0
  · rw [if_pos h]; exact .inl rfl
  · rw [if_neg h]; exact .inr rfl
theorem flush_two (v : Dv) (hd : v.d = false) : v.flush = (50, ⟨v.c, 0, true, v.ls, v.wt⟩) ∨ v.flush = (0, ⟨v.c + 1, burnF v.f, false, fun i : Nat => (v.wt (i : Int)).getD (v.ls i), fun _ => none⟩) := by
  unfold Dv.flush
  rw [hd, if_neg (by simp)]
  by_cases h : v.f = 0
  · rw [if_pos h]; exact .inl rfl
  · rw [if_neg h]; exact .inr rfl
structure PutsIs (v : Dv) (f : Int → List UInt8) (o : Int) (ks : List Int) (r : Int × Dv) : Prop where
  ls : r.2.ls = v.ls
  wt : ∀ j s, r.2.wt j = some s → v.wt j = some s ∨ ∃ x ∈ ks, o + x = j ∧ f x = s
  out : ∀ j, (∀ x ∈ ks, o + x ≠ j) → r.2.wt j = v.wt j
  bad : r.1 ≠ 0 → r.2.d = true
  good : r.1 = 0 → r.2.d = false ∧ ∀ x ∈ ks, r.2.wt (o + x) = some (f x)
theorem puts_is {f : Int → List UInt8} {o : Int} : ∀ (ks : List Int) (v : Dv), v.d = false → PutsIs v f o ks (v.puts f o ks)
  | [], v, hd => ⟨rfl, fun j s h => .inl h, fun _ _ => rfl, fun h => absurd rfl h, fun _ => ⟨hd, fun x hx => by cases hx⟩⟩
  | i :: is, v, hd => by
    rcases write_two v hd (o + i) (f i) with hw | hw
    · have e : v.puts f o (i :: is) = (50, ⟨v.c, 0, true, v.ls, v.wt⟩) := by
        simp only [Dv.puts]
        rw [hw, if_neg (by simp)]
      rw [e]
      exact ⟨rfl, fun j s h => .inl h, fun _ _ => rfl, fun _ => rfl, fun h => absurd h (by simp)⟩
    · have e : v.puts f o (i :: is) = (⟨v.c + 1, burnF v.f, false, v.ls, wrote v.wt (o + i) (f i)⟩ : Dv).puts f o is := by
        simp only [Dv.puts]
        rw [hw, if_pos rfl]
      rw [e]
      have q := puts_is (f := f) (o := o) is (⟨v.c + 1, burnF v.f, false, v.ls, wrote v.wt (o + i) (f i)⟩ : Dv) rfl
      refine ⟨q.ls, fun j s h => ?_, fun j hj => ?_, q.bad, fun h => ⟨(q.good h).1, fun x hx => ?_⟩⟩
      · rcases q.wt j s h with h | ⟨x, hx, h1, h2⟩
        · simp only [wrote] at h
          by_cases e2 : j = o + i
          · rw [if_pos e2] at h
            exact .inr ⟨i, by simp, e2.symm, by simpa using h⟩
          · rw [if_neg e2] at h; exact .inl h
        · exact .inr ⟨x, by simp [hx], h1, h2⟩
      · rw [q.out j (fun x hx => hj x (by simp [hx]))]
        simp only [wrote]
        rw [if_neg (fun e2 => hj i (by simp) e2.symm)]
      · by_cases hxi : x ∈ is
        · exact (q.good h).2 x hxi
        · rcases List.mem_cons.1 hx with rfl | hx
          · rw [q.out (o + x) (fun y hy e2 => hxi (by rw [show x = y by omega]; exact hy))]
            simp [wrote]
          · exact absurd hx hxi
/-! ### What a crash may keep -/
def Kept (n : Nat) (v : Dv) (ls' : Nat → List UInt8) : Prop := ∀ i, i < n → ls' i = v.ls i ∨ v.wt (i : Int) = some (ls' i)
/-- The sectors stand for a state. -/
def RecW (n : Nat) (ls st : Nat → List UInt8) : Prop := ∃ N : Nat, numAt (ls 0) 0 = N ∧ ((N = 0 ∧ ∀ i, i + 300 < n → ls (300 + i) = st i) ∨ (0 < N ∧ ∃ C, LogIs ls n N C ∧ ∀ i : Nat, i + 300 < n → (C (i : Int)).getD (ls (300 + i)) = st i))
def Safe (n : Nat) (v : Dv) (Pr : (Nat → List UInt8) → Prop) : Prop := ∀ ls', Kept n v ls' → ∃ st, Pr st ∧ RecW n ls' st
theorem Safe.mono {n : Nat} {v : Dv} {P P' : (Nat → List UInt8) → Prop} (h : Safe n v P) (hp : ∀ st, P st → P' st) : Safe n v P' := fun ls' hk => by
  obtain ⟨st, h1, h2⟩ := h ls' hk
  exact ⟨st, hp st h1, h2⟩
theorem logNum_congr {ls ls' : Nat → List UInt8} (h : ∀ i, 1 ≤ i → i < 300 → ls' i = ls i) {j : Nat} (hj : j < 256) : logNum ls' j = logNum ls j := by
  unfold logNum
  rw [h _ (by omega) (by omega)]
theorem logTo_congr {ls ls' : Nat → List UInt8} (h : ∀ i, 1 ≤ i → i < 300 → ls' i = ls i) : ∀ k, k ≤ 256 → logTo ls' k = logTo ls k
  | 0, _ => rfl
  | k + 1, hk => by
    simp only [logTo]
    rw [logTo_congr h k (by omega), logNum_congr h (by omega), h _ (by omega) (by omega)]
theorem LogIs.congr {ls ls' : Nat → List UInt8} (h : ∀ i, 1 ≤ i → i < 300 → ls' i = ls i) {n N : Nat} {C : Int → Option (List UInt8)} (hl : LogIs ls n N C) : LogIs ls' n N C := by
  rcases hl with ⟨h1, h2, h3⟩ | ⟨h1, h2⟩
  · exact .inl ⟨h1, fun j hj => by rw [logNum_congr h (by omega)]; exact h2 j hj, by rw [h3, logTo_congr h N h1]⟩
  · by_cases hN : 256 < N
    · exact .inr ⟨.inl hN, h2⟩
    · rcases h1 with h1 | ⟨j, hj, h1⟩
      · exact absurd h1 hN
      · exact .inr ⟨.inr ⟨j, hj, by rw [logNum_congr h (by omega)]; exact h1⟩, h2⟩
/-- Only the log is written: the state is the old one. -/
structure LogPh (n : Nat) (v : Dv) (st : Nat → List UInt8) : Prop where
  wt : ∀ j s, v.wt j = some s → 1 ≤ j ∧ j < 300
  head : numAt (v.ls 0) 0 = 0
  home : ∀ i, i + 300 < n → v.ls (300 + i) = st i
theorem LogPh.safe {n : Nat} {v : Dv} {st : Nat → List UInt8} (h : LogPh n v st) (hn : 300 < n) : Safe n v (fun s => s = st) := fun ls' hk => by
  refine ⟨st, rfl, 0, ?_, .inl ⟨rfl, fun i hi => ?_⟩⟩
  · rcases hk 0 (by omega) with e | e
    · rw [e]; exact h.head
    · have := h.wt _ _ e; omega
  · rcases hk (300 + i) (by omega) with e | e
    · rw [e]; exact h.home i hi
    · have := h.wt _ _ e; omega
/-- The head may be read, and what it stands for: the state is the new one. -/
structure HomePh (n : Nat) (v : Dv) (K : Nat) (C : Int → Option (List UInt8)) (st : Nat → List UInt8) : Prop where
  head : numAt (v.ls 0) 0 = K
  pos : 0 < K
  log : LogIs v.ls n K C
  home : ∀ i : Nat, i + 300 < n → (C (i : Int)).getD (v.ls (300 + i)) = st i
  wt : ∀ j s, v.wt j = some s → 300 ≤ j ∧ C (j - 300) = some s
theorem HomePh.safe {n : Nat} {v : Dv} {K : Nat} {C : Int → Option (List UInt8)} {st : Nat → List UInt8} (h : HomePh n v K C st) (hn : 300 < n) : Safe n v (fun s => s = st) := fun ls' hk => by
  have h0 : ∀ i, i < 300 → ls' i = v.ls i := fun i hi => by
    rcases hk i (by omega) with e | e
    · exact e
    · have := (h.wt _ _ e).1; omega
  refine ⟨st, rfl, K, by rw [h0 0 (by omega)]; exact h.head, .inr ⟨h.pos, C, h.log.congr (fun i _ hi => h0 i hi), fun i hi => ?_⟩⟩
  rcases hk (300 + i) (by omega) with e | e
  · rw [e]; exact h.home i hi
  · have := (h.wt _ _ e).2
    rw [show ((300 + i : Nat) : Int) - 300 = (i : Int) by omega] at this
    rw [this, ← h.home i hi, this]
    rfl
/-- It lives, nothing waits, the head is 0. -/
structure CalmSt (n : Nat) (v : Dv) (st : Nat → List UInt8) : Prop where
  d : v.d = false
  wt : v.wt = fun _ => none
  head : numAt (v.ls 0) 0 = 0
  home : ∀ i, i + 300 < n → v.ls (300 + i) = st i
theorem CalmSt.log {n : Nat} {v : Dv} {st : Nat → List UInt8} (h : CalmSt n v st) : LogPh n v st := ⟨fun j s hj => (by rw [h.wt] at hj; cases hj), h.head, h.home⟩
/-- All that waits and is known to be lasting comes home. -/
theorem home_two {n : Nat} {v : Dv} {K : Nat} {C : Int → Option (List UInt8)} {st : Nat → List UInt8} (h : HomePh n v K C st) (hn : 300 < n) (hd : v.d = false) (hw : v.wt = fun _ => none) {ks : List Int} (hk : KeysOf C ks) (hdom : ∀ i s, C i = some s → 0 ≤ i) :
    ((v.home C ks).1 = 0 → CalmSt n (v.home C ks).2 st) ∧ ((v.home C ks).1 ≠ 0 → (v.home C ks).2.d = true ∧ Safe n (v.home C ks).2 (fun s => s = st)) := by
  have q := puts_is (f := txt C) (o := 300) ks v hd
  obtain ⟨r, hr⟩ : ∃ r, v.puts (txt C) 300 ks = r := ⟨_, rfl⟩
  unfold Dv.home
  rw [hr] at q ⊢
  have hq : HomePh n r.2 K C st := ⟨by rw [q.ls]; exact h.head, h.pos, by rw [q.ls]; exact h.log, fun i hi => by rw [q.ls]; exact h.home i hi, fun j s hj => by
    rcases q.wt j s hj with e | ⟨x, hx, h1, h2⟩
    · rw [hw] at e; cases e
    · obtain ⟨t, ht⟩ := (hk.mem x).1 hx
      have := hdom x t ht
      refine ⟨by omega, ?_⟩
      rw [show j - 300 = x by omega, ht, ← h2]
      simp [txt, ht]⟩
  by_cases h1 : r.1 = 0
  · rw [if_pos h1]
    obtain ⟨hd1, hin⟩ := q.good h1
    rcases flush_two r.2 hd1 with e | e
    · rw [e, if_neg (by simp)]
      exact ⟨fun h => absurd h (by simp), fun _ => ⟨rfl, HomePh.safe ⟨hq.head, hq.pos, hq.log, hq.home, hq.wt⟩ hn⟩⟩
    · rw [e, if_pos rfl]
      obtain ⟨v2, hv2⟩ : ∃ v2 : Dv, v2 = ⟨r.2.c + 1, burnF r.2.f, false, fun i : Nat => (r.2.wt (i : Int)).getD (r.2.ls i), fun _ => none⟩ := ⟨_, rfl⟩
      simp only
      rw [← hv2]
      have hlow : ∀ i, i < 300 → v2.ls i = r.2.ls i := fun i hi => by
        rw [hv2]
        show (r.2.wt (i : Int)).getD (r.2.ls i) = _
        cases hx : r.2.wt (i : Int) with
        | none => rfl
        | some s => have := (hq.wt _ _ hx).1; omega
      have hhome : ∀ i : Nat, i + 300 < n → v2.ls (300 + i) = st i := fun i hi => by
        rw [← hq.home i hi, hv2]
        show (r.2.wt ((300 + i : Nat) : Int)).getD (r.2.ls (300 + i)) = _
        cases hc : C (i : Int) with
        | none =>
          rw [q.out _ (fun x hx e2 => by
            obtain ⟨t, ht⟩ := (hk.mem x).1 hx
            rw [show x = (i : Int) by omega, hc] at ht
            cases ht), hw]
        | some t =>
          have := hin i ((hk.mem i).2 ⟨t, hc⟩)
          rw [show ((300 + i : Nat) : Int) = 300 + (i : Int) by omega, this]
          simp [txt, hc]
      have h2 : HomePh n v2 K C st := ⟨by rw [hlow 0 (by omega)]; exact hq.head, h.pos, hq.log.congr (fun i _ hi => hlow i hi), fun i hi => by
        rw [hhome i hi]
        cases hc : C (i : Int) with
        | none => rfl
        | some t =>
          have := hq.home i hi
          rw [hc] at this
          exact this, fun j s hj => by rw [hv2] at hj; cases hj⟩
      have hd2 : v2.d = false := by rw [hv2]
      have hw2 : v2.wt = fun _ => none := by rw [hv2]
      unfold Dv.head
      rcases write_two v2 hd2 ((0 : Nat) : Int) (asK [0] 1) with e3 | e3
      · rw [e3, if_neg (by simp)]
        exact ⟨fun h => absurd h (by simp), fun _ => ⟨rfl, HomePh.safe ⟨h2.head, h2.pos, h2.log, h2.home, h2.wt⟩ hn⟩⟩
      · rw [e3, if_pos rfl]
        obtain ⟨v3, hv3⟩ : ∃ v3 : Dv, v3 = ⟨v2.c + 1, burnF v2.f, false, v2.ls, wrote v2.wt ((0 : Nat) : Int) (asK [0] 1)⟩ := ⟨_, rfl⟩
        simp only
        rw [← hv3]
        have hd3 : v3.d = false := by rw [hv3]
        have hw3 : ∀ j s, v3.wt j = some s → j = 0 ∧ s = asK [0] 1 := fun j s hj => by
          rw [hv3, hw2] at hj
          simp only [wrote] at hj
          by_cases e4 : j = ((0 : Nat) : Int)
          · rw [if_pos e4] at hj
            cases hj
            exact ⟨e4, rfl⟩
          · rw [if_neg e4] at hj; cases hj
        have hls3 : v3.ls = v2.ls := by rw [hv3]
        have hsafe : Safe n v3 (fun s => s = st) := fun ls' hkp => by
          have hh : ∀ i, 1 ≤ i → i < n → ls' i = v2.ls i := fun i h1 hi => by
            rcases hkp i hi with e | e
            · rw [e, hls3]
            · have := (hw3 _ _ e).1; omega
          rcases hkp 0 (by omega) with e | e
          · refine ⟨st, rfl, K, by rw [e, hls3]; exact h2.head, .inr ⟨h2.pos, C, h2.log.congr (fun i h1 hi => hh i h1 (by omega)), fun i hi => by rw [hh _ (by omega) (by omega)]; exact h2.home i hi⟩⟩
          · have := (hw3 _ _ e).2
            exact ⟨st, rfl, 0, by rw [this]; exact numAt_zero, .inl ⟨rfl, fun i hi => by rw [hh _ (by omega) (by omega)]; exact hhome i hi⟩⟩
        rcases flush_two v3 hd3 with e5 | e5
        · rw [e5]
          exact ⟨fun h => absurd h (by simp), fun _ => ⟨rfl, hsafe⟩⟩
        · rw [e5]
          refine ⟨fun _ => ⟨rfl, rfl, ?_, fun i hi => ?_⟩, fun h => absurd rfl h⟩
          · show numAt ((v3.wt ((0 : Nat) : Int)).getD (v3.ls 0)) 0 = 0
            rw [hv3]
            show numAt ((wrote v2.wt ((0 : Nat) : Int) (asK [0] 1) ((0 : Nat) : Int)).getD (v2.ls 0)) 0 = 0
            unfold wrote
            rw [if_pos rfl]
            exact numAt_zero
          · show (v3.wt ((300 + i : Nat) : Int)).getD (v3.ls (300 + i)) = st i
            cases hx : v3.wt ((300 + i : Nat) : Int) with
            | none => rw [hls3]; exact hhome i hi
            | some s => have := (hw3 _ _ hx).1; omega
  · rw [if_neg h1]
    exact ⟨fun h => absurd h h1, fun _ => ⟨q.bad h1, hq.safe hn⟩⟩
end Go.Proofs.Ytoifpbifipgpkaa
namespace Go.Proofs.Ytoifpbifipgpkaa
open Go.RowKit Go.MapKept
theorem or_bytes {x0 x1 : Nat} (h0 : x0 < 256) (h1 : x1 < 256) : bits .or .i64 (x0 : Int) ((x1 : Int) * 256) = (x0 : Int) + x1 * 256 := by
  have hor : x0 ||| x1 * 256 = x0 + x1 * 256 := by
    have h2 := Nat.shiftLeft_add_eq_or_of_lt (b := x0) (i := 8) (by omega) x1
    rw [Nat.shiftLeft_eq, show x1 * 2 ^ 8 = x1 * 256 from rfl] at h2
    rw [Nat.or_comm, ← h2]
    omega
  have hlt : x0 ||| x1 * 256 < 2 ^ 16 := Nat.or_lt_two_pow (by omega) (by omega)
  unfold bits
  have e1 : (BitVec.ofInt 64 (x0 : Int)).toNat = x0 := by
    rw [BitVec.toNat_ofInt]; omega
  have e2 : (BitVec.ofInt 64 ((x1 : Int) * 256)).toNat = x1 * 256 := by
    rw [BitVec.toNat_ofInt]; omega
  have e3 : (BitVec.ofInt 64 (x0 : Int) ||| BitVec.ofInt 64 ((x1 : Int) * 256)).toNat = x0 ||| x1 * 256 := by
    rw [BitVec.toNat_or, e1, e2]
  show IntKind.i64.wrap ((BitVec.ofInt 64 (x0 : Int) ||| BitVec.ofInt 64 ((x1 : Int) * 256)).toNat : Int) = _
  rw [e3, hor]
  have : ((x0 + x1 * 256 : Nat) : Int) = (x0 : Int) + x1 * 256 := by omega
  rw [this]
  exact IntWalk.i64_in _ (by omega)
theorem numAt_asK (zs : List Int) (L k : Nat) (hk : k < L) (hL : L ≤ 32) (hz : 0 ≤ zs.getD k 0 ∧ zs.getD k 0 ≤ 65535) : numAt (asK zs L) k = zs.getD k 0 := by
  have g : ∀ j, j < 64 → (asK zs L).getD j 0 = if j / 2 < L then (if j % 2 = 0 then byteI (zs.getD (j / 2) 0) else byteI (zs.getD (j / 2) 0 / 256)) else 0 := fun j hj => by
    unfold asK
    simp [List.getD_eq_getElem?_getD, hj]
  unfold numAt
  rw [g (2 * k) (by omega), g (2 * k + 1) (by omega), show 2 * k / 2 = k by omega, show (2 * k + 1) / 2 = k by omega, if_pos hk, if_pos hk, if_pos (by omega), if_neg (by omega)]
  have b0 := byteI_toNat (zs.getD k 0)
  have b1 := byteI_toNat (zs.getD k 0 / 256)
  have u0 := (byteI (zs.getD k 0)).toNat_lt
  have u1 := (byteI (zs.getD k 0 / 256)).toNat_lt
  rw [or_bytes (by omega) (by omega)]
  omega
theorem logTo_keys {ls : Nat → List UInt8} {C : Int → Option (List UInt8)} {ks : List Int} : ∀ k, k ≤ ks.length → (∀ j, j < k → logNum ls j = ks.getD j 0 ∧ ls (9 + j) = txt C (ks.getD j 0)) → logTo ls k = fun i => if i ∈ ks.take k then some (txt C i) else none
  | 0, _, _ => by funext i; simp [logTo]
  | k + 1, hk, h => by
    have ih := logTo_keys k (by omega) (fun j hj => h j (by omega))
    obtain ⟨h1, h2⟩ := h k (by omega)
    funext i
    simp only [logTo]
    rw [ih, h1, h2]
    have e : ks.getD k 0 = ks[k] := by simp [show k < ks.length by omega]
    rw [List.take_succ_eq_append_getElem (by omega), e]
    unfold wrote
    by_cases hi : i = ks[k]
    · rw [if_pos hi, if_pos (by rw [hi]; exact List.mem_append_right _ (by simp)), hi]
    · rw [if_neg hi]
      show (if i ∈ ks.take k then some (txt C i) else none) = _
      by_cases hm : i ∈ ks.take k
      · rw [if_pos hm, if_pos (List.mem_append_left _ hm)]
      · rw [if_neg hm, if_neg (fun h => by
          rcases List.mem_append.1 h with h | h
          · exact hm h
          · exact hi (List.mem_singleton.1 h))]
theorem piece_get (ks : List Int) (j : Nat) (hj : j < ks.length) : (pieceL ks (j / 32)).getD (j % 32) 0 = ks.getD j 0 := by
  unfold pieceL
  simp only [List.getD_eq_getElem?_getD]
  rw [List.getElem?_take_of_lt (by omega), List.getElem?_drop, show 32 * (j / 32) + j % 32 = j by omega]
section
variable {n : Nat} {v : Dv} {st : Nat → List UInt8} {C : Int → Option (List UInt8)} {ks : List Int}
theorem log_two (h : CalmSt n v st) (hn : 300 < n) (hn2 : n ≤ 8192) (hk : KeysOf C ks) (hK : ks.length ≤ 256) (hdom : ∀ i s, C i = some s → 0 ≤ i ∧ i + 300 < n) :
    LogPh n (v.log C ks).2 st ∧ ((v.log C ks).1 ≠ 0 → (v.log C ks).2.d = true) ∧ ((v.log C ks).1 = 0 → (v.log C ks).2.d = false ∧ (v.log C ks).2.wt = (fun _ => none) ∧ LogIs (v.log C ks).2.ls n ks.length C) := by
  have q1 := puts_is (f := fun i => txt C (ks.getD i.toNat 0)) (o := 9) (places ks.length) v h.d
  obtain ⟨r1, hr1⟩ : ∃ r, v.puts (fun i => txt C (ks.getD i.toNat 0)) 9 (places ks.length) = r := ⟨_, rfl⟩
  rw [hr1] at q1
  have p1 : LogPh n r1.2 st := ⟨fun j s hj => by
    rcases q1.wt j s hj with e | ⟨x, hx, h1, _⟩
    · rw [h.wt] at e; cases e
    · obtain ⟨t, ht, rfl⟩ := places_mem hx; omega, by rw [q1.ls]; exact h.head, fun i hi => by rw [q1.ls]; exact h.home i hi⟩
  unfold Dv.log
  rw [hr1]
  by_cases c1 : r1.1 = 0
  · rw [if_pos c1]
    obtain ⟨hd1, hin1⟩ := q1.good c1
    have q2 := puts_is (f := fun i => asK (pieceL ks i.toNat) (pieceL ks i.toNat).length) (o := 1) (places ((ks.length + 31) / 32)) r1.2 hd1
    obtain ⟨r2, hr2⟩ : ∃ r, r1.2.puts (fun i => asK (pieceL ks i.toNat) (pieceL ks i.toNat).length) 1 (places ((ks.length + 31) / 32)) = r := ⟨_, rfl⟩
    rw [hr2] at q2 ⊢
    have p2 : LogPh n r2.2 st := ⟨fun j s hj => by
      rcases q2.wt j s hj with e | ⟨x, hx, h1, _⟩
      · exact p1.wt j s e
      · obtain ⟨t, ht, rfl⟩ := places_mem hx; omega, by rw [q2.ls]; exact p1.head, fun i hi => by rw [q2.ls]; exact p1.home i hi⟩
    by_cases c2 : r2.1 = 0
    · rw [if_pos c2]
      obtain ⟨hd2, hin2⟩ := q2.good c2
      rcases flush_two r2.2 hd2 with e | e
      · rw [e]
        exact ⟨⟨p2.wt, p2.head, p2.home⟩, fun _ => rfl, fun h => absurd h (by simp)⟩
      · rw [e]
        have hkeep : ∀ i : Nat, (i = 0 ∨ 300 ≤ i) → (r2.2.wt (i : Int)).getD (r2.2.ls i) = r2.2.ls i := fun i hi => by
          cases hx : r2.2.wt (i : Int) with
          | none => rfl
          | some s => have := p2.wt _ _ hx; omega
        refine ⟨⟨fun j s hj => (by cases hj), ?_, fun i hi => ?_⟩, fun h => absurd rfl h, fun _ => ⟨rfl, rfl, ?_⟩⟩
        · show numAt ((r2.2.wt ((0 : Nat) : Int)).getD (r2.2.ls 0)) 0 = 0
          rw [hkeep 0 (by omega)]; exact p2.head
        · show (r2.2.wt ((300 + i : Nat) : Int)).getD (r2.2.ls (300 + i)) = st i
          rw [hkeep _ (by omega)]; exact p2.home i hi
        · obtain ⟨LS, hLS⟩ : ∃ LS : Nat → List UInt8, (fun i : Nat => (r2.2.wt (i : Int)).getD (r2.2.ls i)) = LS := ⟨_, rfl⟩
          show LogIs (fun i : Nat => (r2.2.wt (i : Int)).getD (r2.2.ls i)) n ks.length C
          rw [hLS]
          have h9 : ∀ j, j < ks.length → LS (9 + j) = txt C (ks.getD j 0) := fun j hj => by
            rw [← hLS]
            show (r2.2.wt ((9 + j : Nat) : Int)).getD (r2.2.ls (9 + j)) = _
            rw [q2.out _ (fun x hx e => by obtain ⟨t, ht, rfl⟩ := places_mem hx; omega)]
            have := hin1 (j : Int) (by unfold places; exact List.mem_map.2 ⟨j, List.mem_range.2 hj, rfl⟩)
            rw [show ((9 + j : Nat) : Int) = 9 + (j : Int) by omega, this]
            simp
          have hkr : ∀ j, j < ks.length → 0 ≤ ks.getD j 0 ∧ ks.getD j 0 + 300 < n := fun j hj => by
            have hm : ks.getD j 0 ∈ ks := by
              have e : ks.getD j 0 = ks[j] := by simp [hj]
              rw [e]; exact List.getElem_mem _
            obtain ⟨s, hs⟩ := (hk.mem _).1 hm
            exact hdom _ _ hs
          have hnum : ∀ j, j < ks.length → logNum LS j = ks.getD j 0 := fun j hj => by
            unfold logNum
            have h1 : LS (1 + j / 32) = asK (pieceL ks (j / 32)) (pieceL ks (j / 32)).length := by
              rw [← hLS]
              show (r2.2.wt ((1 + j / 32 : Nat) : Int)).getD (r2.2.ls (1 + j / 32)) = _
              have := hin2 ((j / 32 : Nat) : Int) (by unfold places; exact List.mem_map.2 ⟨j / 32, List.mem_range.2 (by omega), rfl⟩)
              rw [show ((1 + j / 32 : Nat) : Int) = 1 + ((j / 32 : Nat) : Int) by omega, this]
              simp only [Option.getD_some, Int.toNat_natCast]
            have hpl := pieceL_len ks (j / 32)
            have hr := hkr j hj
            rw [h1, numAt_asK _ _ _ (by omega) (by omega) (by rw [piece_get ks j hj]; omega), piece_get ks j hj]
          refine .inl ⟨hK, fun j hj => by rw [hnum j hj]; exact (hkr j hj).2, ?_⟩
          rw [logTo_keys ks.length (Nat.le_refl _) (fun j hj => ⟨hnum j hj, h9 j hj⟩), List.take_length]
          funext i
          cases hc : C i with
          | none => rw [if_neg (fun hm => by obtain ⟨s, hs⟩ := (hk.mem i).1 hm; rw [hc] at hs; cases hs)]
          | some t => rw [if_pos ((hk.mem i).2 ⟨t, hc⟩)]; simp [txt, hc]
    · rw [if_neg c2]
      exact ⟨p2, q2.bad, fun h => absurd h c2⟩
  · rw [if_neg c1]
    exact ⟨p1, q1.bad, fun h => absurd h c1⟩
/-- The state behind a change. -/
def overS (C : Int → Option (List UInt8)) (st : Nat → List UInt8) : Nat → List UInt8 := fun i => (C (i : Int)).getD (st i)
theorem settle_two (h : CalmSt n v st) (hn : 300 < n) (hn2 : n ≤ 8192) (hk : KeysOf C ks) (hK : ks.length ≤ 256) (hK0 : 0 < ks.length) (hdom : ∀ i s, C i = some s → 0 ≤ i ∧ i + 300 < n) (all last : Int) :
    ((v.settle C ks all last).1 = 0 → CalmSt n (v.settle C ks all last).2.1 (overS C st) ∧ (v.settle C ks all last).2.2 = all) ∧
    ((v.settle C ks all last).1 ≠ 0 → (v.settle C ks all last).2.1.d = true ∧ Safe n (v.settle C ks all last).2.1 (fun s => s = st ∨ s = overS C st)) := by
  obtain ⟨l1, l2, l3⟩ := log_two h hn hn2 hk hK hdom
  unfold Dv.settle
  obtain ⟨r, hr⟩ : ∃ r, v.log C ks = r := ⟨_, rfl⟩
  rw [hr] at l1 l2 l3 ⊢
  by_cases c1 : r.1 = 0
  · rw [if_pos c1]
    obtain ⟨hd, hw, hlog⟩ := l3 c1
    have hnum : numAt (asK [(ks.length : Int)] 1) 0 = ks.length := by
      have := numAt_asK [(ks.length : Int)] 1 0 (by omega) (by omega) (by simp; omega)
      simpa using this
    -- the head
    rcases write_two r.2 hd ((0 : Nat) : Int) (asK [(ks.length : Int)] 1) with e | e
    · have eh : r.2.head ks.length = (50, ⟨r.2.c, 0, true, r.2.ls, r.2.wt⟩) := by
        unfold Dv.head
        rw [e, if_neg (by simp)]
      rw [eh, if_neg (by simp)]
      exact ⟨fun h => absurd h (by simp), fun _ => ⟨rfl, (LogPh.safe ⟨l1.wt, l1.head, l1.home⟩ hn).mono (fun s hs => .inl hs)⟩⟩
    · obtain ⟨v3, hv3⟩ : ∃ v3 : Dv, v3 = ⟨r.2.c + 1, burnF r.2.f, false, r.2.ls, wrote r.2.wt ((0 : Nat) : Int) (asK [(ks.length : Int)] 1)⟩ := ⟨_, rfl⟩
      have eh : r.2.head ks.length = v3.flush := by
        unfold Dv.head
        rw [e, if_pos rfl, hv3]
      have hd3 : v3.d = false := by rw [hv3]
      have hls3 : v3.ls = r.2.ls := by rw [hv3]
      have hw3 : ∀ j s, v3.wt j = some s → j = 0 ∧ s = asK [(ks.length : Int)] 1 := fun j s hj => by
        rw [hv3, hw] at hj
        simp only [wrote] at hj
        by_cases e4 : j = ((0 : Nat) : Int)
        · rw [if_pos e4] at hj
          cases hj
          exact ⟨e4, rfl⟩
        · rw [if_neg e4] at hj; cases hj
      have hsafe : Safe n v3 (fun s => s = st ∨ s = overS C st) := fun ls' hkp => by
        have hh : ∀ i, 1 ≤ i → i < n → ls' i = r.2.ls i := fun i h1 hi => by
          rcases hkp i hi with e | e
          · rw [e, hls3]
          · have := (hw3 _ _ e).1; omega
        rcases hkp 0 (by omega) with e | e
        · exact ⟨st, .inl rfl, 0, by rw [e, hls3]; exact l1.head, .inl ⟨rfl, fun i hi => by rw [hh _ (by omega) (by omega)]; exact l1.home i hi⟩⟩
        · have e0 := (hw3 _ _ e).2
          exact ⟨overS C st, .inr rfl, ks.length, by rw [e0]; exact hnum, .inr ⟨hK0, C, hlog.congr (fun i h1 hi => hh i h1 (by omega)), fun i hi => by rw [hh _ (by omega) (by omega), l1.home i hi]; rfl⟩⟩
      rw [eh]
      rcases flush_two v3 hd3 with e5 | e5
      · rw [e5, if_neg (by simp)]
        exact ⟨fun h => absurd h (by simp), fun _ => ⟨rfl, hsafe⟩⟩
      · rw [e5, if_pos rfl]
        obtain ⟨v4, hv4⟩ : ∃ v4 : Dv, v4 = ⟨v3.c + 1, burnF v3.f, false, fun i : Nat => (v3.wt (i : Int)).getD (v3.ls i), fun _ => none⟩ := ⟨_, rfl⟩
        simp only
        rw [← hv4]
        have hh4 : ∀ i, 1 ≤ i → v4.ls i = r.2.ls i := fun i h1 => by
          rw [hv4]
          show (v3.wt (i : Int)).getD (v3.ls i) = _
          cases hx : v3.wt (i : Int) with
          | none => rw [hls3]; rfl
          | some s => have := (hw3 _ _ hx).1; omega
        have hp : HomePh n v4 ks.length C (overS C st) := ⟨by
          rw [hv4]
          show numAt ((v3.wt ((0 : Nat) : Int)).getD (v3.ls 0)) 0 = _
          rw [hv3]
          show numAt ((wrote r.2.wt ((0 : Nat) : Int) (asK [(ks.length : Int)] 1) ((0 : Nat) : Int)).getD (r.2.ls 0)) 0 = _
          unfold wrote
          rw [if_pos rfl]
          exact hnum, hK0, hlog.congr (fun i h1 _ => hh4 i h1), fun i hi => by rw [hh4 _ (by omega), l1.home i hi]; rfl, fun j s hj => (by rw [hv4] at hj; cases hj)⟩
        obtain ⟨g1, g2⟩ := home_two hp hn (by rw [hv4]) (by rw [hv4]) hk (fun i s hi => (hdom i s hi).1)
        exact ⟨fun h => ⟨g1 h, by first | rfl | trivial⟩, fun h => ⟨(g2 h).1, (g2 h).2.mono (fun s hs => .inr hs)⟩⟩
  · rw [if_neg c1]
    exact ⟨fun h => absurd h c1, fun _ => ⟨l2 c1, (l1.safe hn).mono (fun s hs => .inl hs)⟩⟩
/-- Sectors that stand for a state, brought home. -/
theorem fin_two {ls : Nat → List UInt8} {f : Int} {code : Int} {v' : Dv} (hr : RecW n ls st) (hn : 300 < n) (hf : FinIs n f ls code v') :
    (code = 0 → CalmSt n v' st) ∧ (code ≠ 0 → v'.d = true ∧ Safe n v' (fun s => s = st)) := by
  obtain ⟨M, hM, hr⟩ := hr
  obtain ⟨c', ⟨h0, rfl, rfl⟩ | ⟨N, C', ks', hN, hpos, hlog, hdom, hk', hcode, hv'⟩⟩ := hf
  · rcases hr with ⟨_, hh⟩ | ⟨hp, _⟩
    · exact ⟨fun _ => ⟨rfl, rfl, h0, hh⟩, fun h => absurd rfl h⟩
    · omega
  · obtain rfl : M = N := by omega
    rcases hr with ⟨h1, _⟩ | ⟨_, C2, hlog2, hst⟩
    · omega
    · have hCC : C2 = C' := by
        rcases hlog with ⟨a1, a2, a3⟩ | ⟨a1, a2⟩
        · rcases hlog2 with ⟨b1, b2, b3⟩ | ⟨b1, b2⟩
          · rw [a3, b3]
          · rcases b1 with b1 | ⟨j, hj, b1⟩
            · omega
            · have := a2 j hj; omega
        · rcases hlog2 with ⟨b1, b2, b3⟩ | ⟨b1, b2⟩
          · rcases a1 with a1 | ⟨j, hj, a1⟩
            · omega
            · have := b2 j hj; omega
          · rw [a2, b2]
      subst hCC
      have hp : HomePh n (⟨c', f, false, ls, fun _ => none⟩ : Dv) M C2 st := ⟨hM, hpos, hlog2, hst, fun j s hj => by cases hj⟩
      have := home_two hp hn rfl rfl hk' (fun i s hi => (hdom i s hi).1)
      rw [hcode, hv']
      exact this
end
end Go.Proofs.Ytoifpbifipgpkaa
namespace Go.Proofs.Ytoifpbifipgpkaa
open Go.RowKit Go.MapKept
/-- The state of a list of kinds. -/
def stK (F : Nat → Nat) : Nat → List UInt8 := fun i => if i < 16 then kindN (F i) else zeros
/-- A store that lives: states 0 to cnt have been. -/
structure LiveSt (S : Sv) (σ : Nat → Nat → Nat) (cnt least : Nat) (now : Nat → Nat) : Prop where
  gone : S.gone = false
  all : S.all = cnt
  home : ∃ j, j ≤ cnt ∧ least ≤ j ∧ S.last ≤ j ∧ CalmSt 340 S.v (stK (σ j)) ∧ ∀ i : Nat, i < 40 → (overL S.Cs (i : Int)).getD (stK (σ j) i) = stK (σ cnt) i
  last : 0 ≤ S.last
  und : ∀ i : Nat, i < 40 → (S.U (i : Int)).getD (stK (σ cnt) i) = stK now i
  dom : ∀ i, (S.U i).isSome = true → 0 ≤ i ∧ i < 16
  ne : S.Cs ≠ [] → ∃ i s, overL S.Cs i = some s
/-- What a dead device may stand for. -/
def DeadOk (v : Dv) (σ : Nat → Nat → Nat) (cnt least : Nat) : Prop := Safe 340 v (fun s => ∃ j, least ≤ j ∧ j ≤ cnt ∧ ∀ i, i < 40 → s i = stK (σ j) i)
theorem CalmSt.congr {v : Dv} {a b : Nat → List UInt8} (h : CalmSt 340 v a) (he : ∀ i, i < 40 → a i = b i) : CalmSt 340 v b := ⟨h.d, h.wt, h.head, fun i hi => (h.home i hi).trans (he i (by omega))⟩
theorem LiveSt.ok {S : Sv} {σ : Nat → Nat → Nat} {cnt least : Nat} {now : Nat → Nat} (h : LiveSt S σ cnt least now) : DeadOk S.v σ cnt least := by
  obtain ⟨j, h1, h2, _, h4, _⟩ := h.home
  exact (h4.log.safe (by omega)).mono (fun s hs => ⟨j, h2, h1, fun i _ => by rw [hs]⟩)
theorem LiveSt.least {S : Sv} {σ : Nat → Nat → Nat} {cnt least : Nat} {now : Nat → Nat} (h : LiveSt S σ cnt least now) : LiveSt S σ cnt (max least S.last.toNat) now := by
  obtain ⟨j, h1, h2, h3, h4, h5⟩ := h.home
  exact ⟨h.gone, h.all, ⟨j, h1, by omega, h3, h4, h5⟩, h.last, h.und, h.dom, h.ne⟩
theorem LiveSt.write {S : Sv} {σ : Nat → Nat → Nat} {cnt least : Nat} {now : Nat → Nat} (h : LiveSt S σ cnt least now) (i : Nat) (hi : i < 16) (k : Nat) : LiveSt (S.putW i (kindN k)) σ cnt least (fun q => if q = i then k else now q) := by
  refine ⟨h.gone, h.all, h.home, h.last, fun q hq => ?_, fun q hq => ?_, h.ne⟩
  · simp only [Sv.putW, wrote]
    by_cases e : q = i
    · subst e
      rw [if_pos rfl]
      unfold stK
      rw [if_pos hi, if_pos hi]
      simp
    · rw [if_neg (by omega), h.und q hq]
      unfold stK
      by_cases e2 : q < 16
      · rw [if_pos e2, if_pos e2]; simp [e]
      · rw [if_neg e2, if_neg e2]
  · simp only [Sv.putW, wrote] at hq
    split at hq
    · omega
    · exact h.dom q hq
theorem LiveSt.abort {S : Sv} {σ : Nat → Nat → Nat} {cnt least : Nat} {now : Nat → Nat} (h : LiveSt S σ cnt least now) : LiveSt { S with U := fun _ => none, k := 0 } σ cnt least (σ cnt) :=
  ⟨h.gone, h.all, h.home, h.last, fun _ _ => rfl, fun i hi => (by cases hi), h.ne⟩
/-- One more state. -/
def addσ (σ : Nat → Nat → Nat) (cnt : Nat) (now : Nat → Nat) : Nat → Nat → Nat := fun j => if j ≤ cnt then σ j else now
theorem addσ_old {σ : Nat → Nat → Nat} {cnt : Nat} {now : Nat → Nat} {j : Nat} (h : j ≤ cnt) : addσ σ cnt now j = σ j := by unfold addσ; rw [if_pos h]
theorem addσ_new {σ : Nat → Nat → Nat} {cnt : Nat} {now : Nat → Nat} : addσ σ cnt now (cnt + 1) = now := by unfold addσ; rw [if_neg (by omega)]
theorem LiveSt.push {S : Sv} {σ : Nat → Nat → Nat} {cnt least : Nat} {now : Nat → Nat} (h : LiveSt S σ cnt least now) (hc : Card S.U S.k) : LiveSt S.push (addσ σ cnt now) (cnt + 1) least now := by
  obtain ⟨j, h1, h2, h3, h4, h5⟩ := h.home
  unfold Sv.push
  by_cases hk : 0 < S.k
  · rw [if_pos hk]
    refine ⟨h.gone, by show S.all + 1 = _; rw [h.all]; omega, ⟨j, by omega, h2, h3, by rw [addσ_old h1]; exact h4, fun i hi => ?_⟩, h.last, fun i hi => by rw [addσ_new]; rfl, fun i hi => (by cases hi), fun _ => ?_⟩
    · rw [addσ_old h1, addσ_new, overL_snoc]
      unfold over
      have hu := h.und i hi
      cases hx : S.U (i : Int) with
      | none => rw [hx] at hu; rw [← hu, ← h5 i hi]; rfl
      | some t => rw [hx] at hu; rw [← hu]; rfl
    · obtain ⟨ks, hn, hm, hl⟩ := hc
      cases ks with
      | nil => simp at hl; omega
      | cons x xs =>
        obtain ⟨t, ht⟩ := (hm x).1 (by simp)
        refine ⟨x, t, ?_⟩
        rw [overL_snoc]
        unfold over
        rw [ht]
        rfl
  · rw [if_neg hk]
    have hk0 : S.k = 0 := by omega
    rw [hk0] at hc
    have hU := Card.zero hc
    have hnow : ∀ i : Nat, i < 40 → stK (σ cnt) i = stK now i := fun i hi => by
      have := h.und i hi
      rw [hU] at this
      exact this
    by_cases hcs : S.Cs = []
    · refine ⟨h.gone, by show S.all + 1 = _; rw [h.all]; omega, ⟨cnt + 1, by omega, by omega, ?_, ?_, fun i hi => ?_⟩, ?_, fun i hi => by rw [addσ_new]; show (S.U (i : Int)).getD _ = _; rw [hU]; rfl, fun i hi => h.dom i hi, fun hne => absurd hcs hne⟩
      · show (if S.Cs.length = 0 then S.all + 1 else S.last) ≤ _
        rw [if_pos (by rw [hcs]; rfl), h.all]; omega
      · rw [addσ_new]
        refine h4.congr (fun i hi => ?_)
        rw [← hnow i hi, ← h5 i hi, hcs]
        rfl
      · show (overL S.Cs (i : Int)).getD _ = _
        rw [hcs]
        rfl
      · show 0 ≤ (if S.Cs.length = 0 then S.all + 1 else S.last)
        rw [if_pos (by rw [hcs]; rfl), h.all]; omega
    · have hlen : ¬ S.Cs.length = 0 := fun e => hcs (List.eq_nil_of_length_eq_zero e)
      refine ⟨h.gone, by show S.all + 1 = _; rw [h.all]; omega, ⟨j, by omega, h2, ?_, by rw [addσ_old h1]; exact h4, fun i hi => ?_⟩, ?_, fun i hi => by rw [addσ_new]; show (S.U (i : Int)).getD _ = _; rw [hU]; rfl, fun i hi => h.dom i hi, h.ne⟩
      · show (if S.Cs.length = 0 then S.all + 1 else S.last) ≤ _
        rw [if_neg hlen]; exact h3
      · show (overL S.Cs (i : Int)).getD _ = _
        rw [addσ_old h1, addσ_new, h5 i hi, hnow i hi]
      · show 0 ≤ (if S.Cs.length = 0 then S.all + 1 else S.last)
        rw [if_neg hlen]; exact h.last
/-- What waits is settled, whatever comes of it. -/
theorem LiveSt.settle {S : Sv} {σ : Nat → Nat → Nat} {cnt least : Nat} {now : Nat → Nat} (h : LiveSt S σ cnt least now) (hne : S.Cs ≠ []) {kk : List Int} (hk : KeysOf (overL S.Cs) kk) (hK : kk.length ≤ 256) (hdom : ∀ i s, overL S.Cs i = some s → 0 ≤ i ∧ i + 300 < 340) :
    ((S.settled kk).1 = 0 → LiveSt (S.settled kk).2 σ cnt cnt now ∧ (S.settled kk).2.Cs = [] ∧ (S.settled kk).2.U = S.U ∧ (S.settled kk).2.k = S.k) ∧ ((S.settled kk).1 ≠ 0 → (S.settled kk).2.v.d = true ∧ DeadOk (S.settled kk).2.v σ cnt least) := by
  obtain ⟨j, h1, h2, h3, h4, h5⟩ := h.home
  have hK0 : 0 < kk.length := by
    obtain ⟨i, s, hs⟩ := h.ne hne
    have := (hk.mem i).2 ⟨s, hs⟩
    exact List.length_pos_of_mem this
  obtain ⟨g1, g2⟩ := settle_two h4 (by omega) (by omega) hk hK hK0 (fun i s hi => by have := hdom i s hi; omega) S.all S.last
  unfold Sv.settled
  by_cases hc : (S.v.settle (overL S.Cs) kk S.all S.last).1 = 0
  · rw [if_pos hc]
    obtain ⟨q1, q2⟩ := g1 hc
    refine ⟨fun _ => ⟨⟨h.gone, h.all, ⟨cnt, Nat.le_refl _, Nat.le_refl _, ?_, q1.congr (fun i hi => h5 i hi), fun i hi => rfl⟩, ?_, h.und, h.dom, fun e => absurd rfl e⟩, rfl, rfl, rfl⟩, fun e => absurd hc e⟩
    · show (S.v.settle (overL S.Cs) kk S.all S.last).2.2 ≤ _
      rw [q2, h.all]; omega
    · show 0 ≤ (S.v.settle (overL S.Cs) kk S.all S.last).2.2
      rw [q2, h.all]; omega
  · rw [if_neg hc]
    obtain ⟨q1, q2⟩ := g2 hc
    refine ⟨fun e => absurd e hc, fun _ => ⟨q1, q2.mono (fun s hs => ?_)⟩⟩
    rcases hs with rfl | rfl
    · exact ⟨j, h2, h1, fun i _ => rfl⟩
    · exact ⟨cnt, by omega, Nat.le_refl _, fun i hi => h5 i hi⟩
/-- Nothing waits: all is lasting. -/
theorem LiveSt.none {S : Sv} {σ : Nat → Nat → Nat} {cnt least : Nat} {now : Nat → Nat} (h : LiveSt S σ cnt least now) (hcs : S.Cs = []) : LiveSt S σ cnt cnt now := by
  obtain ⟨j, h1, h2, h3, h4, h5⟩ := h.home
  have he : ∀ i, i < 40 → stK (σ j) i = stK (σ cnt) i := fun i hi => by
    rw [← h5 i hi, hcs]
    rfl
  exact ⟨h.gone, h.all, ⟨cnt, Nat.le_refl _, Nat.le_refl _, by omega, h4.congr he, fun i hi => by rw [hcs]; rfl⟩, h.last, h.und, h.dom, h.ne⟩
theorem DeadOk.more {v : Dv} {σ : Nat → Nat → Nat} {cnt least : Nat} {now : Nat → Nat} (h : DeadOk v σ cnt least) : DeadOk v (addσ σ cnt now) (cnt + 1) least :=
  h.mono (fun s ⟨j, h1, h2, h3⟩ => ⟨j, h1, by omega, fun i hi => by rw [addσ_old h2]; exact h3 i hi⟩)
end Go.Proofs.Ytoifpbifipgpkaa
namespace Go.Proofs.Ytoifpbifipgpkaa
open Go.RowKit Go.MapKept
/-- G: what else there is. -/
structure LfAt (w : World) (G : List (Nat × Obj)) (p s : Nat) (B : Nat) (σ : Nat → Nat → Nat) (cnt least : Nat) (now : Nat → Nat) (dead : Bool) (wr : World) : Prop where
  ex : ∃ (bs : List Nat) (l m : Nat) (S : Sv) (b : Int), StAt wr bs s p l m 340 340 b S ∧ (dead = false → LiveSt S σ cnt least now) ∧ (dead = true → S.v.d = true ∧ DeadOk S.v σ cnt least) ∧ (∀ x ∈ bs, w.heap.size ≤ x ∧ x < wr.heap.size) ∧ (∀ y ∈ G, y.1 ∉ bs) ∧ b ≤ B
  keep : ∀ y ∈ G, wr.heap[y.1]? = some y.2
  fr : Fr [] w wr
section
variable {w wr : World} {G : List (Nat × Obj)} {p s : Nat} {B : Nat} {σ : Nat → Nat → Nat} {cnt least : Nat} {now : Nat → Nat} {dead : Bool}
theorem LfAt.more (hA : LfAt w G p s B σ cnt least now dead wr) {B' : Nat} (hB : B ≤ B') : LfAt w G p s B' σ cnt least now dead wr := by
  obtain ⟨bs, l, m, S, b, h1, h2, h3, h4, h5, h6⟩ := hA.ex
  exact ⟨⟨bs, l, m, S, b, h1, h2, h3, h4, h5, by omega⟩, hA.keep, hA.fr⟩
theorem LfAt.regard {W : World} (hA : LfAt w G p s B σ cnt least now dead wr) {r : List Nat} (hfr : Fr r wr W) (hr : ∀ x ∈ r, wr.heap.size ≤ x ∨ ∃ y ∈ G, y.1 = x ∧ w.heap.size ≤ x) (G' : List (Nat × Obj)) (hG' : ∀ y ∈ G', W.heap[y.1]? = some y.2 ∧ (wr.heap.size ≤ y.1 ∨ ∃ z ∈ G, z.1 = y.1)) :
    LfAt w G' p s B σ cnt least now dead W := by
  obtain ⟨bs, l, m, S, b, hst, hl, hd, hbs, hG, hb⟩ := hA.ex
  have hsz := hA.fr.size
  have hnb : ∀ x ∈ r, x ∉ bs := fun x hx hxb => by
    rcases hr x hx with h1 | ⟨y, hy, rfl, _⟩
    · have := (hbs x hxb).2; omega
    · exact hG y hy hxb
  refine ⟨⟨bs, l, m, S, b, hst.keep hfr hnb, hl, hd, fun y hy => ⟨(hbs y hy).1, Nat.lt_of_lt_of_le (hbs y hy).2 hfr.size⟩, fun y hy => ?_, hb⟩, fun y hy => (hG' y hy).1, hA.fr.trans_new hfr (fun x hx => ?_)⟩
  · rcases (hG' y hy).2 with h1 | ⟨z, hz, e⟩
    · exact fun hx => by have := (hbs _ hx).2; omega
    · rw [← e]; exact hG z hz
  · rcases hr x hx with h1 | ⟨y, hy, _, h2⟩
    · exact .inr (by omega)
    · exact .inr h2
/-- A call that keeps the blocks. -/
theorem lf_same {w' : World} {bs : List Nat} {l m : Nat} {b b' : Int} {S' : Sv} {σ' : Nat → Nat → Nat} {cnt' least' : Nat} {now' : Nat → Nat} {dead' : Bool} {B' : Nat} (hA : LfAt w G p s B σ cnt least now dead wr) (hbs : ∀ x ∈ bs, w.heap.size ≤ x ∧ x < wr.heap.size) (hG : ∀ y ∈ G, y.1 ∉ bs) (hfr : Fr bs wr w')
    {bs' : List Nat} (hgr : Grew wr bs bs') (hst : StAt w' bs' s p l m 340 340 b' S') (hl : dead' = false → LiveSt S' σ' cnt' least' now') (hd : dead' = true → S'.v.d = true ∧ DeadOk S'.v σ' cnt' least') (hb : b' ≤ B') : LfAt w G p s B' σ' cnt' least' now' dead' w' := by
  obtain ⟨bs2, htr, hst2⟩ := hst.trim
  have hsz := hA.fr.size
  refine ⟨⟨bs2, l, m, S', b', hst2, hl, hd, fun y hy => ⟨?_, (htr y hy).2⟩, fun y hy hx => ?_, hb⟩, fun y hy => hfr.keep (hA.keep y hy) (hG y hy), hA.fr.trans_new hfr (fun y hy => .inr (hbs y hy).1)⟩
  · rcases hgr y (htr y hy).1 with h1 | h1
    · exact (hbs y h1).1
    · omega
  · have hlt2 := lt_of_heap (hA.keep y hy)
    rcases hgr y.1 (htr y.1 hx).1 with h1 | h1
    · exact hG y hy h1
    · omega
theorem lf_write (hA : LfAt w G p s B σ cnt least now false wr) (i : Nat) (hi : i < 16) (g cap : Nat) (o : Obj) (hg : (g, o) ∈ G) (kd : Nat) (hr : wr.rangeAt g 0 (cel (kindN kd))) :
    Calls Try.prog 13 #[.pointer (some ⟨s, 0, none⟩), .int .i64 i, .slice (some ⟨g, 0, none⟩) 64 cap] wr fun e w' => e = .returned (.int .i64 0) ∧ LfAt w G p s B σ cnt least (fun j => if j = i then kd else now j) false w' := by
  obtain ⟨bs, l, m, S, b, hst, hl, hd, hbs, hG, hb⟩ := hA.ex
  have hL := hl rfl
  obtain ⟨j, _, _, _, hc, _⟩ := hL.home
  have hk : S.k < 128 := by have := hst.card.withinW 16 hL.dom; omega
  refine (st_write hst hL.gone hc.d i (by omega) g 0 cap (kindN kd) (kindN_length kd) hr (hG _ hg) (.inr hk)).mono ?_
  rintro e w' ⟨rfl, hfr, hst'⟩
  exact ⟨rfl, lf_same (b := b) hA hbs hG hfr (fun x hx => .inl hx) hst' (fun _ => hL.write i hi kd) (fun h => (by cases h)) hb⟩
theorem lf_abort (hA : LfAt w G p s B σ cnt least now false wr) :
    Calls Try.prog 25 #[.pointer (some ⟨s, 0, none⟩)] wr fun e w' => e = .returned (.tuple #[]) ∧ LfAt w G p s B σ cnt least (σ cnt) false w' := by
  obtain ⟨bs, l, m, S, b, hst, hl, hd, hbs, hG, hb⟩ := hA.ex
  refine (st_abort hst).mono ?_
  rintro e w' ⟨bs', rfl, hfr, hgr, hst'⟩
  exact ⟨rfl, lf_same (b := b) hA hbs hG hfr hgr hst' (fun _ => (hl rfl).abort) (fun h => (by cases h)) hb⟩
theorem lf_commits (hA : LfAt w G p s B σ cnt least now dead wr) :
    Calls Try.prog 17 #[.pointer (some ⟨s, 0, none⟩)] wr fun e w' => ∃ all last : Int, e = .returned (.tuple #[.int .i64 all, .int .i64 last]) ∧ (dead = false → 0 ≤ last ∧ last ≤ cnt ∧ LfAt w G p s B σ cnt (max least last.toNat) now false w') ∧ LfAt w G p s B σ cnt least now dead w' := by
  obtain ⟨bs, l, m, S, b, hst, hl, hd, hbs, hG, hb⟩ := hA.ex
  refine (st_commits hst).mono ?_
  rintro e w' ⟨rfl, hfr⟩
  have hst' := hst.keep hfr (by simp)
  have hfb : Fr bs wr w' := hfr.mono (by simp)
  refine ⟨_, _, rfl, fun h => ?_, lf_same (b := b) hA hbs hG hfb (fun x hx => .inl hx) hst' hl hd hb⟩
  have hL := hl h
  obtain ⟨j, h1, h2, h3, _⟩ := hL.home
  exact ⟨hL.last, by omega, lf_same (b := b) hA hbs hG hfb (fun x hx => .inl hx) hst' (fun _ => hL.least) (fun h => (by cases h)) hb⟩
theorem lf_dead (hA : LfAt w G p s B σ cnt least now dead wr) :
    Calls Try.prog 23 #[.pointer (some ⟨p, 0, none⟩)] wr fun e w' => e = .returned (.bool dead) ∧ wr = w' := by
  obtain ⟨bs, l, m, S, b, hst, hl, hd, hbs, hG, hb⟩ := hA.ex
  have e : S.v.d = dead := by
    cases dead with
    | false => obtain ⟨j, _, _, _, hc, _⟩ := (hl rfl).home; exact hc.d
    | true => exact (hd rfl).1
  have := dead_calls wr p l m 340 340 S.v.c S.v.f S.v.d S.v.ls S.v.wt hst.dev.at_
  rw [e] at this
  exact this
theorem Lies.devW {w w' : World} {bs : List Nat} {s p l m n : Nat} {S : Sv} {u : Nat} {wv : Value} {ms : List Nat} {B : Nat} (hl : Lies w bs s p l m n S u wv ms B) (hsp : s ≠ p) (hf : Fr [p] w w') {S' : Sv} (h1 : S'.all = S.all) (h2 : S'.last = S.last) (h3 : S'.gone = S.gone) (hU : S'.U = S.U) (hC : S'.Cs = S.Cs) : Lies w' bs s p l m n S' u wv ms B :=
  ⟨by rw [h1, h2, h3]; exact hf.keep hl.box (by simpa using hsp), by rw [hU]; exact hl.und.keep hf (by simpa using hl.usep.2.1), own_keepF hl.own hf (fun g hg => by simpa using (hl.row hg).2.1), by have := hl.top; have := hf.size; omega, by rw [hC]; exact hl.len,
    fun j hj => by rw [hC]; exact (hl.wts j hj).keep hf (by simpa using (hl.msep _ (getD_mem hj)).2.1), hl.usep, hl.msep, hl.bs4, hl.bsm, hl.bsr⟩
theorem st_fuseW {w : World} {bs : List Nat} {s p l m n q : Nat} {b : Int} {S : Sv} (h : StAt w bs s p l m n q b S) (k : Int) (hk : -9223372036854775808 ≤ k ∧ k ≤ 9223372036854775807) :
    Calls Try.prog 22 #[.pointer (some ⟨p, 0, none⟩), .int .i64 k] w fun e w' => e = .returned (.tuple #[]) ∧ Fr bs w w' ∧ StAt w' bs s p l m n q b { S with v := ⟨S.v.c, k, S.v.d, S.v.ls, S.v.wt⟩ } := by
  obtain ⟨u, wv, ms, B, hl⟩ := h.lies
  refine (fuse_calls w p l m n q _ _ _ _ _ h.dev.at_ k).mono ?_
  rintro e w' ⟨rfl, hf, hd⟩
  exact ⟨rfl, hf.mono (fun x hx => by simp at hx; subst hx; exact hl.bs4.2.1), ⟨⟨u, wv, ms, B, hl.devW h.sep.1 hf rfl rfl rfl rfl rfl⟩, ⟨hd, h.dev.cb, hk⟩, h.sep, h.card, h.k128, h.klen, h.cards, h.k1, h.room, h.c16, h.n300, h.cnt⟩⟩
theorem lf_fuse (hA : LfAt w G p s B σ cnt least now false wr) (k : Int) (hk : -9223372036854775808 ≤ k ∧ k ≤ 9223372036854775807) :
    Calls Try.prog 22 #[.pointer (some ⟨p, 0, none⟩), .int .i64 k] wr fun e w' => e = .returned (.tuple #[]) ∧ LfAt w G p s B σ cnt least now false w' := by
  obtain ⟨bs, l, m, S, b, hst, hl, hd, hbs, hG, hb⟩ := hA.ex
  have hL := hl rfl
  refine (st_fuseW hst k hk).mono ?_
  rintro e w' ⟨rfl, hfr, hst'⟩
  obtain ⟨j, h1, h2, h3, h4, h5⟩ := hL.home
  exact ⟨rfl, lf_same (b := b) hA hbs hG hfr (fun x hx => .inl hx) hst' (fun _ => ⟨hL.gone, hL.all, ⟨j, h1, h2, h3, ⟨h4.d, h4.wt, h4.head, h4.home⟩, h5⟩, hL.last, hL.und, hL.dom, hL.ne⟩) (fun h => (by cases h)) hb⟩
theorem lf_sync (hA : LfAt w G p s B σ cnt least now false wr) (hB : B < 7000000000000000000) :
    Calls Try.prog 16 #[.pointer (some ⟨s, 0, none⟩)] wr fun e w' => ∃ code : Int, e = .returned (.int .i64 code) ∧ (code = 0 → LfAt w G p s (B + 800) σ cnt cnt now false w') ∧ (code ≠ 0 → LfAt w G p s (B + 800) σ cnt least now true w') := by
  obtain ⟨bs, l, m, S, b, hst, hl, hd, hbs, hG, hb⟩ := hA.ex
  have hL := hl rfl
  obtain ⟨j, _, _, _, hc, _⟩ := hL.home
  by_cases h0 : S.Cs = []
  · refine (st_sync_none hst hL.gone hc.d h0).mono ?_
    rintro e w' ⟨rfl, hfr, hst'⟩
    exact ⟨0, rfl, fun _ => lf_same (b := b) hA hbs hG hfr (fun x hx => .inl hx) hst' (fun _ => hL.none h0) (fun h => (by cases h)) (by omega), fun h => absurd rfl h⟩
  · refine (st_sync hst hL.gone hc.d (List.length_pos_iff.2 h0) (by omega)).mono ?_
    rintro e w' ⟨bs', kk, hkk, rfl, hfr, hgr, hst'⟩
    obtain ⟨g1, g2⟩ := hL.settle h0 hkk (hst.keyLen hkk) (fun i t hi => by have := hst.overDom hi; omega)
    refine ⟨_, rfl, fun h => lf_same (b := b) hA hbs hG hfr hgr hst' (fun _ => (g1 h).1) (fun h => (by cases h)) (by omega), fun h => lf_same (b := b) hA hbs hG hfr hgr hst' (fun h => (by cases h)) (fun _ => g2 h) (by omega)⟩
theorem lf_commit (hA : LfAt w G p s B σ cnt least now false wr) (hB : B < 7000000000000000000) (hcnt : cnt < 1000000) :
    Calls Try.prog 15 #[.pointer (some ⟨s, 0, none⟩)] wr fun e w' => ∃ (code : Int) (dead' : Bool), e = .returned (.int .i64 code) ∧ LfAt w G p s (B + 800) (addσ σ cnt now) (cnt + 1) least now dead' w' := by
  obtain ⟨bs, l, m, S, b, hst, hl, hd, hbs, hG, hb⟩ := hA.ex
  have hL := hl rfl
  have hall := hL.all
  obtain ⟨j, hj1, hj2, _, hc, _⟩ := hL.home
  cases hcr : S.crowd with
  | false =>
    refine (st_commit hst hL.gone hc.d hcr (by omega)).mono ?_
    rintro e w' ⟨bs', rfl, hfr, hgr, hst'⟩
    exact ⟨0, false, rfl, lf_same (b := b) hA hbs hG hfr hgr hst' (fun _ => hL.push hst.card) (fun h => (by cases h)) (by omega)⟩
  | true =>
    have h0 : S.Cs ≠ [] := fun e => by
      have hks : S.ks = [] := List.eq_nil_of_length_eq_zero (by rw [hst.klen, e]; rfl)
      have := hst.k128
      unfold Sv.crowd at hcr
      rw [e, hks] at hcr
      rw [Bool.or_eq_true, decide_eq_true_eq, decide_eq_true_eq] at hcr
      rcases hcr with h | h
      · cases h
      · have h' : 256 < S.k := h
        omega
    refine (st_commit_crowd hst hL.gone hc.d hcr (by omega) (by omega)).mono ?_
    rintro e w' ⟨bs', kk, hkk, rfl, hfr, hgr, hst'⟩
    obtain ⟨g1, g2⟩ := hL.settle h0 hkk (hst.keyLen hkk) (fun i t hi => by have := hst.overDom hi; omega)
    by_cases hcode : (S.settled kk).1 = 0
    · rw [if_pos hcode] at hst'
      obtain ⟨q1, q2, q3, q4⟩ := g1 hcode
      have hcard : Card (S.settled kk).2.U (S.settled kk).2.k := by rw [q3, q4]; exact hst.card
      have hp := q1.push hcard
      refine ⟨_, false, rfl, lf_same (b := b) hA hbs hG hfr hgr hst' (fun _ => ⟨hp.gone, hp.all, ?_, hp.last, hp.und, hp.dom, hp.ne⟩) (fun h => (by cases h)) (by omega)⟩
      obtain ⟨j2, a1, a2, a3, a4, a5⟩ := hp.home
      exact ⟨j2, a1, by omega, a3, a4, a5⟩
    · rw [if_neg hcode] at hst'
      obtain ⟨q1, q2⟩ := g2 hcode
      exact ⟨_, true, rfl, lf_same (b := b) hA hbs hG hfr hgr hst' (fun h => (by cases h)) (fun _ => ⟨q1, q2.more⟩) (by omega)⟩
end
end Go.Proofs.Ytoifpbifipgpkaa
namespace Go.Proofs.Ytoifpbifipgpkaa
open Go.RowKit Go.MapKept
/-- One of the states that may be there. -/
def OneOf (σ : Nat → Nat → Nat) (cnt least : Nat) (st : Nat → List UInt8) : Prop := ∃ j, least ≤ j ∧ j ≤ cnt ∧ ∀ i, i < 40 → st i = stK (σ j) i
/-- A device, whatever it may stand for. -/
structure DsAt (w : World) (G : List (Nat × Obj)) (p : Nat) (B : Nat) (P : Dv → Prop) (wr : World) : Prop where
  ex : ∃ (l m : Nat) (b : Int) (v : Dv), DvAt wr p l m 340 340 b v ∧ P v ∧ (∀ x ∈ [p, l, m], w.heap.size ≤ x ∧ x < wr.heap.size) ∧ (∀ y ∈ G, y.1 ≠ p ∧ y.1 ≠ l ∧ y.1 ≠ m) ∧ b ≤ B
  keep : ∀ y ∈ G, wr.heap[y.1]? = some y.2
  fr : Fr [] w wr
/-- Nothing waits, it lives, and its sectors stand for one of the states. -/
def Rec1 (σ : Nat → Nat → Nat) (cnt least : Nat) (f : Int) (v : Dv) : Prop := v.d = false ∧ v.f = f ∧ v.wt = (fun _ => none) ∧ ∃ st, RecW 340 v.ls st ∧ OneOf σ cnt least st
section
variable {w wr : World} {G : List (Nat × Obj)} {p s : Nat} {B : Nat} {σ : Nat → Nat → Nat} {cnt least : Nat} {now : Nat → Nat} {dead : Bool}
theorem LfAt.dev (hA : LfAt w G p s B σ cnt least now dead wr) : DsAt w G p B (fun v => Safe 340 v (OneOf σ cnt least)) wr := by
  obtain ⟨bs, l, m, S, b, hst, hl, hd, hbs, hG, hb⟩ := hA.ex
  obtain ⟨u, wv, ms, B0, hli⟩ := hst.lies
  have hsafe : DeadOk S.v σ cnt least := by
    cases dead with
    | false => exact (hl rfl).ok
    | true => exact (hd rfl).2
  refine ⟨⟨l, m, b, S.v, hst.dev, hsafe, fun x hx => ?_, fun y hy => ⟨fun e => hG y hy (by rw [e]; exact hli.bs4.2.1), fun e => hG y hy (by rw [e]; exact hli.bs4.2.2.1), fun e => hG y hy (by rw [e]; exact hli.bs4.2.2.2.1)⟩, hb⟩, hA.keep, hA.fr⟩
  have h1 := hbs _ hli.bs4.2.1; have h2 := hbs _ hli.bs4.2.2.1; have h3 := hbs _ hli.bs4.2.2.2.1
  simp at hx
  rcases hx with rfl | rfl | rfl <;> omega
theorem DsAt.imp {P P' : Dv → Prop} (h : DsAt w G p B P wr) (hp : ∀ v, P v → P' v) : DsAt w G p B P' wr := by
  obtain ⟨l, m, b, v, h1, h2, h3, h4, h5⟩ := h.ex
  exact ⟨⟨l, m, b, v, h1, hp v h2, h3, h4, h5⟩, h.keep, h.fr⟩
/-- A crash: what is kept stands for one of the states. -/
theorem ds_crash (h : DsAt w G p B (fun v => Safe 340 v (OneOf σ cnt least)) wr) (flip : Bool) (ad : Option Addr) (len cap : Nat) (zs : List Int) (hz : IntsAt wr ad len zs) (hlm : len ≤ 9223372036854775807) (hlow : 0 < len → ∀ a, ad = some a → a.block < w.heap.size) :
    Calls Try.prog 18 #[.pointer (some ⟨p, 0, none⟩), .bool flip, .slice ad len cap] wr fun e w' => e = .returned (.tuple #[]) ∧ DsAt w G p B (Rec1 σ cnt least (-1)) w' := by
  obtain ⟨l, m, b, v, hd, hP, hlo, hG, hb⟩ := h.ex
  have hp := hlo p (by simp); have hl := hlo l (by simp); have hm := hlo m (by simp)
  have hsz := h.fr.size
  refine (crash_calls wr p l m 340 340 v.c v.f v.d v.ls v.wt hd.at_ flip ad len cap zs hz hlm (fun h0 a ha e => by have := hlow h0 a ha; omega)).mono ?_
  rintro e w' ⟨rfl, hfr, m', hm', hd'⟩
  obtain ⟨LS, hLS⟩ : ∃ LS : Nat → List UInt8, (fun i : Nat => ((if flip = true then without v.wt zs len else among v.wt zs len) (i : Int)).getD (v.ls i)) = LS := ⟨_, rfl⟩
  have hkept : Kept 340 v LS := fun i _ => by
    rw [← hLS]
    show ((if flip = true then without v.wt zs len else among v.wt zs len) (i : Int)).getD (v.ls i) = v.ls i ∨ _
    have key : ∀ o : Option (List UInt8), (o = none ∨ o = v.wt (i : Int)) → (o.getD (v.ls i) = v.ls i ∨ v.wt (i : Int) = some (o.getD (v.ls i))) := fun o ho => by
      rcases ho with rfl | rfl
      · exact .inl rfl
      · cases hx : v.wt (i : Int) with
        | none => exact .inl rfl
        | some t => exact .inr rfl
    refine key _ ?_
    cases flip with
    | true =>
      simp only [↓reduceIte, without]
      split
      · exact .inl rfl
      · exact .inr rfl
    | false =>
      simp only [Bool.false_eq_true, ↓reduceIte, among]
      split
      · exact .inr rfl
      · exact .inl rfl
  obtain ⟨st, h1, h2⟩ := hP LS hkept
  have hd2 : DvAt w' p l m' 340 340 b ⟨v.c, -1, false, LS, fun _ => none⟩ := ⟨by rw [← hLS]; exact hd', hd.cb, by simp⟩
  have hlt := hd2.lts
  refine ⟨rfl, ⟨⟨l, m', b, _, hd2, ⟨rfl, rfl, rfl, st, h2, h1⟩, fun x hx => by simp at hx; omega, fun y hy => ?_, hb⟩, fun y hy => hfr.keep (h.keep y hy) (by have := hG y hy; simp; omega), h.fr.trans_new hfr (fun x hx => by simp at hx; omega)⟩⟩
  have := hG y hy
  have := lt_of_heap (h.keep y hy)
  omega
theorem ds_fuse {P : Dv → Prop} (h : DsAt w G p B P wr) (k : Int) (hk : -9223372036854775808 ≤ k ∧ k ≤ 9223372036854775807) :
    Calls Try.prog 22 #[.pointer (some ⟨p, 0, none⟩), .int .i64 k] wr fun e w' => e = .returned (.tuple #[]) ∧ DsAt w G p B (fun v => v.f = k ∧ ∃ f, P ⟨v.c, f, v.d, v.ls, v.wt⟩) w' := by
  obtain ⟨l, m, b, v, hd, hP, hlo, hG, hb⟩ := h.ex
  have hp := hlo p (by simp)
  have hsz := h.fr.size
  refine (fuse_calls wr p l m 340 340 v.c v.f v.d v.ls v.wt hd.at_ k).mono ?_
  rintro e w' ⟨rfl, hfr, hd'⟩
  exact ⟨rfl, ⟨⟨l, m, b, ⟨v.c, k, v.d, v.ls, v.wt⟩, ⟨hd', hd.cb, hk⟩, ⟨rfl, v.f, hP⟩, fun x hx => ⟨(hlo x hx).1, Nat.lt_of_lt_of_le (hlo x hx).2 hfr.size⟩, hG, hb⟩, fun y hy => hfr.keep (h.keep y hy) (by simpa using (hG y hy).1), h.fr.trans_new hfr (fun x hx => by simp at hx; omega)⟩⟩
/-- Open, whatever comes of it: what a crash behind it keeps stands for one of the states still. -/
theorem ds_open {f : Int} (h : DsAt w G p B (Rec1 σ cnt least f) wr) (hB : B < 6000000000000000000) :
    Calls Try.prog 19 #[.pointer (some ⟨p, 0, none⟩)] wr fun e w' => (∃ x y, e = .returned (.tuple #[x, y])) ∧ DsAt w G p (B + 2000) (fun v => Safe 340 v (OneOf σ cnt least)) w' := by
  obtain ⟨l, m, b, v, hd, ⟨h1, h2, h3, st, hr, ho⟩, hlo, hG, hb⟩ := h.ex
  have hp := hlo p (by simp); have hl := hlo l (by simp); have hm := hlo m (by simp)
  have hsz := h.fr.size
  have hv : v = ⟨v.c, f, false, v.ls, fun _ => none⟩ := by
    obtain ⟨c, f', d, ls, wt⟩ := v
    simp only at h1 h2 h3
    subst h1; subst h2; subst h3
    rfl
  rw [hv] at hd
  refine (open_calls wr p l m 340 340 b v.c f v.ls hd (by omega) (by omega)).mono ?_
  rintro e w' ⟨hfr, code, v', hfin, hd', hres⟩
  obtain ⟨g1, g2⟩ := fin_two hr (by omega) hfin
  have hsafe : Safe 340 v' (OneOf σ cnt least) := by
    by_cases hc : code = 0
    · exact ((g1 hc).log.safe (by omega)).mono (fun s hs => by rw [hs]; exact ho)
    · exact (g2 hc).2.mono (fun s hs => by rw [hs]; exact ho)
  have hlt := hd'.lts
  refine ⟨?_, ⟨⟨l, m, _, v', hd', hsafe, fun x hx => ⟨(hlo x hx).1, Nat.lt_of_lt_of_le (hlo x hx).2 hfr.size⟩, hG, by omega⟩, fun y hy => hfr.keep (h.keep y hy) (by have := hG y hy; simp; omega), h.fr.trans_new hfr (fun x hx => by simp at hx; omega)⟩⟩
  rcases hres with ⟨_, s, bs, he, _⟩ | ⟨_, he⟩
  · exact ⟨_, _, he⟩
  · exact ⟨_, _, he⟩
theorem ds_carried (h : DsAt w G p B (Rec1 σ cnt least (-1)) wr) (hB : B < 6000000000000000000) :
    Calls Try.prog 26 #[.pointer (some ⟨p, 0, none⟩)] wr fun e w' => ∃ p', e = .returned (.pointer (some ⟨p', 0, none⟩)) ∧ DsAt w G p' 10000 (Rec1 σ cnt least (-1)) w' := by
  obtain ⟨l, m, b, v, hd, ⟨h1, h2, h3, st, hr, ho⟩, hlo, hG, hb⟩ := h.ex
  have hp := hlo p (by simp)
  have hsz := h.fr.size
  have hv : v = ⟨v.c, -1, false, v.ls, fun _ => none⟩ := by
    obtain ⟨c, f', d, ls, wt⟩ := v
    simp only at h1 h2 h3
    subst h1; subst h2; subst h3
    rfl
  rw [hv] at hd
  refine (carried_calls wr p l m 340 340 b v.c v.ls hd (by omega)).mono ?_
  rintro e w' ⟨p', l', m', c', rfl, hfr, g1, g2, g3, hd'⟩
  have hlt := hd'.lts
  refine ⟨p', rfl, ⟨⟨l', m', _, _, hd', ⟨rfl, rfl, rfl, st, hr, ho⟩, fun x hx => by simp at hx; omega, fun y hy => ?_, by omega⟩, fun y hy => hfr.keep (h.keep y hy) (by have := hG y hy; simp; omega), h.fr.trans_new hfr (fun x hx => by simp at hx; omega)⟩⟩
  have := lt_of_heap (h.keep y hy)
  omega
theorem live_home {v : Dv} (h : Live v) {C : Int → Option (List UInt8)} {ks : List Int} (hk : KeysOf C ks) : (v.home C ks).1 = 0 := by
  obtain ⟨v5, e5, q5⟩ := Live.puts (f := txt C) (o := 300) ks v h hk.nd
  unfold Dv.home
  rw [e5]
  simp only [if_true]
  rw [q5.live.flush]
  simp only [if_true]
  rw [Live.head (v := ⟨v5.c + 1, v5.f, false, fun i : Nat => (v5.wt (i : Int)).getD (v5.ls i), fun _ => none⟩) ⟨rfl, q5.live.f⟩ 0]
/-- Open on a device without a fuse: a store that tells one of the states. -/
theorem ds_open2 (h : DsAt w G p B (Rec1 σ cnt least (-1)) wr) (hB : B < 6000000000000000000) :
    Calls Try.prog 19 #[.pointer (some ⟨p, 0, none⟩)] wr fun e w' => ∃ (s j : Nat), e = .returned (.tuple #[.pointer (some ⟨s, 0, none⟩), .int .i64 0]) ∧ least ≤ j ∧ j ≤ cnt ∧ LfAt w G p s (B + 2000) (fun _ => σ j) 0 0 (σ j) false w' := by
  obtain ⟨l, m, b, v, hd, ⟨h1, h2, h3, st, hr, j, hj1, hj2, ho⟩, hlo, hG, hb⟩ := h.ex
  have hp := hlo p (by simp); have hl := hlo l (by simp); have hm := hlo m (by simp)
  have hsz := h.fr.size
  have hv : v = ⟨v.c, -1, false, v.ls, fun _ => none⟩ := by
    obtain ⟨c, f', d, ls, wt⟩ := v
    simp only at h1 h2 h3
    subst h1; subst h2; subst h3
    rfl
  rw [hv] at hd
  refine (open_calls wr p l m 340 340 b v.c (-1) v.ls hd (by omega) (by omega)).mono ?_
  rintro e w' ⟨hfr, code, v', hfin, hd', hres⟩
  obtain ⟨g1, g2⟩ := fin_two hr (by omega) hfin
  have hcode : code = 0 := by
    obtain ⟨c', ⟨_, hc, _⟩ | ⟨N, C, ks, _, _, _, _, hk, hc, _⟩⟩ := hfin
    · exact hc
    · rw [hc]
      exact live_home ⟨rfl, by show (-1 : Int) < 0; omega⟩ hk
  rcases hres with ⟨_, s, bs, he, hs, hbs, hst⟩ | ⟨hne, _⟩
  · have hcalm : CalmSt 340 v' (stK (σ j)) := (g1 hcode).congr ho
    have hlive : LiveSt (Sv.new v') (fun _ => σ j) 0 0 (σ j) := ⟨rfl, rfl, ⟨0, Nat.le_refl _, Nat.le_refl _, by simp [Sv.new], hcalm, fun i _ => rfl⟩, by simp [Sv.new], fun i _ => rfl, fun i hi => (by cases hi), fun hne => absurd rfl hne⟩
    obtain ⟨bs2, htr, hst2⟩ := hst.trim
    refine ⟨s, j, he, hj1, hj2, ⟨⟨bs2, l, m, _, _, hst2, fun _ => hlive, fun h => (by cases h), fun x hx => ⟨?_, (htr x hx).2⟩, fun y hy hx => ?_, by omega⟩, fun y hy => hfr.keep (h.keep y hy) (by have := hG y hy; simp; omega), h.fr.trans_new hfr (fun x hx => by simp at hx; omega)⟩⟩
    · have := hbs x (htr x hx).1; omega
    · have h4 := hbs _ (htr _ hx).1
      have h5 := lt_of_heap (h.keep y hy)
      have h6 := hG y hy
      omega
  · exact absurd hcode hne
end
end Go.Proofs.Ytoifpbifipgpkaa
namespace Go.Proofs.Ytoifpbifipgpkaa
open Go.RowKit Go.MapKept
theorem LiveSt.tells {S : Sv} {σ : Nat → Nat → Nat} {cnt least : Nat} {now : Nat → Nat} (h : LiveSt S σ cnt least now) (i : Nat) (hi : i < 40) : S.tell i = stK now i := by
  obtain ⟨j, _, _, _, hc, ho⟩ := h.home
  rw [← h.und i hi, ← ho i hi]
  unfold Sv.tell
  have ht : S.v.text (300 + i) = stK (σ j) i := by
    unfold Dv.text
    rw [hc.d]
    simp only [Bool.false_eq_true, if_false]
    unfold secNow
    rw [hc.wt]
    exact hc.home i (by omega)
  rw [ht]
  cases S.U (i : Int) with
  | some t => rfl
  | none => rfl
theorem LiveSt.asked {S : Sv} {σ : Nat → Nat → Nat} {cnt least : Nat} {now : Nat → Nat} (h : LiveSt S σ cnt least now) (c : Int) : LiveSt (S.asked c) σ cnt least now := by
  obtain ⟨j, h1, h2, h3, hc, ho⟩ := h.home
  exact ⟨h.gone, h.all, ⟨j, h1, h2, h3, ⟨hc.d, hc.wt, hc.head, hc.home⟩, ho⟩, h.last, h.und, h.dom, h.ne⟩
theorem stK_congr {F F' : Nat → Nat} (h : ∀ q, q < 16 → kindN (F q) = kindN (F' q)) : stK F = stK F' := by
  funext i
  unfold stK
  by_cases e : i < 16
  · rw [if_pos e, if_pos e, h i e]
  · rw [if_neg e, if_neg e]
section
variable {w wr : World} {G : List (Nat × Obj)} {p s : Nat} {B : Nat} {σ : Nat → Nat → Nat} {cnt least : Nat} {now F F' : Nat → Nat} {dead : Bool}
theorem LfAt.turn (hA : LfAt w G p s B (fun _ => F) 0 0 F false wr) (h : ∀ q, q < 16 → kindN (F q) = kindN (F' q)) : LfAt w G p s B (fun _ => F') 0 0 F' false wr := by
  obtain ⟨bs, l, m, S, b, hst, hl, hd, hbs, hG, hb⟩ := hA.ex
  have hL := hl rfl
  have e := stK_congr h
  obtain ⟨j, h1, h2, h3, hc, ho⟩ := hL.home
  refine ⟨⟨bs, l, m, S, b, hst, fun _ => ⟨hL.gone, hL.all, ⟨j, h1, h2, h3, by rw [← e]; exact hc, fun i hi => by rw [← e]; exact ho i hi⟩, hL.last, fun i hi => by rw [← e]; exact hL.und i hi, hL.dom, hL.ne⟩, fun h => (by cases h), hbs, hG, hb⟩, hA.keep, hA.fr⟩
theorem lf_tells (hA : LfAt w G p s B σ cnt least now false wr) (hB : B < 7000000000000000000) (hF : ∀ q, q < 16 → F q ≤ 100000) :
    Calls Try.prog 27 #[.pointer (some ⟨s, 0, none⟩), .agg (arrK F)] wr fun e w' => ∃ r : Bool, e = .returned (.bool r) ∧ (r = true ↔ ∀ q, q < 16 → kindN (now q) = kindN (F q)) ∧ LfAt w G p s (B + 16) σ cnt least now false w' := by
  obtain ⟨bs, l, m, S, b, hst, hl, hd, hbs, hG, hb⟩ := hA.ex
  have hL := hl rfl
  obtain ⟨j, _, _, _, hc, _⟩ := hL.home
  refine (tells_calls hst hL.gone hc.d (fun x hx => (hbs x hx).2) (by omega) (by omega) F hF).mono ?_
  rintro e w' ⟨hfr, c, r, hst', rfl, hr⟩
  refine ⟨r, rfl, hr.trans ⟨fun h q hq => ?_, fun h q hq => ?_⟩, lf_same (b := b) hA hbs hG hfr (fun x hx => .inl hx) hst' (fun _ => hL.asked c) (fun h => (by cases h)) (by omega)⟩
  · have := h q hq
    rw [hL.tells q (by omega)] at this
    unfold stK at this
    rw [if_pos hq] at this
    exact this
  · rw [hL.tells q (by omega)]
    unfold stK
    rw [if_pos hq]
    exact h q hq
theorem lf_reopen (hA : LfAt w G p s B (fun _ => F) 0 0 F false wr) (hB : B < 6000000000000000000) :
    Calls Try.prog 19 #[.pointer (some ⟨p, 0, none⟩)] wr fun e w' => ∃ s', e = .returned (.tuple #[.pointer (some ⟨s', 0, none⟩), .int .i64 0]) ∧ LfAt w G p s' (B + 2000) (fun _ => F) 0 0 F false w' := by
  obtain ⟨bs, l, m, S, b, hst, hl, hd, hbs, hG, hb⟩ := hA.ex
  have hL := hl rfl
  obtain ⟨j, hj1, _, _, hc, _⟩ := hL.home
  obtain ⟨u, wv, ms, B0, hli⟩ := hst.lies
  have hp := hbs _ hli.bs4.2.1; have hl' := hbs _ hli.bs4.2.2.1; have hm := hbs _ hli.bs4.2.2.2.1
  have hsz := hA.fr.size
  have hdv := hst.dev
  have key : ∀ v : Dv, v.d = false → v.wt = (fun _ => none) → v = ⟨v.c, v.f, false, v.ls, fun _ => none⟩ := fun ⟨_, _, _, _, _⟩ h1 h2 => by
    cases h1; cases h2; rfl
  have hv := key S.v hc.d hc.wt
  rw [hv] at hdv
  refine (open_calls wr p l m 340 340 b S.v.c S.v.f S.v.ls hdv (by omega) (by omega)).mono ?_
  rintro e w' ⟨hfr, code, v', hfin, hd', hres⟩
  have hr : RecW 340 S.v.ls (stK F) := ⟨0, hc.head, .inl ⟨rfl, hc.home⟩⟩
  obtain ⟨g1, g2⟩ := fin_two hr (by omega) hfin
  have hcode : code = 0 := by
    obtain ⟨c', ⟨_, hc', _⟩ | ⟨N, C, ks, hN, hpos, _⟩⟩ := hfin
    · exact hc'
    · have := hc.head; omega
  rcases hres with ⟨_, s', bs', he, hs, hbs', hst'⟩ | ⟨hne, _⟩
  · have hlive : LiveSt (Sv.new v') (fun _ => F) 0 0 F := ⟨rfl, rfl, ⟨0, Nat.le_refl _, Nat.le_refl _, by simp [Sv.new], g1 hcode, fun i _ => rfl⟩, by simp [Sv.new], fun i _ => rfl, fun i hi => (by cases hi), fun hne => absurd rfl hne⟩
    obtain ⟨bs2, htr, hst2⟩ := hst'.trim
    have hGp : ∀ y ∈ G, y.1 ≠ p ∧ y.1 ≠ l ∧ y.1 ≠ m := fun y hy => ⟨fun e => hG y hy (by rw [e]; exact hli.bs4.2.1), fun e => hG y hy (by rw [e]; exact hli.bs4.2.2.1), fun e => hG y hy (by rw [e]; exact hli.bs4.2.2.2.1)⟩
    refine ⟨s', he, ⟨⟨bs2, l, m, _, _, hst2, fun _ => hlive, fun h => (by cases h), fun x hx => ⟨?_, (htr x hx).2⟩, fun y hy hx => ?_, by omega⟩, fun y hy => hfr.keep (hA.keep y hy) (by have := hGp y hy; simp; omega), hA.fr.trans_new hfr (fun x hx => by simp at hx; omega)⟩⟩
    · have := hbs' x (htr x hx).1; omega
    · have h4 := hbs' _ (htr _ hx).1
      have h5 := lt_of_heap (hA.keep y hy)
      have h6 := hGp y hy
      omega
  · exact absurd hcode hne
end
end Go.Proofs.Ytoifpbifipgpkaa
