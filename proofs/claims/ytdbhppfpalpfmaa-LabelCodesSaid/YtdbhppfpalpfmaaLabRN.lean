/-
  The document's own Norm, Join, Meet; whether two lists are one.
-/
import Derived.Test.YtdbhppfpalpfmaaLabRS
import Derived.Test.YtdbhppfpalpfmaaLabN
import Derived.Deep.DeepCutAuto
import Derived.Deep.CutBlock
namespace Go.Proofs.Ytdbhppfpalpfmaa
open Go.RowKit Go.MapKept
section
variable {P : Program} {ops : Array Oper} {rest : List Oper} {o : Oper} {a : Act} {Q : Exit → Act → World → Prop}
/-- append(s, t...), s of the call's own, t a list that reads, nil let in. -/
theorem wL_appendR {w : World} (hg : o.guard = none) (s x : Operand) (t : TypeId) (ho : o.op = .call { callee := .builtin .append, args := #[s, x], argTypes := #[t, t] })
    (base : Nat) (e : TypeId) (i : TypeInfo) (ht : P.underlying t = some (.slice e)) (hi : P.info? e = some i) (hz : i.zero = some (.int .i64 0)) (hsize : i.size = 1) (hby : i.bytes = 8)
    (v : Value) (n : Nat) (xs : List Int) (hs : a.eval s = v) (hown : w.ownsRow base e 1 v n (xs.map (Value.int .i64))) (ad : Option Addr) (c m : Nat) (zs : List Int) (hm : zs.length = m) (hx : a.eval x = .slice ad m c) (hr : RdI w ad c zs) (hn : ad = none → c = 0)
    (hb : (n + m) * 8 ≤ 140737488355328) (hbase : base ≤ w.heap.size)
    (h : ∀ v' w', w'.ownsRow base e 1 v' (n + m) ((xs ++ zs).map (Value.int .i64)) → Below base w w' → wpList P ops Q rest (a.put o.dst v') w') : wpList P ops Q (o :: rest) a w := by
  have key : ∀ (a' : Addr), ad = some a' → wpList P ops Q (o :: rest) a w := fun a' ha => by
    subst ha
    refine wpList_append_own (P := P) (w := w) hg s x t ho base e i (.int .i64 0) 1 8 ht hi hz hsize hby rfl (by decide) v n _ hs hown a' m c (zs.map (Value.int .i64)) hx (by simp [hm]) (fun j u hu => ?_) (fun u hu => by obtain ⟨y, _, rfl⟩ := List.mem_map.1 hu; rfl) (by unfold maxLen; omega) hb hbase (fun v' w' h1 h2 _ => h v' w' (by rw [List.map_append]; exact h1) ((Below.refl base w).grown h2 hbase (fun k ek => ?_)))
    · have hj : j < zs.length := by have := (List.getElem?_eq_some_iff.1 hu).1; simpa using this
      obtain ⟨b, off, rfl, hc⟩ := hr.at_ a' rfl (by omega)
      rw [Go.WideShapes.add_plain, hc j hj]
      simp [hj] at hu
      simp [hj, hu]
    · rcases hown.2 with ⟨rfl, _⟩ | ⟨g, cap, cur, rfl, h1, _⟩
      · simp [Value.ownBlock] at ek
      · simp [Value.ownBlock] at ek; subst ek; exact h1
  cases ad with
  | none =>
    have h0 := hr.nil rfl
    have hc := hn rfl
    subst hc
    obtain rfl : m = 0 := by omega
    obtain rfl : zs = [] := List.eq_nil_of_length_eq_zero h0
    exact wpList_append_own_none (P := P) hg s x t ho base e i 1 ht hi v n _ hs hown hx (h v w (by simpa using hown) (Below.refl _ _))
  | some a' => exact key a' rfl
end
theorem Fr.then_below {w w4 w5 : World} (h : Fr [] w w4) (hb : Below w.heap.size w4 w5) : Fr [] w w5 :=
  ⟨hb.os.trans h.os, hb.tape.trans h.tape, hb.output.trans h.output, Nat.le_trans h.size hb.size, fun j hj _ => (hb.block j hj).trans (h.block j hj (by simp))⟩
theorem Fr.then_below2 {w w4 w5 : World} {B : Nat} (h : Fr [] w w4) (hb : Below B w4 w5) (hB : w.heap.size ≤ B) : Fr [] w w5 :=
  ⟨hb.os.trans h.os, hb.tape.trans h.tape, hb.output.trans h.output, Nat.le_trans h.size hb.size, fun j hj _ => (hb.block j (by omega)).trans (h.block j hj (by simp))⟩
theorem own_rdI2 {w : World} {B : Nat} {T : TypeId} {v : Value} {n : Nat} {zs : List Int} (h : w.ownsRow B T 1 v n (zs.map (Value.int .i64))) (hb : zs.length * 8 ≤ 140737488355328) : ∃ ad cap, v = .slice ad zs.length cap ∧ RdI w ad cap zs ∧ (ad = none → cap = 0) := by
  have hl : zs.length = n := by have := h.1; simp at this; omega
  rcases h.2 with ⟨rfl, hz⟩ | ⟨g, cap, cur, rfl, _⟩
  · obtain rfl : zs = [] := List.eq_nil_of_length_eq_zero (by omega)
    exact ⟨none, 0, rfl, RdI.empty _ _ (by omega), fun _ => rfl⟩
  · obtain ⟨ad, c, hv, hr, _⟩ := own_rdI h hb
    refine ⟨ad, c, hv, hr, fun e => ?_⟩
    rw [e] at hv
    cases hv
theorem new_own (w : World) (T : TypeId) : (w.alloc (.cells #[] T)).ownsRow w.heap.size T 1 (.slice (some ⟨w.heap.size, 0, none⟩) 0 0) 0 (([] : List Int).map (Value.int .i64)) :=
  ⟨rfl, .inr ⟨w.heap.size, 0, #[], rfl, Nat.le_refl _, heap_alloc_last w _, Nat.le_refl _, by unfold maxLen; omega, rfl, rfl⟩⟩
theorem tw_take : ∀ (l : List Int) (t : Int) (k : Nat), k ≤ l.length → (∀ x ∈ l.take k, x < t) → (k = l.length ∨ ¬ l.getD k 0 < t) → l.takeWhile (fun x => decide (x < t)) = l.take k ∧ l.dropWhile (fun x => decide (x < t)) = l.drop k
  | [], t, k, hk, _, _ => by simp
  | y :: l, t, 0, _, _, h => by
    have : ¬ y < t := by rcases h with h | h; simp at h; simpa using h
    simp [List.takeWhile_cons, List.dropWhile_cons, this]
  | y :: l, t, k + 1, hk, h1, h => by
    have hy : y < t := h1 y (by simp)
    have := tw_take l t k (by simpa using hk) (fun x hx => h1 x (by simp [hx])) (by rcases h with h | h; left; simpa using h; right; simpa using h)
    simp [List.takeWhile_cons, List.dropWhile_cons, hy, this.1, this.2]
theorem insB_at (l : List Int) (t : Int) (k : Nat) (hk : k ≤ l.length) (h1 : ∀ x ∈ l.take k, x < t) (h2 : k = l.length ∨ ¬ l.getD k 0 < t) : insB l t = l.take k ++ [t] ++ l.drop k := by
  obtain ⟨e1, e2⟩ := tw_take l t k hk h1 h2
  unfold insB; rw [e1, e2]; simp
/-- The rest of a list from a place on. -/
theorem RdI.dropAt {w : World} {b off cap : Nat} {zs : List Int} (h : RdI w (some ⟨b, off, none⟩) cap zs) {k : Nat} (hk : k ≤ zs.length) : RdI w (some ⟨b, off + k, none⟩) (cap - k) (zs.drop k) :=
  ⟨by have := h.le; simp; omega, by have := h.cb; omega, by have := h.big; simp; omega, (fun e => by cases e), fun a ha hl => by
    cases ha
    simp at hl
    obtain ⟨b', off', e, hc⟩ := h.at_ _ rfl (by omega)
    cases e
    refine ⟨b, off + k, rfl, fun j hj => ?_⟩
    have hj' : k + j < zs.length := by simp at hj; omega
    rw [Nat.add_assoc, hc (k + j) hj']
    simp [List.getD_eq_getElem?_getD, List.getElem?_drop]⟩
set_option maxRecDepth 100000 in
set_option maxHeartbeats 2000000 in
theorem put_calls (w : World) (ad : Option Addr) (cap : Nat) (zs : List Int) (t : Int) (h : RdI w ad cap zs) (hz : ad = none → cap = 0) (hl : zs.length ≤ 100) (ht : t ∉ zs) :
    Calls Try.prog 49 #[.slice ad zs.length cap, .int .i64 t] w fun e w' => ∃ v, e = .returned v ∧ w'.ownsRow w.heap.size 3 1 v (insB zs t).length ((insB zs t).map (Value.int .i64)) ∧ Fr [] w w' := by
  obtain ⟨i0, hi, hz0, hz1, hz2⟩ := info_parts (show (Try.prog.info? 3).map (fun i => (i.zero, i.size, i.bytes)) = some (some (.int .i64 0), 1, 8) by kernel_rfl)
  have hat := fun w' (hf : Fr [] w w') k hk => (h.keep hf).cellAt (k := k) hk
  have hle := h.le
  have hcb := h.cb
  have hts := take_snoc zs
  have hins := insB_at zs t
  have hmem : ∀ k, k < zs.length → zs.getD k 0 ≠ t := fun k hk e => ht (by rw [← e, List.getD_eq_getElem?_getD, List.getElem?_eq_getElem hk]; exact List.getElem_mem hk)
  have hdr : ∀ w' b off k, Fr [] w w' → ad = some ⟨b, off, none⟩ → k ≤ zs.length → RdI w' (some ⟨b, off + k, none⟩) (cap - k) (zs.drop k) := fun w' b off k hf e hk => by
    have := h.keep hf; rw [e] at this; exact this.dropAt hk
  have hlt := fun k (hk : k ≤ zs.length) => List.length_take_of_le hk
  have hld := fun k => List.length_drop (i := k) (l := zs)
  have HI := Lib.hid hi; have HZ0 := Lib.hid hz0; have HZ1 := Lib.hid hz1; have HZ2 := Lib.hid hz2
  have HAT := Lib.hid hat; have HTS := Lib.hid hts; have HINS := Lib.hid hins; have HMEM := Lib.hid hmem; have HDR := Lib.hid hdr; have HLT := Lib.hid hlt; have HLD := Lib.hid hld; have HH := Lib.hid h; have HZC := Lib.hid hz
  clear hi hz0 hz1 hz2 hat hts hins hmem hdr hlt hld h hz ht
  obtain ⟨n, hn⟩ : ∃ n, zs.length = n := ⟨_, rfl⟩
  rw [hn] at hl hle HAT HTS HINS HMEM HDR HLT HLD ⊢
  have HN := Lib.hid hn
  clear hn
  go_enter Try.func49, Try.ntmps49
  go_upto_block 0 with fail
  go_cut [5, 6] (fun v5 v6 wx => ∃ (k : Nat) (v : Value), k ≤ n ∧ v6 = .int .i64 k ∧ v = v5 ∧ wx.ownsRow w.heap.size 3 1 v k ((zs.take k).map (Value.int .i64)) ∧ Fr [] w wx ∧ Hid (∀ x ∈ zs.take k, x < t) ∧ Hid (k = n ∨ ¬ zs.getD k 0 < t))
  case first =>
    go_wp2_with fail
    go_loopw [5, 6] (fun v5 v6 wr => ∃ (k : Nat) (v : Value), k ≤ n ∧ v6 = .int .i64 k ∧ v = v5 ∧ wr.ownsRow w.heap.size 3 1 v k ((zs.take k).map (Value.int .i64)) ∧ Fr [] w wr ∧ Hid (∀ x ∈ zs.take k, x < t)) (fun _ v6 _ => n - (intOf v6).toNat)
    case atStart => exact ⟨0, _, by omega, rfl, rfl, by simpa using World.ownsRow_nil _ _ _ _, Fr.refl _ _, Lib.hid (by simp)⟩
    case round =>
      obtain ⟨k, v5, hk, rfl, rfl, hown, hfr, HL⟩ := hrel
      by_cases hlt : k < n
      · obtain ⟨b, off, rfl, hcell, hall⟩ := HAT.out wr hfr k hlt
        clear hall
        have hts := HTS.out k hlt
        obtain ⟨x, hx⟩ : ∃ x, zs.getD k 0 = x := ⟨_, rfl⟩
        rw [hx] at hcell hts
        have HX := Lib.hid hx; have HT := Lib.hid hts
        clear hx hts
        have hsz := hfr.size
        by_cases hxt : x < t
        · have d1 : decide (x < t) = true := by simpa using hxt
          have HL' : Hid (∀ y ∈ zs.take (k + 1), y < t) := Lib.hid (by rw [HT.out]; intro y hy; rcases List.mem_append.1 hy with hy | hy; exact HL.out y hy; simp at hy; omega)
          have HOW := Lib.hid hown; have HFR := Lib.hid hfr
          clear hown hfr hxt
          go_wp2_with (first
            | (at_builtin; refine wpList_append_own _ rfl _ _ 22 rfl w.heap.size 3 i0 (.int .i64 0) 1 8 Try.underlying22 HI.out HZ0.out HZ1.out HZ2.out rfl (by decide) _ _ _ rfl (HOW.out.alloc _) ⟨wr.heap.size, 0, none⟩ 1 1 [.int .i64 x] rfl rfl (cell_one_new _ _ _) (by simp [Value.oneCell']) (by unfold maxLen; omega) (by omega) (by simp; omega) ?_)
            | fail)
          intro v' w4 hown' hgrow _
          have HFA := Lib.hid ((HFR.out.alloc (.cells #[.int .i64 x] 3)).grew (HOW.out.alloc _) hgrow (Nat.le_refl _))
          have HOA := Lib.hid hown'
          clear hown' hgrow
          go_wp2_with fail
          go_roundw
          case rel => exact ⟨k + 1, _, by omega, by go_num, rfl, by rw [HT.out]; simpa using HOA.out, HFA.out, HL'⟩
          case measure => simp [intOf]; omega
        · have d1 : decide (x < t) = false := by simpa using hxt
          have HOW := Lib.hid hown; have HFR := Lib.hid hfr; have HXT := Lib.hid hxt
          clear hown hfr hxt
          go_wp2_with fail
          go_meet
          exact ⟨k, _, by omega, rfl, rfl, HOW.out, HFR.out, HL, Lib.hid (.inr (by rw [HX.out]; exact HXT.out))⟩
      · obtain rfl : k = n := by omega
        have HOW := Lib.hid hown; have HFR := Lib.hid hfr
        clear hown hfr
        go_wp2_with fail
        go_meet
        exact ⟨k, _, by omega, rfl, rfl, HOW.out, HFR.out, HL, Lib.hid (.inl rfl)⟩
  case rest =>
    obtain ⟨k, v5, hk, rfl, rfl, hown, hfr, HL, HE⟩ := hcut
    have hin := HINS.out k hk HL.out HE.out
    have hsz := hfr.size
    have HIN := Lib.hid hin; have HOW := Lib.hid hown; have HFR := Lib.hid hfr
    clear hin hown hfr HL HE
    go_wp2_with (first
      | ((with_reducible_and_instances refine id (α := wpList _ _ _ (⟨some 31, _, _, _, _, _⟩ :: _) _ _) ?_); refine wpList_append_own _ rfl _ _ 22 rfl w.heap.size 3 i0 (.int .i64 0) 1 8 Try.underlying22 HI.out HZ0.out HZ1.out HZ2.out rfl (by decide) _ _ _ rfl (HOW.out.alloc _) ⟨wc.heap.size, 0, none⟩ 1 1 [.int .i64 t] rfl rfl (cell_one_new _ _ _) (by simp [Value.oneCell']) (by unfold maxLen; omega) (by omega) (by simp; omega) ?_)
      | fail)
    intro v' w4 hown' hgrow _
    have hfa := (HFR.out.alloc (.cells #[.int .i64 t] 3)).grew (HOW.out.alloc _) hgrow (Nat.le_refl _)
    have hoa : w4.ownsRow w.heap.size 3 1 v' (k + 1) ((zs.take k ++ [t]).map (Value.int .i64)) := by simpa using hown'
    have hsz4 := hfa.size
    have HOA := Lib.hid hoa
    clear hown' hgrow hoa
    by_cases hlt : k < n
    · obtain ⟨b, off, rfl, hcell, hall⟩ := HAT.out w4 hfa k hlt
      have hmem := HMEM.out k hlt
      have hd := HDR.out w4 b off k hfa rfl hk
      clear hall
      obtain ⟨x, hx⟩ : ∃ x, zs.getD k 0 = x := ⟨_, rfl⟩
      rw [hx] at hcell hmem
      have d1 : (x == t) = false := by simpa using hmem
      have hcap : ¬ cap = k := by omega
      have HD := Lib.hid hd; have HFA := Lib.hid hfa
      clear hx hmem hd hfa
      go_wp2_with (first
        | ((with_reducible_and_instances refine id (α := wpList _ _ _ (⟨some 50, _, _, _, _, _⟩ :: _) _ _) ?_); refine wL_appendR rfl _ _ 22 rfl w.heap.size 3 i0 Try.underlying22 HI.out HZ0.out HZ1.out HZ2.out _ (k + 1) (zs.take k ++ [t]) rfl HOA.out (some ⟨b, off + k, none⟩) (cap - k) (n - k) (zs.drop k) (HLD.out k) rfl HD.out (by intro h; cases h) (by omega) (by omega) ?_)
        | fail)
      intro v'' w5 hown5 hb5
      have ho : w5.ownsRow w.heap.size 3 1 v'' (insB zs t).length ((insB zs t).map (Value.int .i64)) := by
        rw [show (insB zs t).length = k + 1 + (n - k) by rw [insB_len, HN.out]; omega, HIN.out]; simpa using hown5
      have HO := Lib.hid ho; have HF := Lib.hid (HFA.out.then_below hb5)
      clear hown5 hb5 ho
      go_wp2_with fail
      go_ret
      exact ⟨_, rfl, HO.out, HF.out⟩
    · obtain rfl : k = n := by omega
      have HFA := Lib.hid hfa
      clear hfa
      cases ad with
      | none =>
        have hz := HZC.out rfl
        subst hz
        obtain rfl : k = 0 := by omega
        go_wp2_with (first
          | ((with_reducible_and_instances refine id (α := wpList _ _ _ (⟨some 50, _, _, _, _, _⟩ :: _) _ _) ?_); refine wL_appendR rfl _ _ 22 rfl w.heap.size 3 i0 Try.underlying22 HI.out HZ0.out HZ1.out HZ2.out _ (0 + 1) (zs.take 0 ++ [t]) rfl HOA.out none 0 0 [] rfl rfl (RdI.empty _ _ (by omega)) (fun _ => rfl) (by omega) (by omega) ?_)
          | fail)
        intro v'' w5 hown5 hb5
        have ho : w5.ownsRow w.heap.size 3 1 v'' (insB zs t).length ((insB zs t).map (Value.int .i64)) := by
          rw [show (insB zs t).length = 0 + 1 + 0 by rw [insB_len, HN.out], HIN.out, show zs.drop 0 = [] from List.drop_of_length_le (by rw [HN.out]; exact Nat.le_refl _)]; simpa using hown5
        have HO := Lib.hid ho; have HF := Lib.hid (HFA.out.then_below hb5)
        clear hown5 hb5 ho
        go_wp2_with fail
        go_ret
        exact ⟨_, rfl, HO.out, HF.out⟩
      | some a =>
        by_cases hcap : cap = k
        · subst hcap
          go_wp2_with (first
            | ((with_reducible_and_instances refine id (α := wpList _ _ _ (⟨some 50, _, _, _, _, _⟩ :: _) _ _) ?_); refine wL_appendR rfl _ _ 22 rfl w.heap.size 3 i0 Try.underlying22 HI.out HZ0.out HZ1.out HZ2.out _ (cap + 1) (zs.take cap ++ [t]) rfl HOA.out (some a) _ 0 [] rfl rfl (RdI.empty _ _ (by omega)) (by intro h; cases h) (by omega) (by omega) ?_)
            | fail)
          intro v'' w5 hown5 hb5
          have ho : w5.ownsRow w.heap.size 3 1 v'' (insB zs t).length ((insB zs t).map (Value.int .i64)) := by
            rw [show (insB zs t).length = cap + 1 + 0 by rw [insB_len, HN.out], HIN.out, show zs.drop cap = [] from List.drop_of_length_le (by rw [HN.out]; exact Nat.le_refl _)]; simpa using hown5
          have HO := Lib.hid ho; have HF := Lib.hid (HFA.out.then_below hb5)
          clear hown5 hb5 ho
          go_wp2_with fail
          go_ret
          exact ⟨_, rfl, HO.out, HF.out⟩
        · go_wp2_with (first
            | ((with_reducible_and_instances refine id (α := wpList _ _ _ (⟨some 50, _, _, _, _, _⟩ :: _) _ _) ?_); refine wL_appendR rfl _ _ 22 rfl w.heap.size 3 i0 Try.underlying22 HI.out HZ0.out HZ1.out HZ2.out _ (k + 1) (zs.take k ++ [t]) rfl HOA.out (some _) _ 0 [] rfl rfl (RdI.empty _ _ (by omega)) (by intro h; cases h) (by omega) (by omega) ?_)
            | fail)
          intro v'' w5 hown5 hb5
          have ho : w5.ownsRow w.heap.size 3 1 v'' (insB zs t).length ((insB zs t).map (Value.int .i64)) := by
            rw [show (insB zs t).length = k + 1 + 0 by rw [insB_len, HN.out], HIN.out, show zs.drop k = [] from List.drop_of_length_le (by rw [HN.out]; exact Nat.le_refl _)]; simpa using hown5
          have HO := Lib.hid ho; have HF := Lib.hid (HFA.out.then_below hb5)
          clear hown5 hb5 ho
          go_wp2_with fail
          go_ret
          exact ⟨_, rfl, HO.out, HF.out⟩
end Go.Proofs.Ytdbhppfpalpfmaa
