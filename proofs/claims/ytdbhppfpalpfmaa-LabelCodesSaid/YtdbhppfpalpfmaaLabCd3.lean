/-
  The document's code: a set as a text of bytes.
-/
import Derived.Test.YtdbhppfpalpfmaaLabCd0
import Derived.Deep.RegionHeld3
import Derived.Deep.RegionLaw
namespace Go.Proofs.Ytdbhppfpalpfmaa
open Go.RowKit Go.MapKept
/-- append as one step of a region that draws: some bytes behind a slice of the call's own. -/
theorem step_append_bytes {P : Program} {ops : Array Oper} {o : Oper} {a : Act} {w : World} {K : Act → World → Prop} {Q : Exit → Act → World → Prop} {E : Prop}
    (hg : o.guard = none) (s x : Operand) (t : TypeId) (ho : o.op = .call { callee := .builtin .append, args := #[s, x], argTypes := #[t, t] })
    (base : Nat) (e : TypeId) (i : TypeInfo) (ht : P.underlying t = some (.slice e)) (hi : P.info? e = some i) (hz : i.zero = some (.int .u8 0)) (hsize : i.size = 1) (hby : i.bytes = 1)
    (v : Value) (n : Nat) (xs : List Int) (hs : a.eval s = v) (hown : w.ownsRow base e 1 v n (xs.map (Value.int .u8)))
    (ad : Addr) (m c : Nat) (ys : List Int) (hx : a.eval x = .slice (some ad) m c) (hm : ys.length = m) (hc : ∀ j u, (ys.map (Value.int .u8))[j]? = some u → w.cell? (ad.add j) = some u)
    (hb : n + m ≤ 1000000) (hbase : base ≤ w.heap.size)
    (h : ∀ v' w', w'.ownsRow base e 1 v' (n + m) ((xs ++ ys).map (Value.int .u8)) → Below base w w' → K (a.put o.dst v') w') :
    if Region.wanted o (yielded ops a.tmps) = true then Oper.wp P o a w K Q else E := by
  have hw : Region.wanted o (yielded ops a.tmps) = true := by simp [Region.wanted, hg]
  rw [if_pos hw]
  refine wp_append_own w s x t ho base e i (.int .u8 0) 1 1 ht hi hz hsize hby rfl (by decide) v n _ hs hown ad m c (ys.map (Value.int .u8)) hx (by simp [hm]) hc (fun u hu => by obtain ⟨y, _, rfl⟩ := List.mem_map.1 hu; rfl) (by unfold maxLen; omega) (by omega) hbase (fun v' w' h1 h2 _ => h v' w' (by rw [List.map_append]; exact h1) ((Below.refl base w).grown h2 hbase (fun k ek => ?_)))
  rcases hown.2 with ⟨rfl, _⟩ | ⟨g, cap, cur, rfl, h1, _⟩
  · simp [Value.ownBlock] at ek
  · simp only [Value.ownBlock, Option.some.injEq] at ek; subst ek; exact h1
theorem own_row (w : World) (L : List Value) (T : TypeId) (hL : L.length ≤ maxLen) : (w.alloc (.cells L.toArray T)).ownsRow w.heap.size T 1 (.slice (some ⟨w.heap.size, 0, none⟩) L.length L.length) L.length L :=
  ⟨by simp, .inr ⟨w.heap.size, L.length, L.toArray, rfl, Nat.le_refl _, heap_alloc_last w _, Nat.le_refl _, hL, by simp, by simp⟩⟩
def toU (bs : List Int) : List UInt8 := bs.map fun x => UInt8.ofNat x.toNat
theorem cel_toU {bs : List Int} (h : ∀ x ∈ bs, 0 ≤ x ∧ x < 256) : cel (toU bs) = bs.map (Value.int .u8) := by
  unfold cel toU
  rw [List.map_map]
  refine List.map_congr_left (fun x hx => ?_)
  have := h x hx
  show Value.int .u8 ((UInt8.ofNat x.toNat).toNat : Int) = Value.int .u8 x
  rw [UInt8.toNat_ofNat']
  congr 1
  omega
theorem own_text {P : Program} {src e dst : TypeId} (hs : P.underlying src = some (.slice e)) (he : P.underlying e = some (.int .u8)) (hd : P.underlying dst = some .string) {w : World} {B : Nat} {T : TypeId} {v : Value} {n : Nat} {bs : List Int} (hb : ∀ x ∈ bs, 0 ≤ x ∧ x < 256) (h : w.ownsRow B T 1 v n (bs.map (Value.int .u8))) :
    (convert src dst v).run P w = .ok (.string ⟨(toU bs).toArray⟩) w := by
  rw [← cel_toU hb] at h
  have hl : (toU bs).length = n := by have := h.1; rw [cel_length] at this; omega
  rcases h.2 with ⟨rfl, rfl⟩ | ⟨g, cap, cur, rfl, _, hg, h1, h2, h3, h4⟩
  · have e0 : toU bs = [] := List.eq_nil_of_length_eq_zero hl
    rw [e0]
    exact run_convert_bytes_nil w src e hs he 0 0 dst hd
  · refine run_toString hs he hd g 0 cap (toU bs) n hl (fun j v hv => ?_)
    rw [Nat.zero_add, box_cell hg]
    have : (cur.toList.take (n * 1))[j]? = some v := by rw [h4]; exact hv
    rw [List.getElem?_take] at this
    split at this
    · simpa using this
    · cases this
set_option maxRecDepth 100000 in
set_option maxHeartbeats 4000000 in
theorem code_calls (w : World) (ad : Option Addr) (cap : Nat) (l : List Int) (hr : RdI w ad cap l) (hl : l.length ≤ 16) :
    Calls Try.prog 63 #[.slice ad l.length cap] w fun e w' => e = .returned (.string ⟨(toU (codeB l)).toArray⟩) ∧ Fr [] w w' := by
  obtain ⟨i0, hi, hz0, hz1, hz2⟩ := info_parts (show (Try.prog.info? 5).map (fun i => (i.zero, i.size, i.bytes)) = some (some (.int .u8 0), 1, 1) by kernel_rfl)
  have hat := fun w' (hf : Fr [] w w') k hk => (hr.keep hf).cellAt (k := k) hk
  have hst := code_step l
  have hcd : codeB l = (l.length : Int) :: tagsB (l.take l.length) := by rw [List.take_length]; rfl
  have his := codeB_is l hl
  have HI := Lib.hid hi; have HZ0 := Lib.hid hz0; have HZ1 := Lib.hid hz1; have HZ2 := Lib.hid hz2
  have HAT := Lib.hid hat; have HST := Lib.hid hst; have HCD := Lib.hid hcd; have HIS := Lib.hid his
  clear hi hz0 hz1 hz2 hat hst hcd his hr
  obtain ⟨m, hm⟩ : ∃ m, l.length = m := ⟨_, rfl⟩
  rw [hm] at hl HAT HST HCD ⊢
  clear hm
  have HO0 := Lib.hid (own_row w [Value.int .u8 (m : Int)] 5 (by unfold maxLen; simp))
  go_enter Try.func63, Try.ntmps63
  go_wp2_with fail
  go_loopw [3, 4] (fun v3 v4 wr => ∃ (k : Nat) (u : Value), k ≤ m ∧ v4 = .int .i64 k ∧ u = v3 ∧ wr.ownsRow w.heap.size 5 1 u (1 + 4 * k) (((m : Int) :: tagsB (l.take k)).map (Value.int .u8)) ∧ Fr [] w wr) (fun _ v4 _ => m - (intOf v4).toNat)
  case atStart => exact ⟨0, _, by omega, rfl, rfl, by simpa [tagsB] using HO0.out, (Fr.refl [] w).alloc _⟩
  case round =>
    obtain ⟨k, u, hk, rfl, rfl, hown, hfr⟩ := hrel
    have hsz := hfr.size
    by_cases hlt : k < m
    · obtain ⟨b, off, rfl, hcell, hall⟩ := HAT.out wr hfr k hlt
      clear hall
      have hst := HST.out k hlt
      obtain ⟨x, hx⟩ : ∃ x, l.getD k 0 = x := ⟨_, rfl⟩
      rw [hx] at hcell hst
      have HCL : Hid (∀ w', Fr [] w w' → w'.cell? ⟨b, off + k, none⟩ = some (.int .i64 x)) := Lib.hid (fun w' hf => by
        obtain ⟨b', o', e', h', _⟩ := HAT.out w' hf k hlt
        cases e'
        rw [hx] at h'; exact h')
      have HS := Lib.hid hst; have HOW := Lib.hid hown; have HFR := Lib.hid hfr
      have hk0 : (0 : Int) ≤ (k : Int) := by omega
      have hk1 : (k : Int) < (m : Int) := by omega
      clear hx hst hown hfr hcell
      go_wp2_with fail
      go_region_held3 (fun w' => w'.cell? ⟨b, off + k, none⟩ = some (.int .i64 x))
        (first | exact HCL.out _ hq | exact HCL.out _ HFR.out.drew | exact HCL.out _ ((HFR.out.alloc _).drew) | exact HCL.out _ (HFR.out.drew.alloc _) | exact HCL.out _ HFR.out)
        (first | (refine step_append_bytes rfl (.tmp 15) (.tmp 39) 45 rfl w.heap.size 5 i0 Try.underlying45 HI.out HZ0.out HZ1.out HZ2.out _ (1 + 4 * k) ((m : Int) :: tagsB (l.take k)) rfl (HOW.out.alloc _) ⟨_, 0, none⟩ 4 4 (fourB x) rfl rfl (cells_new wr ((fourB x).map (Value.int .u8)) 5) (by omega) (by simp; omega) ?_; intro v' w4 hown' hb4; have hq : Fr [] w w4 := Fr.then_below2 (by first | exact (HFR.out.alloc _).drew | exact HFR.out.drew.alloc _) hb4 (Nat.le_refl _)))
      have HOA := Lib.hid hown'; have HFA := Lib.hid hq
      clear hown' hb4 hq
      go_wp2_with fail
      go_roundw
      case rel => exact ⟨k + 1, _, by omega, by go_num, rfl, by rw [HS.out, show 1 + 4 * (k + 1) = 1 + 4 * k + 4 by omega]; simpa using HOA.out, HFA.out⟩
      case measure => simp [intOf]; omega
    · obtain rfl : m = k := by omega
      have HOW := Lib.hid hown; have HFR := Lib.hid hfr
      have hcv := own_text Try.underlying45 Try.underlying5 Try.underlying9 (by rw [← HCD.out]; exact HIS.out) hown
      rw [← HCD.out] at hcv
      clear hown hfr
      go_wp2_with fail
      go_ret
      exact ⟨rfl, HFR.out⟩
end Go.Proofs.Ytdbhppfpalpfmaa
