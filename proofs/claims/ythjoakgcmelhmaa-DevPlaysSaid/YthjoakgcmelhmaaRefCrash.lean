/-
  The document's own device: Crash.
-/
import Derived.Test.YthjoakgcmelhmaaRefFlush
import Derived.Test.YthjoakgcmelhmaaDevCrash
import Derived.Test.YthjoakgcmelhmaaDevUse
namespace Go.Proofs.Ythjoakgcmelhmaa
open Go.RowKit Go.MapKept
/-- What a sector holds behind a crash. -/
def finR (ls nw : Nat → List UInt8) (wt : Nat → Bool) (flip : Bool) (zs : List Int) (len : Nat) : Nat → List UInt8 := fun j => if wt j && (decide ((j : Int) ∈ zs.take len) != flip) then nw j else ls j
def mixR {α : Type} (g h : Nat → α) (i : Nat) : Nat → α := fun j => if j < i then g j else h j
theorem mixR_step {α : Type} {g h : Nat → α} {i : Nat} {x : α} (e : x = g i) : (fun j => if j = i then x else mixR g h i j) = mixR g h (i + 1) := by
  subst e
  funext j
  unfold mixR
  by_cases e : j = i
  · simp [e]
  · by_cases l : j < i
    · have : j < i + 1 := by omega
      simp [e, l, this]
    · have : ¬ j < i + 1 := by omega
      simp [e, l, this]
theorem mixR_same {α : Type} {g h : Nat → α} {i : Nat} (e : g i = h i) : mixR g h (i + 1) = mixR g h i := by
  funext j
  unfold mixR
  by_cases e' : j = i
  · subst e'; simp [e]
  · by_cases l : j < i
    · have : j < i + 1 := by omega
      simp [l, this]
    · have : ¬ j < i + 1 := by omega
      simp [l, this]
theorem mixR_at {α : Type} (g h : Nat → α) (i : Nat) : mixR g h i i = h i := by simp [mixR]
def RCrashOK (w : World) (r b n q : Nat) (c : Int) (ls nw : Nat → List UInt8) (wt : Nat → Bool) (flip : Bool) (zs : List Int) (len : Nat) (e : Ending) (w' : World) : Prop :=
  e = .returned (.tuple #[]) ∧ Fr [r, b] w w' ∧ RefAt w' r b n q c (-1) false (finR ls nw wt flip zs len) (finR ls nw wt flip zs len) (fun _ => false)
set_option maxRecDepth 100000 in
set_option maxHeartbeats 2000000 in
theorem rcrash_calls (w : World) (r b n q : Nat) (c f : Int) (d : Bool) (ls nw : Nat → List UInt8) (wt : Nat → Bool) (h : RefAt w r b n q c f d ls nw wt) (flip : Bool) (a : Option Addr) (len cap : Nat) (zs : List Int) (hz : IntsAt w a len zs) (hm63 : len ≤ 9223372036854775807)
    (hap : 0 < len → ∀ x, a = some x → x.block ≠ r ∧ x.block ≠ b) :
    Calls Try.prog 22 #[.pointer (some ⟨r, 0, none⟩), .bool flip, .slice a len cap] w (RCrashOK w r b n q c ls nw wt flip zs len) := by
  have hnb := h.nb; have hrb := h.rb; have hbr := Ne.symm hrb
  have HD := Lib.hid h; have HZ := Lib.hid hz; have HAP := Lib.hid hap; clear h hz hap
  go_enter Try.func22, Try.ntmps22
  go_wp2_with fail
  go_loopw [6] (fun v wr => ∃ i : Nat, i ≤ n ∧ v = .int .i64 i ∧ Fr [r, b] w wr ∧ RefAt wr r b n q c f d (mixR (finR ls nw wt flip zs len) ls i) (mixR (finR ls nw wt flip zs len) nw i) (mixR (fun _ => false) wt i)) (fun v _ => n - (intOf v).toNat)
  case atStart => exact ⟨0, by omega, rfl, Fr.refl _ _, HD.out.congr (fun j _ => by simp [mixR]) (fun j _ => by simp [mixR]) (fun j _ => by simp [mixR])⟩
  case round =>
    obtain ⟨i, hi, rfl, hFr, hR⟩ := hrel
    have hc3 := box_cell hR.box; have hff := box_free hR.box; have hsf := hR.sec.free
    by_cases hlt : i < n
    · obtain ⟨h1, h2, h3⟩ := hR.sec.cells hlt
      rw [mixR_at] at h1 h2 h3
      obtain ⟨bw, hbw⟩ : ∃ bw, wt i = bw := ⟨_, rfl⟩
      rw [hbw] at h3
      have HBW := Lib.hid hbw
      have HR := Lib.hid hR; have HFr := Lib.hid hFr
      clear hR hFr hbw
      go_wp2_with fail
      go_loopw [7, 8] (fun v7 v8 wi => ∃ (k : Nat) (inb : Bool), k ≤ len ∧ v8 = .int .i64 k ∧ v7 = .bool inb ∧ inb = decide ((i : Int) ∈ zs.take k) ∧ wi = wr) (fun _ v8 _ => len - (intOf v8).toNat)
      case atStart => exact ⟨0, false, by omega, rfl, rfl, by simp, rfl⟩
      case round =>
        obtain ⟨k, inb, hk, rfl, rfl, hb0, rfl⟩ := hrel
        have HB := Lib.hid hb0
        clear hb0
        by_cases hkl : k < len
        · cases bw
          · have HIN : True := trivial
            go_wp2_with fail
            go_region
            go_wp2_with fail
            have hR := HR.out
            have hfi : finR ls nw wt flip zs len i = ls i := by simp [finR, HBW.out, HIN]
            have k1 := (hR.sec.setN i (ls i)).setW i false
            rw [← mixR_same hfi, mixR_step hfi.symm, mixR_step (α := Bool) (g := fun _ => false) (x := false) rfl] at k1
            have hF := (HFr.out.setCell (p := ⟨b, i * 3 + 1, none⟩) (.inl (by simp)) (.string ⟨(ls i).toArray⟩)).setCell (p := ⟨b, i * 3 + 2, none⟩) (.inl (by simp)) (.bool false)
            have hbox : ((wr.setCell ⟨b, i * 3 + 1, none⟩ (.string ⟨(ls i).toArray⟩)).setCell ⟨b, i * 3 + 2, none⟩ (.bool false)).heap[r]? = some (.cells #[.slice (some ⟨b, 0, none⟩) n q, .int .i64 c, .int .i64 f, .bool d] 52 (0, 0)) := by rw [heap_set_other (by simpa using hrb), heap_set_other (by simpa using hrb)]; exact hR.box
            have HR2 := Lib.hid ((RefAt.mk hbox k1 hR.rb hR.nb).keep ((Fr.refl [] _).drew) (by simp) (by simp))
            have HF3 := Lib.hid hF.drew
            clear k1 hF hbox hR
            go_roundw
            case rel => exact ⟨i + 1, by omega, by go_num, HF3.out, HR2.out⟩
            case measure => simp [intOf]; omega
          · have HTS := Lib.hid (take_succ_getD zs k (by have := HZ.out.1; omega))
            obtain ⟨kb, ko, ha, hcw⟩ := HZ.out.2 (by omega)
            have hap2 := HAP.out (by omega) _ ha
            have hcw1 := hcw k hkl
            subst ha
            simp at hap2
            have hck := cell_fr HFr.out hcw1 (by simp; omega)
            obtain ⟨z, hze⟩ : ∃ z, zs.getD k 0 = z := ⟨_, rfl⟩
            have hts := HTS.out; clear HTS
            rw [hze] at hck hts
            have HTS := Lib.hid hts; clear hts hcw hcw1 hze
            cases inb
            · by_cases hzk : z = (i : Int)
              · go_wp2_with fail
                go_roundw
                case rel => exact ⟨k + 1, true, by omega, by go_num, by simp [hzk], by simp [HTS.out, hzk], trivial⟩
                case measure => simp [intOf]; omega
              · go_wp2_with fail
                go_roundw
                case rel => exact ⟨k + 1, false, by omega, by go_num, by simp [hzk], by have hb' := (decide_eq_false_iff_not.1 HB.out.symm); simp [HTS.out, hb', Ne.symm hzk], trivial⟩
                case measure => simp [intOf]; omega
            · go_wp2_with fail
              go_roundw
              case rel => exact ⟨k + 1, true, by omega, by go_num, rfl, by have hb' := (decide_eq_true_iff.1 HB.out.symm); simp [HTS.out, hb'], trivial⟩
              case measure => simp [intOf]; omega
        · obtain rfl : len = k := by omega
          cases bw
          · have HIN : True := trivial
            go_wp2_with fail
            go_region
            go_wp2_with fail
            have hR := HR.out
            have hfi : finR ls nw wt flip zs len i = ls i := by simp [finR, HBW.out, HIN]
            have k1 := (hR.sec.setN i (ls i)).setW i false
            rw [← mixR_same hfi, mixR_step hfi.symm, mixR_step (α := Bool) (g := fun _ => false) (x := false) rfl] at k1
            have hF := (HFr.out.setCell (p := ⟨b, i * 3 + 1, none⟩) (.inl (by simp)) (.string ⟨(ls i).toArray⟩)).setCell (p := ⟨b, i * 3 + 2, none⟩) (.inl (by simp)) (.bool false)
            have hbox : ((wr.setCell ⟨b, i * 3 + 1, none⟩ (.string ⟨(ls i).toArray⟩)).setCell ⟨b, i * 3 + 2, none⟩ (.bool false)).heap[r]? = some (.cells #[.slice (some ⟨b, 0, none⟩) n q, .int .i64 c, .int .i64 f, .bool d] 52 (0, 0)) := by rw [heap_set_other (by simpa using hrb), heap_set_other (by simpa using hrb)]; exact hR.box
            have HR2 := Lib.hid ((RefAt.mk hbox k1 hR.rb hR.nb).keep ((Fr.refl [] _).drew) (by simp) (by simp))
            have HF3 := Lib.hid hF.drew
            clear k1 hF hbox hR
            go_roundw
            case rel => exact ⟨i + 1, by omega, by go_num, HF3.out, HR2.out⟩
            case measure => simp [intOf]; omega
          · have HIN := HB.out.symm
            have HIN' := Lib.hid HIN; clear HIN
            cases inb <;> cases flip
            · go_wp2_with fail
              go_region
              go_wp2_with fail
              have hR := HR.out
              have hfi : finR ls nw wt false zs len i = ls i := by simp [finR, HBW.out, HIN'.out]
              have k1 := (hR.sec.setN i (ls i)).setW i false
              rw [← mixR_same hfi, mixR_step hfi.symm, mixR_step (α := Bool) (g := fun _ => false) (x := false) rfl] at k1
              have hF := (HFr.out.setCell (p := ⟨b, i * 3 + 1, none⟩) (.inl (by simp)) (.string ⟨(ls i).toArray⟩)).setCell (p := ⟨b, i * 3 + 2, none⟩) (.inl (by simp)) (.bool false)
              have hbox : ((wr.setCell ⟨b, i * 3 + 1, none⟩ (.string ⟨(ls i).toArray⟩)).setCell ⟨b, i * 3 + 2, none⟩ (.bool false)).heap[r]? = some (.cells #[.slice (some ⟨b, 0, none⟩) n q, .int .i64 c, .int .i64 f, .bool d] 52 (0, 0)) := by rw [heap_set_other (by simpa using hrb), heap_set_other (by simpa using hrb)]; exact hR.box
              have HR2 := Lib.hid ((RefAt.mk hbox k1 hR.rb hR.nb).keep ((Fr.refl [] _).drew) (by simp) (by simp))
              have HF3 := Lib.hid hF.drew
              clear k1 hF hbox hR
              go_roundw
              case rel => exact ⟨i + 1, by omega, by go_num, HF3.out, HR2.out⟩
              case measure => simp [intOf]; omega
            · go_wp2_with fail
              go_region
              go_wp2_with fail
              go_region
              go_wp2_with fail
              have hR := HR.out
              have hfi : finR ls nw wt true zs len i = nw i := by simp [finR, HBW.out, HIN'.out]
              have k1 := ((hR.sec.setL i (nw i)).setN i (nw i)).setW i false
              rw [mixR_step hfi.symm, mixR_step hfi.symm, mixR_step (α := Bool) (g := fun _ => false) (x := false) rfl] at k1
              have hF := ((HFr.out.setCell (p := ⟨b, i * 3, none⟩) (.inl (by simp)) (.string ⟨(nw i).toArray⟩)).setCell (p := ⟨b, i * 3 + 1, none⟩) (.inl (by simp)) (.string ⟨(nw i).toArray⟩)).setCell (p := ⟨b, i * 3 + 2, none⟩) (.inl (by simp)) (.bool false)
              have hbox : (((wr.setCell ⟨b, i * 3, none⟩ (.string ⟨(nw i).toArray⟩)).setCell ⟨b, i * 3 + 1, none⟩ (.string ⟨(nw i).toArray⟩)).setCell ⟨b, i * 3 + 2, none⟩ (.bool false)).heap[r]? = some (.cells #[.slice (some ⟨b, 0, none⟩) n q, .int .i64 c, .int .i64 f, .bool d] 52 (0, 0)) := by rw [heap_set_other (by simpa using hrb), heap_set_other (by simpa using hrb), heap_set_other (by simpa using hrb)]; exact hR.box
              have HR2 := Lib.hid ((RefAt.mk hbox k1 hR.rb hR.nb).keep ((Fr.refl [] _).drew.drew) (by simp) (by simp))
              have HF3 := Lib.hid hF.drew.drew
              clear k1 hF hbox hR
              go_roundw
              case rel => exact ⟨i + 1, by omega, by go_num, HF3.out, HR2.out⟩
              case measure => simp [intOf]; omega
            · go_wp2_with fail
              go_region
              go_wp2_with fail
              go_region
              go_wp2_with fail
              have hR := HR.out
              have hfi : finR ls nw wt false zs len i = nw i := by simp [finR, HBW.out, HIN'.out]
              have k1 := ((hR.sec.setL i (nw i)).setN i (nw i)).setW i false
              rw [mixR_step hfi.symm, mixR_step hfi.symm, mixR_step (α := Bool) (g := fun _ => false) (x := false) rfl] at k1
              have hF := ((HFr.out.setCell (p := ⟨b, i * 3, none⟩) (.inl (by simp)) (.string ⟨(nw i).toArray⟩)).setCell (p := ⟨b, i * 3 + 1, none⟩) (.inl (by simp)) (.string ⟨(nw i).toArray⟩)).setCell (p := ⟨b, i * 3 + 2, none⟩) (.inl (by simp)) (.bool false)
              have hbox : (((wr.setCell ⟨b, i * 3, none⟩ (.string ⟨(nw i).toArray⟩)).setCell ⟨b, i * 3 + 1, none⟩ (.string ⟨(nw i).toArray⟩)).setCell ⟨b, i * 3 + 2, none⟩ (.bool false)).heap[r]? = some (.cells #[.slice (some ⟨b, 0, none⟩) n q, .int .i64 c, .int .i64 f, .bool d] 52 (0, 0)) := by rw [heap_set_other (by simpa using hrb), heap_set_other (by simpa using hrb), heap_set_other (by simpa using hrb)]; exact hR.box
              have HR2 := Lib.hid ((RefAt.mk hbox k1 hR.rb hR.nb).keep ((Fr.refl [] _).drew.drew) (by simp) (by simp))
              have HF3 := Lib.hid hF.drew.drew
              clear k1 hF hbox hR
              go_roundw
              case rel => exact ⟨i + 1, by omega, by go_num, HF3.out, HR2.out⟩
              case measure => simp [intOf]; omega
            · go_wp2_with fail
              go_region
              go_wp2_with fail
              have hR := HR.out
              have hfi : finR ls nw wt true zs len i = ls i := by simp [finR, HBW.out, HIN'.out]
              have k1 := (hR.sec.setN i (ls i)).setW i false
              rw [← mixR_same hfi, mixR_step hfi.symm, mixR_step (α := Bool) (g := fun _ => false) (x := false) rfl] at k1
              have hF := (HFr.out.setCell (p := ⟨b, i * 3 + 1, none⟩) (.inl (by simp)) (.string ⟨(ls i).toArray⟩)).setCell (p := ⟨b, i * 3 + 2, none⟩) (.inl (by simp)) (.bool false)
              have hbox : ((wr.setCell ⟨b, i * 3 + 1, none⟩ (.string ⟨(ls i).toArray⟩)).setCell ⟨b, i * 3 + 2, none⟩ (.bool false)).heap[r]? = some (.cells #[.slice (some ⟨b, 0, none⟩) n q, .int .i64 c, .int .i64 f, .bool d] 52 (0, 0)) := by rw [heap_set_other (by simpa using hrb), heap_set_other (by simpa using hrb)]; exact hR.box
              have HR2 := Lib.hid ((RefAt.mk hbox k1 hR.rb hR.nb).keep ((Fr.refl [] _).drew) (by simp) (by simp))
              have HF3 := Lib.hid hF.drew
              clear k1 hF hbox hR
              go_roundw
              case rel => exact ⟨i + 1, by omega, by go_num, HF3.out, HR2.out⟩
              case measure => simp [intOf]; omega
    · obtain rfl : n = i := by omega
      have hR' := hR.reboxed ((Fr.refl _ _).setCell (.inl (by simp)) _) (box_set hR.box 2 (.int .i64 (-1)))
      have hR2 := hR'.reboxed ((Fr.refl _ _).setCell (.inl (by simp)) _) (box_set hR'.box 3 (.bool false))
      have HR2 := Lib.hid (hR2.congr (ls' := finR ls nw wt flip zs len) (nw' := finR ls nw wt flip zs len) (wt' := fun _ => false) (fun j hj => by simp [mixR, hj]) (fun j hj => by simp [mixR, hj]) (fun j hj => by simp [mixR, hj]))
      have HFr := Lib.hid ((hFr.setCell (p := ⟨r, 2, none⟩) (.inl (by simp)) (.int .i64 (-1))).setCell (p := ⟨r, 3, none⟩) (.inl (by simp)) (.bool false))
      clear hR hR' hR2 hFr
      go_wp2_with fail
      go_end0
      exact ⟨rfl, HFr.out, HR2.out⟩
end Go.Proofs.Ythjoakgcmelhmaa
