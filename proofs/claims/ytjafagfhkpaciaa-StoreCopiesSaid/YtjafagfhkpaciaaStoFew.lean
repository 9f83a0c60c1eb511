/- Stage 14's Few and call, walked. -/
import Derived.Deep.CutBlock
import Derived.Deep.OwnRows
import Derived.Laws.ResultCell
import Derived.Test.YtjafagfhkpaciaaStoAct
import Derived.Test.YtjafagfhkpaciaaStoRep
import Derived.Test.YtjafagfhkpaciaaStoPrt
import Derived.Test.YtjafagfhkpaciaaOwn
namespace Go.Proofs.Ytjafagfhkpaciaa
open Go.RowKit Go.Deep
set_option linter.unusedVariables false

theorem VecAt.row {w w' : World} {a : Option Addr} {n c : Nat} {l : List ActV} (h : VecAt ActS w a n c l) (hb : RowKit.Below w.heap.size w w') {i : Nat} (hi : i < n) : ∃ b off, a = some ⟨b, off, none⟩ ∧ ∀ j u, (ActS.f (l.getD i ActS.z))[j]? = some u → w'.cell? ⟨b, off + i * 8 + j, none⟩ = some u := by
  obtain ⟨b, off, ha, hlt, _, hc⟩ := (h.kept hb).get hi
  exact ⟨b, off, ha, hc⟩
def actC (x : ActV) : Array Value := #[.int .i64 x.ki, .string x.ky, .slice x.da x.dn x.dc, .int .i64 x.vr, .int .i64 x.at', .int .i64 x.nn, .int .i64 x.id, .int .i64 x.big]
set_option maxRecDepth 100000 in
set_option maxHeartbeats 4000000 in
theorem few_any {w : World} {a : Option Addr} {len cap : Nat} {l : List ActV} (h : VecAt ActS w a len cap l) {most : Nat} (hm : most ≤ 60) :
    Calls Try.prog 11 #[.slice a len cap, .int .i64 most] w fun e w' => e = .returned (.slice a (fewN most l 0 0) cap) ∧ Below w.heap.size w w' := by
  have HV := Lib.hid h
  have hcp := h.cap
  have hcm := h.capm
  have hll := h.len
  clear h
  go_enter Try.func11, Try.ntmps11
  go_wp2_with fail
  go_loopw [5, 10] (fun s5 s10 wr => ∃ (i sz : Nat), i ≤ len ∧ i ≤ most ∧ sz ≤ 20000 ∧ s10 = .int .i64 i ∧ s5 = .int .i64 sz ∧ Hid (fewN most l 0 0 = fewN most (l.drop i) sz i) ∧ Hid (Below w.heap.size w wr)) (fun _ s10 _ => len - (intOf s10).toNat)
  case atStart => exact ⟨0, 0, by omega, by omega, by omega, rfl, rfl, Lib.hid rfl, Lib.hid (Below.refl _ _)⟩
  case round =>
    obtain ⟨i, sz, hi, him, hsz, rfl, rfl, HF, HB⟩ := hrel
    rename World => wr
    by_cases hk : i < len
    · obtain ⟨b, off, rfl, hc⟩ := HV.out.row HB.out hk
      obtain ⟨x, hx⟩ : ∃ x, x = l.getD i ActS.z := ⟨_, rfl⟩
      rw [← hx] at hc
      have c0 : wr.cell? ⟨b, off + i * 8, none⟩ = some (.int .i64 x.ki) := hc 0 _ rfl
      have c1 := hc 1 _ rfl
      have c2 := hc 2 _ rfl
      have c3 := hc 3 _ rfl
      have c4 := hc 4 _ rfl
      have c5 := hc 5 _ rfl
      have c6 := hc 6 _ rfl
      have c7 := hc 7 _ rfl
      have HXE := Lib.hid (show l.drop i = x :: l.drop (i + 1) from by
        rw [List.drop_eq_getElem_cons (by omega), hx, List.getD_eq_getElem?_getD, List.getElem?_eq_getElem (by omega)]
        rfl)
      have zi : (i : Int) < (len : Int) := by omega
      have zi0 : (0 : Int) ≤ (i : Int) := by omega
      have wi : IntKind.i64.wrap ((i : Int) + 1) = (i : Int) + 1 := IntWalk.i64_in _ (by omega)
      clear hc hx
      obtain ⟨w3, hw3⟩ : ∃ w3, w3 = wr.alloc (.cells (actC x) 31) := ⟨_, rfl⟩
      have hk3 : w3.heap[wr.heap.size]? = some (.cells (actC x) 31 (0, 0)) := by rw [hw3]; exact heap_new wr _
      have HB3 := Lib.hid (show Below w.heap.size w w3 by rw [hw3]; exact HB.out.alloc HB.out.size _)
      have d2 := cell_blk2 hk3 (i := 2) (u := .slice x.da x.dn x.dc) rfl
      have HW3 := Lib.hid hw3
      clear hw3 hk3
      go_upto_region 5 with fail
      have hw3 := HW3.out
      unfold actC at hw3
      rw [← hw3]
      clear hw3 c0 c1 c2 c3 c4 c5 c6 c7
      go_upto_region 6 with fail
      obtain ⟨m2, hm2⟩ : ∃ m2, m2 = sz + min x.dn 300000 := ⟨_, rfl⟩
      rw [show (sz : Int) + min (x.dn : Int) 300000 = (m2 : Int) by omega]
      have hf := HF.out
      rw [HXE.out] at hf
      have him2 : i ≤ len := hi
      by_cases hs : 20000 < m2 ∨ most ≤ i
      · rw [fewN_stop (by rw [← hm2]; exact hs)] at hf
        have HFE := Lib.hid hf
        have zc : (i : Int) ≤ (cap : Int) := by omega
        clear hf HF HXE d2
        rcases (by omega : (20000 : Int) < (m2 : Int) ∨ ((m2 : Int) ≤ 20000 ∧ (most : Int) ≤ (i : Int))) with g | ⟨g, g2⟩
        all_goals
          clear hs hm2
          go_wp2_with fail
          first | go_ret2 | go_ret
          exact ⟨by rw [HFE.out]; rfl, HB3.out⟩
      · rw [fewN_step (by rw [← hm2]; exact hs), ← hm2] at hf
        have HFE := Lib.hid hf
        have g : (m2 : Int) ≤ 20000 := by omega
        have g2 : (i : Int) < (most : Int) := by omega
        clear hf HF HXE d2 hs hm2
        go_wp2_with fail
        go_roundw
        case rel => exact ⟨i + 1, m2, by omega, by omega, by omega, by push_cast; rfl, rfl, HFE, HB3⟩
        case measure => simp only [intOf]; omega
    · have e : i = len := by omega
      have hf := HF.out
      rw [List.drop_of_length_le (by omega)] at hf
      have HFE := Lib.hid (show fewN most l 0 0 = len from hf.trans e)
      clear hf
      go_wp2_with fail
      first | go_ret2 | go_ret
      exact ⟨by rw [HFE.out]; rfl, HB.out⟩
set_option maxRecDepth 100000 in
set_option maxHeartbeats 4000000 in
theorem call_any {w : World} {x : ActV} (h : ActS.ok w x) (hn : x.dn ≤ 20000) :
    Calls Try.prog 13 #[.agg (actC x)] w fun e w' => ∃ a n c xs, e = .returned (.agg #[.int .i64 x.ki, .string x.ky, .slice a n c, .int .i64 x.vr, .int .i64 x.at', .int .i64 x.nn, .int .i64 x.id]) ∧ BytesAt w' a n c xs ∧ Below w.heap.size w w' := by
  have hb := h.1.bytes (by omega)
  have HBY := Lib.hid hb
  clear h hb
  unfold actC
  go_enter Try.func13, Try.ntmps13
  obtain ⟨w3, hw3⟩ : ∃ w3, w3 = ((w.alloc (.cells (actC x) 31)).alloc (.cells #[.int .i64 0, .string { data := #[] }, .slice none 0 0, .int .i64 0, .int .i64 0, .int .i64 0, .int .i64 0] 29)).alloc (.cells #[.int .i64 x.ki, .string x.ky, .slice x.da x.dn x.dc, .int .i64 x.vr, .int .i64 x.at', .int .i64 x.nn, .int .i64 x.id] 29) := ⟨_, rfl⟩
  have hb3 : Below w.heap.size w w3 := by rw [hw3]; exact (((Below.refl _ _).alloc (Nat.le_refl _) _).alloc (by simp) _).alloc (by simp; omega) _
  have hk0 : w3.heap[w.heap.size]? = some (.cells (actC x) 31 (0, 0)) := by
    rw [hw3]
    exact (Below.heap_alloc _ _ _ (by simp; omega)).trans ((Below.heap_alloc _ _ _ (by simp)).trans (heap_new w _))
  have hk1 : w3.heap[w.heap.size + 1]? = some (.cells #[.int .i64 0, .string { data := #[] }, .slice none 0 0, .int .i64 0, .int .i64 0, .int .i64 0, .int .i64 0] 29 (0, 0)) := by
    rw [hw3]
    refine (Below.heap_alloc _ _ _ (by simp)).trans ?_
    have := heap_new (w.alloc (.cells (actC x) 31)) (.cells #[.int .i64 0, .string { data := #[] }, .slice none 0 0, .int .i64 0, .int .i64 0, .int .i64 0, .int .i64 0] 29)
    rwa [show (w.alloc (.cells (actC x) 31)).heap.size = w.heap.size + 1 from by simp] at this
  have hk2 : w3.heap[w.heap.size + 2]? = some (.cells #[.int .i64 x.ki, .string x.ky, .slice x.da x.dn x.dc, .int .i64 x.vr, .int .i64 x.at', .int .i64 x.nn, .int .i64 x.id] 29 (0, 0)) := by
    rw [hw3]
    have := heap_new ((w.alloc (.cells (actC x) 31)).alloc (.cells #[.int .i64 0, .string { data := #[] }, .slice none 0 0, .int .i64 0, .int .i64 0, .int .i64 0, .int .i64 0] 29)) (.cells #[.int .i64 x.ki, .string x.ky, .slice x.da x.dn x.dc, .int .i64 x.vr, .int .i64 x.at', .int .i64 x.nn, .int .i64 x.id] 29)
    rwa [show ((w.alloc (.cells (actC x) 31)).alloc (.cells #[.int .i64 0, .string { data := #[] }, .slice none 0 0, .int .i64 0, .int .i64 0, .int .i64 0, .int .i64 0] 29)).heap.size = w.heap.size + 2 from by simp] at this
  have b1 := cell_blk2 hk0 (i := 7) (u := .int .i64 x.big) rfl
  have HB3 := Lib.hid hb3
  have HK1 := Lib.hid hk1
  have HK2 := Lib.hid hk2
  have HW3 := Lib.hid hw3
  clear hb3 hw3 hk0 hk1 hk2
  go_upto_region 2 with fail
  have hw3 := HW3.out
  unfold actC at hw3
  rw [← hw3]
  clear hw3 HW3
  by_cases hbg : 0 < x.big
  · obtain ⟨m, hm⟩ : ∃ m : Nat, (m : Int) = min x.big 262145 := ⟨(min x.big 262145).toNat, by omega⟩
    have hm2 : m ≤ 262145 := by omega
    have hmk : (Instr.makeSlice 27 (.int .i64 (m : Int)) (.int .i64 (m : Int))).run Try.prog w3 = .ok (.slice (some ⟨w3.heap.size, 0, none⟩) m m) (w3.alloc (.cells (madeCells #[.int .u8 0] m) 5)) := run_make_row' (P := Try.prog) 27 5 (.int .u8 0) 1 Try.underlying27 (by kernel_rfl) rfl .i64 .i64 m (by omega) (by omega) w3
    rw [hm] at hmk
    obtain ⟨w4, hw4⟩ : ∃ w4, w4 = w3.alloc (.cells (madeCells #[.int .u8 0] m) 5) := ⟨_, rfl⟩
    rw [← hw4] at hmk
    have hb4 : Below w3.heap.size w3 w4 := by rw [hw4]; exact (Below.refl _ _).alloc (Nat.le_refl _) _
    have hk4 := (hb4.block _ (Array.getElem?_eq_some_iff.1 HK2.out).1).trans HK2.out
    have d2 := cell_blk2 hk4 (i := 2) (u := .slice x.da x.dn x.dc) rfl
    have e2 := fro_blk2 hk4 2
    have hby : BytesAt w4 (some ⟨w3.heap.size, 0, none⟩) m m (List.replicate m 0) := by
      refine ⟨by simp, Nat.le_refl _, (fun y hy => by rw [(List.mem_replicate.1 hy).2]; decide), by omega, by omega, (fun e => by cases e), fun hp => ⟨w3.heap.size, 0, rfl, by rw [hw4]; simp, fun i hi => ?_⟩⟩
      rw [hw4]
      refine (cell_of_row _ _ _ _ _ _ (heap_new w3 _)).trans ?_
      have h1 := toList_madeCells_one (.int .u8 0) m
      rw [Nat.zero_add, ← Array.getElem?_toList, h1]
      simp [hi]
    have HB4 := Lib.hid hb4
    have HK4 := Lib.hid hk4
    have HBY4 := Lib.hid hby
    clear hm hw4 hb4 hk4 hby HBY
    go_upto_region 4 with fail
    obtain ⟨V, hV⟩ : ∃ V, V = w4.setCell ⟨w.heap.size + 1 + 1, 2, none⟩ (.slice (some ⟨w3.heap.size, 0, none⟩) m m) := ⟨_, rfl⟩
    have hkv : V.heap[w.heap.size + 1 + 1]? = some (.cells #[.int .i64 x.ki, .string x.ky, .slice (some ⟨w3.heap.size, 0, none⟩) m m, .int .i64 x.vr, .int .i64 x.at', .int .i64 x.nn, .int .i64 x.id] 29 (0, 0)) := by
      rw [hV]; exact (heap_setCell_same w4 _ 2 _ _ _ HK4.out).trans rfl
    have hFv : Frm (fun b => b = w.heap.size + 1 + 1) w4 V := by rw [hV]; exact (Frm.refl (fun b => b = w.heap.size + 1 + 1) w4).set (p := w.heap.size + 1 + 1) (.inl rfl) 2 _
    have hrv := hFv.at ((HB4.out.block _ (Array.getElem?_eq_some_iff.1 HK1.out).1).trans HK1.out) (by omega)
    have hbv : BytesAt V (some ⟨w3.heap.size, 0, none⟩) m m (List.replicate m 0) := bytes_frm HBY4.out hFv (fun b off e hn e2 => by
      cases e
      have := (Array.getElem?_eq_some_iff.1 HK2.out).1
      omega)
    have hbe : Below w.heap.size w V := (HB3.out.trans (HB4.out.mono HB3.out.size)).trans (hFv.toBelow (HB3.out.trans (HB4.out.mono HB3.out.size)).size (fun i e => by rw [e]; omega))
    have HV := Lib.hid hV
    clear hV hFv HB4 HK4 HBY4 d2 e2 hmk b1
    rw [← HV.out]
    have s0 := cell_blk2 hkv (i := 0) (u := .int .i64 x.ki) rfl
    have s1 := cell_blk2 hkv (i := 1) (u := .string x.ky) rfl
    have s2 := cell_blk2 hkv (i := 2) (u := .slice (some ⟨w3.heap.size, 0, none⟩) m m) rfl
    have s3 := cell_blk2 hkv (i := 3) (u := .int .i64 x.vr) rfl
    have s4 := cell_blk2 hkv (i := 4) (u := .int .i64 x.at') rfl
    have s5 := cell_blk2 hkv (i := 5) (u := .int .i64 x.nn) rfl
    have s6 := cell_blk2 hkv (i := 6) (u := .int .i64 x.id) rfl
    have q0 := cell_blk2 hrv (i := 0) (u := .int .i64 0) rfl
    have q1 := cell_blk2 hrv (i := 1) (u := .string { data := #[] }) rfl
    have q2 := cell_blk2 hrv (i := 2) (u := .slice none 0 0) rfl
    have q3 := cell_blk2 hrv (i := 3) (u := .int .i64 0) rfl
    have q4 := cell_blk2 hrv (i := 4) (u := .int .i64 0) rfl
    have q5 := cell_blk2 hrv (i := 5) (u := .int .i64 0) rfl
    have q6 := cell_blk2 hrv (i := 6) (u := .int .i64 0) rfl
    have r0 := fro_blk2 hrv 0
    have r1 := fro_blk2 hrv 1
    have r2 := fro_blk2 hrv 2
    have r3 := fro_blk2 hrv 3
    have r4 := fro_blk2 hrv 4
    have r5 := fro_blk2 hrv 5
    have r6 := fro_blk2 hrv 6
    have hr5 := setR_at hrv (.int .i64 x.ki) (.string x.ky) (.slice (some ⟨w3.heap.size, 0, none⟩) m m) (.int .i64 x.vr) (.int .i64 x.at') (.int .i64 x.nn) (.int .i64 x.id)
    have hF5 := (Frm.refl (fun b => b = w.heap.size + 1) V).setR (R := w.heap.size + 1) (.inl rfl) (.int .i64 x.ki) (.string x.ky) (.slice (some ⟨w3.heap.size, 0, none⟩) m m) (.int .i64 x.vr) (.int .i64 x.at') (.int .i64 x.nn) (.int .i64 x.id)
    obtain ⟨W5, hW5⟩ : ∃ W5, W5 = setR V (w.heap.size + 1) (.int .i64 x.ki) (.string x.ky) (.slice (some ⟨w3.heap.size, 0, none⟩) m m) (.int .i64 x.vr) (.int .i64 x.at') (.int .i64 x.nn) (.int .i64 x.id) := ⟨_, rfl⟩
    rw [← hW5] at hr5 hF5
    have hbv5 := bytes_frm hbv hF5 (fun b off e hn e2 => by
      obtain ⟨b', off', ha', _, hcell⟩ := hbv.cells hn
      rw [e] at ha'
      cases ha'
      have h0 := hcell 0 hn
      rw [e2, cell_of_row V _ _ _ _ (0, 0) hrv] at h0
      rcases (by omega : off + 0 = 0 ∨ off + 0 = 1 ∨ off + 0 = 2 ∨ off + 0 = 3 ∨ off + 0 = 4 ∨ off + 0 = 5 ∨ off + 0 = 6 ∨ 7 ≤ off + 0) with g | g | g | g | g | g | g | g
      · rw [g] at h0; simp at h0
      · rw [g] at h0; simp at h0
      · rw [g] at h0; simp at h0
      · rw [g] at h0; simp at h0
      · rw [g] at h0; simp at h0
      · rw [g] at h0; simp at h0
      · rw [g] at h0; simp at h0
      · rw [Array.getElem?_eq_none (by simpa using g)] at h0; cases h0)
    have hbe5 := hbe.trans (hF5.toBelow hbe.size (fun i e => by rw [e]; omega))
    have HR5 := Lib.hid hr5
    have HBV5 := Lib.hid hbv5
    have HBE5 := Lib.hid hbe5
    have HW5 := Lib.hid hW5
    clear hkv hrv hr5 hF5 hbv hbe hbv5 hbe5 hW5
    go_wp2_with fail
    have hW5 := HW5.out
    unfold setR at hW5
    rw [← hW5]
    exact bodyPost_ret (ret_cell rfl _ _ (w.heap.size + 1) 29 _ _ _ rfl HR5.out Try.underlying29 rfl (by kernel_rfl)) rfl ⟨_, _, _, _, rfl, HBV5.out, HBE5.out⟩
  · have hbg2 : x.big ≤ 0 := by omega
    clear hbg
    go_upto_region 4 with fail
    obtain ⟨V, hV⟩ : ∃ V, V = w3 := ⟨_, rfl⟩
    rw [← hV] at HK1 HK2 HB3
    rw [← hV]
    have hkv := HK2.out
    have hrv := HK1.out
    have hbv := HBY.out.kept HB3.out
    have hbe := HB3.out
    clear hV b1 HBY
    have s0 := cell_blk2 hkv (i := 0) (u := .int .i64 x.ki) rfl
    have s1 := cell_blk2 hkv (i := 1) (u := .string x.ky) rfl
    have s2 := cell_blk2 hkv (i := 2) (u := .slice x.da x.dn x.dc) rfl
    have s3 := cell_blk2 hkv (i := 3) (u := .int .i64 x.vr) rfl
    have s4 := cell_blk2 hkv (i := 4) (u := .int .i64 x.at') rfl
    have s5 := cell_blk2 hkv (i := 5) (u := .int .i64 x.nn) rfl
    have s6 := cell_blk2 hkv (i := 6) (u := .int .i64 x.id) rfl
    have q0 := cell_blk2 hrv (i := 0) (u := .int .i64 0) rfl
    have q1 := cell_blk2 hrv (i := 1) (u := .string { data := #[] }) rfl
    have q2 := cell_blk2 hrv (i := 2) (u := .slice none 0 0) rfl
    have q3 := cell_blk2 hrv (i := 3) (u := .int .i64 0) rfl
    have q4 := cell_blk2 hrv (i := 4) (u := .int .i64 0) rfl
    have q5 := cell_blk2 hrv (i := 5) (u := .int .i64 0) rfl
    have q6 := cell_blk2 hrv (i := 6) (u := .int .i64 0) rfl
    have r0 := fro_blk2 hrv 0
    have r1 := fro_blk2 hrv 1
    have r2 := fro_blk2 hrv 2
    have r3 := fro_blk2 hrv 3
    have r4 := fro_blk2 hrv 4
    have r5 := fro_blk2 hrv 5
    have r6 := fro_blk2 hrv 6
    have hr5 := setR_at hrv (.int .i64 x.ki) (.string x.ky) (.slice x.da x.dn x.dc) (.int .i64 x.vr) (.int .i64 x.at') (.int .i64 x.nn) (.int .i64 x.id)
    have hF5 := (Frm.refl (fun b => b = w.heap.size + 1) V).setR (R := w.heap.size + 1) (.inl rfl) (.int .i64 x.ki) (.string x.ky) (.slice x.da x.dn x.dc) (.int .i64 x.vr) (.int .i64 x.at') (.int .i64 x.nn) (.int .i64 x.id)
    obtain ⟨W5, hW5⟩ : ∃ W5, W5 = setR V (w.heap.size + 1) (.int .i64 x.ki) (.string x.ky) (.slice x.da x.dn x.dc) (.int .i64 x.vr) (.int .i64 x.at') (.int .i64 x.nn) (.int .i64 x.id) := ⟨_, rfl⟩
    rw [← hW5] at hr5 hF5
    have hbv5 := bytes_frm hbv hF5 (fun b off e hn e2 => by
      obtain ⟨b', off', ha', _, hcell⟩ := hbv.cells hn
      rw [e] at ha'
      cases ha'
      have h0 := hcell 0 hn
      rw [e2, cell_of_row V _ _ _ _ (0, 0) hrv] at h0
      rcases (by omega : off + 0 = 0 ∨ off + 0 = 1 ∨ off + 0 = 2 ∨ off + 0 = 3 ∨ off + 0 = 4 ∨ off + 0 = 5 ∨ off + 0 = 6 ∨ 7 ≤ off + 0) with g | g | g | g | g | g | g | g
      · rw [g] at h0; simp at h0
      · rw [g] at h0; simp at h0
      · rw [g] at h0; simp at h0
      · rw [g] at h0; simp at h0
      · rw [g] at h0; simp at h0
      · rw [g] at h0; simp at h0
      · rw [g] at h0; simp at h0
      · rw [Array.getElem?_eq_none (by simpa using g)] at h0; cases h0)
    have hbe5 := hbe.trans (hF5.toBelow hbe.size (fun i e => by rw [e]; omega))
    have HR5 := Lib.hid hr5
    have HBV5 := Lib.hid hbv5
    have HBE5 := Lib.hid hbe5
    have HW5 := Lib.hid hW5
    clear hkv hrv hr5 hF5 hbv hbe hbv5 hbe5 hW5
    go_wp2_with fail
    have hW5 := HW5.out
    unfold setR at hW5
    rw [← hW5]
    exact bodyPost_ret (ret_cell rfl _ _ (w.heap.size + 1) 29 _ _ _ rfl HR5.out Try.underlying29 rfl (by kernel_rfl)) rfl ⟨_, _, _, _, rfl, HBV5.out, HBE5.out⟩
end Go.Proofs.Ytjafagfhkpaciaa
