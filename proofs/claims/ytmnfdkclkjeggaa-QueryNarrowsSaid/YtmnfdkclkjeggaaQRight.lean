/- query.Right, query.keeps, query.Keeps, and the document's, walked. Written by genqright.py. -/
import Derived.Test.YtmnfdkclkjeggaaQPlain
import Derived.Test.YtmnfdkclkjeggaaLabMeet3
namespace Go.Proofs.Ytmnfdkclkjeggaa
open Go.RowKit LabPlain RecPlain Stab
set_option linter.unusedVariables false

set_option maxRecDepth 100000 in
set_option maxHeartbeats 2000000 in
theorem qright_any {w : World} {a : Option Addr} {n c : Nat} {ms : List Mat} {fr to lim : Int} {tx : Bool} (h : MatsAt w a n c ms) :
    Calls Try.prog 42 #[.agg #[.int .i64 fr, .int .i64 to, .slice a n c, .int .i64 lim, .bool tx]] w fun e w' => e = .returned (.bool (qRight (⟨fr, to, ms, lim, tx⟩ : QP))) ∧ Below w.heap.size w w' := by
  have HL := Lib.hid h.len
  have hcap := h.cap
  have hcm := h.capm
  have hb1 : Below w.heap.size w (w.alloc (.cells #[.int .i64 fr, .int .i64 to, .slice a n c, .int .i64 lim, .bool tx] 59)) := (Below.refl _ _).alloc (Nat.le_refl _) _
  have HB1 := Lib.hid hb1
  have HH := Lib.hid (h.keep hb1 (Nat.le_refl _))
  clear h hb1
  by_cases h0 : fr < 0
  case pos =>
    have HE := Lib.hid (show qRight (⟨fr, to, ms, lim, tx⟩ : QP) = false from qRight_no (by have := HL.out; show ¬ (0 ≤ fr ∧ fr ≤ to ∧ to ≤ 1099511627776 ∧ ms.length ≤ 8 ∧ 0 ≤ lim ∧ lim ≤ 2048); omega))
    go_enter Try.func42, Try.ntmps42
    go_wp2_with fail
    go_ret
    rw [HE.out]
    exact ⟨rfl, HB1.out⟩
  case neg =>
    by_cases h1 : to < fr
    case pos =>
      have HE := Lib.hid (show qRight (⟨fr, to, ms, lim, tx⟩ : QP) = false from qRight_no (by have := HL.out; show ¬ (0 ≤ fr ∧ fr ≤ to ∧ to ≤ 1099511627776 ∧ ms.length ≤ 8 ∧ 0 ≤ lim ∧ lim ≤ 2048); omega))
      go_enter Try.func42, Try.ntmps42
      go_wp2_with fail
      go_ret
      rw [HE.out]
      exact ⟨rfl, HB1.out⟩
    case neg =>
      by_cases h2 : 1099511627776 < to
      case pos =>
        have HE := Lib.hid (show qRight (⟨fr, to, ms, lim, tx⟩ : QP) = false from qRight_no (by have := HL.out; show ¬ (0 ≤ fr ∧ fr ≤ to ∧ to ≤ 1099511627776 ∧ ms.length ≤ 8 ∧ 0 ≤ lim ∧ lim ≤ 2048); omega))
        go_enter Try.func42, Try.ntmps42
        go_wp2_with fail
        go_ret
        rw [HE.out]
        exact ⟨rfl, HB1.out⟩
      case neg =>
        by_cases h3 : (8 : Int) < (n : Int)
        case pos =>
          have HE := Lib.hid (show qRight (⟨fr, to, ms, lim, tx⟩ : QP) = false from qRight_no (by have := HL.out; show ¬ (0 ≤ fr ∧ fr ≤ to ∧ to ≤ 1099511627776 ∧ ms.length ≤ 8 ∧ 0 ≤ lim ∧ lim ≤ 2048); omega))
          go_enter Try.func42, Try.ntmps42
          go_wp2_with fail
          go_ret
          rw [HE.out]
          exact ⟨rfl, HB1.out⟩
        case neg =>
          by_cases h4 : lim < 0
          case pos =>
            have HE := Lib.hid (show qRight (⟨fr, to, ms, lim, tx⟩ : QP) = false from qRight_no (by have := HL.out; show ¬ (0 ≤ fr ∧ fr ≤ to ∧ to ≤ 1099511627776 ∧ ms.length ≤ 8 ∧ 0 ≤ lim ∧ lim ≤ 2048); omega))
            go_enter Try.func42, Try.ntmps42
            go_wp2_with fail
            go_ret
            rw [HE.out]
            exact ⟨rfl, HB1.out⟩
          case neg =>
            by_cases h5 : 2048 < lim
            case pos =>
              have HE := Lib.hid (show qRight (⟨fr, to, ms, lim, tx⟩ : QP) = false from qRight_no (by have := HL.out; show ¬ (0 ≤ fr ∧ fr ≤ to ∧ to ≤ 1099511627776 ∧ ms.length ≤ 8 ∧ 0 ≤ lim ∧ lim ≤ 2048); omega))
              go_enter Try.func42, Try.ntmps42
              go_wp2_with fail
              go_ret
              rw [HE.out]
              exact ⟨rfl, HB1.out⟩
            case neg =>
              have HC := Lib.hid (show 0 ≤ fr ∧ fr ≤ to ∧ to ≤ 1099511627776 ∧ ms.length ≤ 8 ∧ 0 ≤ lim ∧ lim ≤ 2048 from by have := HL.out; omega)
              go_enter Try.func42, Try.ntmps42
              go_wp2_with fail
              go_loopw [4, 39] (fun s4 s39 wr => ∃ k : Nat, k ≤ n ∧ s39 = .int .i64 (k : Int) ∧ Hid (∀ i, i < k → asksB (ms.getD i mat0) = true) ∧ Hid (Below (w.alloc (.cells #[.int .i64 fr, .int .i64 to, .slice a n c, .int .i64 lim, .bool tx] 59)).heap.size (w.alloc (.cells #[.int .i64 fr, .int .i64 to, .slice a n c, .int .i64 lim, .bool tx] 59)) wr)) (fun _ s39 _ => n - (intOf s39).toNat)
              case atStart => exact ⟨0, by omega, rfl, Lib.hid (fun i hi => absurd hi (Nat.not_lt_zero _)), Lib.hid (Below.refl _ _)⟩
              case round =>
                obtain ⟨k, hkn, rfl, HA, HB⟩ := hrel
                rename World => wr
                by_cases hlt : k < n
                · have hlti : (k : Int) < (n : Int) := by omega
                  have hm := HH.out.keep HB.out (Nat.le_refl _)
                  obtain ⟨b, off, rfl, hltb, hc3⟩ := hm.cells (by omega)
                  obtain ⟨d0, d1, d2⟩ := hc3 k hlt
                  obtain ⟨⟨nm, wy, vl⟩, hx⟩ : ∃ x : Mat, x = ms.getD k mat0 := ⟨_, rfl⟩
                  rw [← hx] at d0 d1 d2
                  have hsz := hm.size (nm, wy, vl) (by rw [hx]; have hl := HL.out; have : ms.getD k mat0 = ms[k]'(by omega) := by simp [show k < ms.length by omega]
                                                       rw [this]; exact List.getElem_mem _)
                  simp only at d0 d1 d2 hsz
                  have HX := Lib.hid hx
                  have HB2 := Lib.hid (HB.out.alloc HB.out.size (.cells #[.string nm, .int .i64 wy, .string vl] 33))
                  clear hm hc3 hx hltb
                  go_wp2_with fail
                  refine (asks_any nm vl wy hsz.1 hsz.2 _).mono ?_
                  rintro e w3 ⟨rfl, hb3⟩
                  have HB3 := Lib.hid (HB2.out.trans (hb3.mono HB2.out.size))
                  clear hb3
                  cases ha : asksB (nm, wy, vl) with
                  | false =>
                    have HE := Lib.hid (show qRight (⟨fr, to, ms, lim, tx⟩ : QP) = false from by
                      cases e : qRight (⟨fr, to, ms, lim, tx⟩ : QP) with
                      | false => rfl
                      | true =>
                        have h1 := (qRight_iff.1 e).2
                        have h2 := all_not (l := ms) (i := k) (by have := HL.out; omega) (by rw [← HX.out]; exact ha)
                        rw [h2] at h1; cases h1)
                    clear ha
                    go_wp2_with fail
                    go_ret
                    rw [HE.out]
                    exact ⟨rfl, HB1.out.trans (HB3.out.mono HB1.out.size)⟩
                  | true =>
                    have HA3 := Lib.hid (show ∀ i, i < k + 1 → asksB (ms.getD i mat0) = true from fun i hi => by
                      by_cases e : i = k
                      · rw [e, ← HX.out]; exact ha
                      · exact HA.out i (by omega))
                    clear ha
                    go_wp2_with fail
                    go_roundw
                    case rel => exact ⟨k + 1, by omega, by go_num, HA3, HB3⟩
                    case measure => simp [intOf]; omega
                · obtain rfl : k = n := by omega
                  have HE := Lib.hid (show qRight (⟨fr, to, ms, lim, tx⟩ : QP) = true from qRight_iff.2 ⟨HC.out, all_get HL.out HA.out⟩)
                  go_wp2_with fail
                  go_ret
                  rw [HE.out]
                  exact ⟨rfl, HB1.out.trans (HB.out.mono HB1.out.size)⟩
set_option maxRecDepth 100000 in
set_option maxHeartbeats 2000000 in
theorem rqright_any {w : World} {a : Option Addr} {n c : Nat} {ms : List Mat} {fr to lim : Int} {tx : Bool} (h : MatsAt w a n c ms) :
    Calls Try.prog 43 #[.agg #[.int .i64 fr, .int .i64 to, .slice a n c, .int .i64 lim, .bool tx]] w fun e w' => e = .returned (.bool (qRight (⟨fr, to, ms, lim, tx⟩ : QP))) ∧ Below w.heap.size w w' := by
  have HL := Lib.hid h.len
  have hcap := h.cap
  have hcm := h.capm
  have hb1 : Below w.heap.size w (w.alloc (.cells #[.int .i64 fr, .int .i64 to, .slice a n c, .int .i64 lim, .bool tx] 59)) := (Below.refl _ _).alloc (Nat.le_refl _) _
  have HB1 := Lib.hid hb1
  have HH := Lib.hid (h.keep hb1 (Nat.le_refl _))
  clear h hb1
  by_cases h0 : fr < 0
  case pos =>
    have HE := Lib.hid (show qRight (⟨fr, to, ms, lim, tx⟩ : QP) = false from qRight_no (by have := HL.out; show ¬ (0 ≤ fr ∧ fr ≤ to ∧ to ≤ 1099511627776 ∧ ms.length ≤ 8 ∧ 0 ≤ lim ∧ lim ≤ 2048); omega))
    go_enter Try.func43, Try.ntmps43
    go_wp2_with fail
    go_ret
    rw [HE.out]
    exact ⟨rfl, HB1.out⟩
  case neg =>
    by_cases h1 : to < fr
    case pos =>
      have HE := Lib.hid (show qRight (⟨fr, to, ms, lim, tx⟩ : QP) = false from qRight_no (by have := HL.out; show ¬ (0 ≤ fr ∧ fr ≤ to ∧ to ≤ 1099511627776 ∧ ms.length ≤ 8 ∧ 0 ≤ lim ∧ lim ≤ 2048); omega))
      go_enter Try.func43, Try.ntmps43
      go_wp2_with fail
      go_ret
      rw [HE.out]
      exact ⟨rfl, HB1.out⟩
    case neg =>
      by_cases h2 : 1099511627776 < to
      case pos =>
        have HE := Lib.hid (show qRight (⟨fr, to, ms, lim, tx⟩ : QP) = false from qRight_no (by have := HL.out; show ¬ (0 ≤ fr ∧ fr ≤ to ∧ to ≤ 1099511627776 ∧ ms.length ≤ 8 ∧ 0 ≤ lim ∧ lim ≤ 2048); omega))
        go_enter Try.func43, Try.ntmps43
        go_wp2_with fail
        go_ret
        rw [HE.out]
        exact ⟨rfl, HB1.out⟩
      case neg =>
        by_cases h3 : (8 : Int) < (n : Int)
        case pos =>
          have HE := Lib.hid (show qRight (⟨fr, to, ms, lim, tx⟩ : QP) = false from qRight_no (by have := HL.out; show ¬ (0 ≤ fr ∧ fr ≤ to ∧ to ≤ 1099511627776 ∧ ms.length ≤ 8 ∧ 0 ≤ lim ∧ lim ≤ 2048); omega))
          go_enter Try.func43, Try.ntmps43
          go_wp2_with fail
          go_ret
          rw [HE.out]
          exact ⟨rfl, HB1.out⟩
        case neg =>
          by_cases h4 : lim < 0
          case pos =>
            have HE := Lib.hid (show qRight (⟨fr, to, ms, lim, tx⟩ : QP) = false from qRight_no (by have := HL.out; show ¬ (0 ≤ fr ∧ fr ≤ to ∧ to ≤ 1099511627776 ∧ ms.length ≤ 8 ∧ 0 ≤ lim ∧ lim ≤ 2048); omega))
            go_enter Try.func43, Try.ntmps43
            go_wp2_with fail
            go_ret
            rw [HE.out]
            exact ⟨rfl, HB1.out⟩
          case neg =>
            by_cases h5 : 2048 < lim
            case pos =>
              have HE := Lib.hid (show qRight (⟨fr, to, ms, lim, tx⟩ : QP) = false from qRight_no (by have := HL.out; show ¬ (0 ≤ fr ∧ fr ≤ to ∧ to ≤ 1099511627776 ∧ ms.length ≤ 8 ∧ 0 ≤ lim ∧ lim ≤ 2048); omega))
              go_enter Try.func43, Try.ntmps43
              go_wp2_with fail
              go_ret
              rw [HE.out]
              exact ⟨rfl, HB1.out⟩
            case neg =>
              have HC := Lib.hid (show 0 ≤ fr ∧ fr ≤ to ∧ to ≤ 1099511627776 ∧ ms.length ≤ 8 ∧ 0 ≤ lim ∧ lim ≤ 2048 from by have := HL.out; omega)
              go_enter Try.func43, Try.ntmps43
              go_wp2_with fail
              go_loopw [4, 39] (fun s4 s39 wr => ∃ k : Nat, k ≤ n ∧ s39 = .int .i64 (k : Int) ∧ Hid (∀ i, i < k → asksB (ms.getD i mat0) = true) ∧ Hid (Below (w.alloc (.cells #[.int .i64 fr, .int .i64 to, .slice a n c, .int .i64 lim, .bool tx] 59)).heap.size (w.alloc (.cells #[.int .i64 fr, .int .i64 to, .slice a n c, .int .i64 lim, .bool tx] 59)) wr)) (fun _ s39 _ => n - (intOf s39).toNat)
              case atStart => exact ⟨0, by omega, rfl, Lib.hid (fun i hi => absurd hi (Nat.not_lt_zero _)), Lib.hid (Below.refl _ _)⟩
              case round =>
                obtain ⟨k, hkn, rfl, HA, HB⟩ := hrel
                rename World => wr
                by_cases hlt : k < n
                · have hlti : (k : Int) < (n : Int) := by omega
                  have hm := HH.out.keep HB.out (Nat.le_refl _)
                  obtain ⟨b, off, rfl, hltb, hc3⟩ := hm.cells (by omega)
                  obtain ⟨d0, d1, d2⟩ := hc3 k hlt
                  obtain ⟨⟨nm, wy, vl⟩, hx⟩ : ∃ x : Mat, x = ms.getD k mat0 := ⟨_, rfl⟩
                  rw [← hx] at d0 d1 d2
                  have hsz := hm.size (nm, wy, vl) (by rw [hx]; have hl := HL.out; have : ms.getD k mat0 = ms[k]'(by omega) := by simp [show k < ms.length by omega]
                                                       rw [this]; exact List.getElem_mem _)
                  simp only at d0 d1 d2 hsz
                  have HX := Lib.hid hx
                  have HB2 := Lib.hid (HB.out.alloc HB.out.size (.cells #[.string nm, .int .i64 wy, .string vl] 33))
                  clear hm hc3 hx hltb
                  go_wp2_with fail
                  refine (rasks_any nm vl wy hsz.1 hsz.2 _).mono ?_
                  rintro e w3 ⟨rfl, hb3⟩
                  have HB3 := Lib.hid (HB2.out.trans (hb3.mono HB2.out.size))
                  clear hb3
                  cases ha : asksB (nm, wy, vl) with
                  | false =>
                    have HE := Lib.hid (show qRight (⟨fr, to, ms, lim, tx⟩ : QP) = false from by
                      cases e : qRight (⟨fr, to, ms, lim, tx⟩ : QP) with
                      | false => rfl
                      | true =>
                        have h1 := (qRight_iff.1 e).2
                        have h2 := all_not (l := ms) (i := k) (by have := HL.out; omega) (by rw [← HX.out]; exact ha)
                        rw [h2] at h1; cases h1)
                    clear ha
                    go_wp2_with fail
                    go_ret
                    rw [HE.out]
                    exact ⟨rfl, HB1.out.trans (HB3.out.mono HB1.out.size)⟩
                  | true =>
                    have HA3 := Lib.hid (show ∀ i, i < k + 1 → asksB (ms.getD i mat0) = true from fun i hi => by
                      by_cases e : i = k
                      · rw [e, ← HX.out]; exact ha
                      · exact HA.out i (by omega))
                    clear ha
                    go_wp2_with fail
                    go_roundw
                    case rel => exact ⟨k + 1, by omega, by go_num, HA3, HB3⟩
                    case measure => simp [intOf]; omega
                · obtain rfl : k = n := by omega
                  have HE := Lib.hid (show qRight (⟨fr, to, ms, lim, tx⟩ : QP) = true from qRight_iff.2 ⟨HC.out, all_get HL.out HA.out⟩)
                  go_wp2_with fail
                  go_ret
                  rw [HE.out]
                  exact ⟨rfl, HB1.out.trans (HB.out.mono HB1.out.size)⟩
set_option maxRecDepth 100000 in
set_option maxHeartbeats 2000000 in
theorem qkeeps_any {w : World} {a : Option Addr} {n c : Nat} {ms : List Mat} {fr to lim : Int} {tx : Bool} (h : MatsAt w a n c ms) {x : RowV} (hl : LabsAt w x.r.la x.r.ln x.r.lc x.r.labs) :
    Calls Try.prog 64 #[.agg #[.int .i64 fr, .int .i64 to, .slice a n c, .int .i64 lim, .bool tx], .agg #[.int .i64 x.r.kind, .int .i64 x.r.time, .slice x.r.la x.r.ln x.r.lc, .string x.r.text, .int .i64 x.r.value, .bool x.r.null, .int .i64 x.who, .int .i64 x.sq, .int .i64 x.pl]] w fun e w' => e = .returned (.bool (keepS (⟨fr, to, ms, lim, tx⟩ : QP) x.says)) ∧ Below w.heap.size w w' := by
  have hb1 : Below w.heap.size w (w.alloc (.cells #[.int .i64 fr, .int .i64 to, .slice a n c, .int .i64 lim, .bool tx] 59)) := (Below.refl _ _).alloc (Nat.le_refl _) _
  have hb2 : Below w.heap.size w ((w.alloc (.cells #[.int .i64 fr, .int .i64 to, .slice a n c, .int .i64 lim, .bool tx] 59)).alloc (.cells #[.int .i64 x.r.kind, .int .i64 x.r.time, .slice x.r.la x.r.ln x.r.lc, .string x.r.text, .int .i64 x.r.value, .bool x.r.null, .int .i64 x.who, .int .i64 x.sq, .int .i64 x.pl] 51)) := hb1.alloc hb1.size _
  have HB := Lib.hid hb2
  have HM := Lib.hid (h.keep hb2 (Nat.le_refl _))
  have HL := Lib.hid (hl.kept hb2)
  clear h hl hb1 hb2
  by_cases c1 : fr ≤ x.r.time
  case neg =>
    have z1 : decide (fr ≤ x.r.time) = false := decide_eq_false c1
    have HE := Lib.hid (show keepS (⟨fr, to, ms, lim, tx⟩ : QP) x.says = false from by unfold keepS RowV.says; simp [c1])
    go_enter Try.func64, Try.ntmps64
    go_wp2_with fail
    go_ret
    rw [HE.out]
    exact ⟨rfl, HB.out⟩
  case pos =>
    have z1 : decide (fr ≤ x.r.time) = true := decide_eq_true c1
    by_cases c2 : x.r.time < to
    case neg =>
      have z2 : decide (x.r.time < to) = false := decide_eq_false c2
      have HE := Lib.hid (show keepS (⟨fr, to, ms, lim, tx⟩ : QP) x.says = false from by unfold keepS RowV.says; simp [c2])
      go_enter Try.func64, Try.ntmps64
      go_wp2_with fail
      go_ret
      rw [HE.out]
      exact ⟨rfl, HB.out⟩
    case pos =>
      have z2 : decide (x.r.time < to) = true := decide_eq_true c2
      have HE := Lib.hid (show keepS (⟨fr, to, ms, lim, tx⟩ : QP) x.says = meetsB x.r.labs ms from by unfold keepS RowV.says; simp [c1, c2])
      go_enter Try.func64, Try.ntmps64
      go_wp2_with fail
      refine (meets_any HL.out HM.out).mono ?_
      rintro e w3 ⟨rfl, hb3⟩
      have HB3 := Lib.hid (HB.out.trans (hb3.mono HB.out.size))
      clear hb3
      go_wp2_with fail
      go_ret
      rw [HE.out]
      exact ⟨rfl, HB3.out⟩
set_option maxRecDepth 100000 in
set_option maxHeartbeats 2000000 in
theorem qKeeps_any {w : World} {a : Option Addr} {n c : Nat} {ms : List Mat} {fr to lim : Int} {tx : Bool} (h : MatsAt w a n c ms) {x : RowV} (hl : LabsAt w x.r.la x.r.ln x.r.lc x.r.labs) :
    Calls Try.prog 45 #[.agg #[.int .i64 fr, .int .i64 to, .slice a n c, .int .i64 lim, .bool tx], .agg #[.int .i64 x.r.kind, .int .i64 x.r.time, .slice x.r.la x.r.ln x.r.lc, .string x.r.text, .int .i64 x.r.value, .bool x.r.null, .int .i64 x.who, .int .i64 x.sq, .int .i64 x.pl]] w fun e w' => e = .returned (.bool (qRight (⟨fr, to, ms, lim, tx⟩ : QP) && keepS (⟨fr, to, ms, lim, tx⟩ : QP) x.says)) ∧ Below w.heap.size w w' := by
  obtain ⟨w2, hw2⟩ : ∃ w2, w2 = (w.alloc (.cells #[.int .i64 fr, .int .i64 to, .slice a n c, .int .i64 lim, .bool tx] 59)).alloc (.cells #[.int .i64 x.r.kind, .int .i64 x.r.time, .slice x.r.la x.r.ln x.r.lc, .string x.r.text, .int .i64 x.r.value, .bool x.r.null, .int .i64 x.who, .int .i64 x.sq, .int .i64 x.pl] 51) := ⟨_, rfl⟩
  have s1 : (w.alloc (.cells #[.int .i64 fr, .int .i64 to, .slice a n c, .int .i64 lim, .bool tx] 59)).heap.size = w.heap.size + 1 := Array.size_push _
  have hb1 : Below w.heap.size w (w.alloc (.cells #[.int .i64 fr, .int .i64 to, .slice a n c, .int .i64 lim, .bool tx] 59)) := (Below.refl _ _).alloc (Nat.le_refl _) _
  have hb2 : Below w.heap.size w w2 := by rw [hw2]; exact hb1.alloc hb1.size _
  have hq : ∀ w3, Below w2.heap.size w2 w3 → Below (w.alloc (.cells #[.int .i64 fr, .int .i64 to, .slice a n c, .int .i64 lim, .bool tx] 59)).heap.size (w.alloc (.cells #[.int .i64 fr, .int .i64 to, .slice a n c, .int .i64 lim, .bool tx] 59)) w3 := fun w3 h3 => by
    have hb12 : Below (w.alloc (.cells #[.int .i64 fr, .int .i64 to, .slice a n c, .int .i64 lim, .bool tx] 59)).heap.size (w.alloc (.cells #[.int .i64 fr, .int .i64 to, .slice a n c, .int .i64 lim, .bool tx] 59)) w2 := by rw [hw2]; exact (Below.refl _ _).alloc (Nat.le_refl _) _
    exact hb12.trans (h3.mono hb12.size)
  have hx : ∀ w3, Below w2.heap.size w2 w3 → ∀ j u, (#[.int .i64 x.r.kind, .int .i64 x.r.time, .slice x.r.la x.r.ln x.r.lc, .string x.r.text, .int .i64 x.r.value, .bool x.r.null, .int .i64 x.who, .int .i64 x.sq, .int .i64 x.pl] : Array Value)[j]? = some u → w3.cell? ⟨w.heap.size + 1, j, none⟩ = some u := fun w3 h3 j u hu => by
    rw [hw2] at h3
    rw [← s1]
    exact box_cell h3 hu
  have HQ := Lib.hid hq
  have HX := Lib.hid hx
  have HB := Lib.hid hb2
  have HM := Lib.hid (h.keep hb2 (Nat.le_refl _))
  have HL := Lib.hid (hl.kept hb2)
  have HW := Lib.hid hw2
  clear h hl hb1 hb2 hq hx hw2
  go_enter Try.func45, Try.ntmps45
  go_wp2_with fail
  rw [← HW.out]
  refine (qright_any HM.out).mono ?_
  rintro e w3 ⟨rfl, hb3⟩
  have q0 : w3.cell? ⟨w.heap.size, 0, none⟩ = some (.int .i64 fr) := box_cell (HQ.out _ hb3) rfl
  have q1 : w3.cell? ⟨w.heap.size, 1, none⟩ = some (.int .i64 to) := box_cell (HQ.out _ hb3) rfl
  have q2 : w3.cell? ⟨w.heap.size, 2, none⟩ = some (.slice a n c) := box_cell (HQ.out _ hb3) rfl
  have q3 : w3.cell? ⟨w.heap.size, 3, none⟩ = some (.int .i64 lim) := box_cell (HQ.out _ hb3) rfl
  have q4 : w3.cell? ⟨w.heap.size, 4, none⟩ = some (.bool tx) := box_cell (HQ.out _ hb3) rfl
  have x0 : w3.cell? ⟨w.heap.size + 1, 0, none⟩ = some (.int .i64 x.r.kind) := HX.out _ hb3 0 _ rfl
  have x1 : w3.cell? ⟨w.heap.size + 1, 1, none⟩ = some (.int .i64 x.r.time) := HX.out _ hb3 1 _ rfl
  have x2 : w3.cell? ⟨w.heap.size + 1, 2, none⟩ = some (.slice x.r.la x.r.ln x.r.lc) := HX.out _ hb3 2 _ rfl
  have x3 : w3.cell? ⟨w.heap.size + 1, 3, none⟩ = some (.string x.r.text) := HX.out _ hb3 3 _ rfl
  have x4 : w3.cell? ⟨w.heap.size + 1, 4, none⟩ = some (.int .i64 x.r.value) := HX.out _ hb3 4 _ rfl
  have x5 : w3.cell? ⟨w.heap.size + 1, 5, none⟩ = some (.bool x.r.null) := HX.out _ hb3 5 _ rfl
  have x6 : w3.cell? ⟨w.heap.size + 1, 6, none⟩ = some (.int .i64 x.who) := HX.out _ hb3 6 _ rfl
  have x7 : w3.cell? ⟨w.heap.size + 1, 7, none⟩ = some (.int .i64 x.sq) := HX.out _ hb3 7 _ rfl
  have x8 : w3.cell? ⟨w.heap.size + 1, 8, none⟩ = some (.int .i64 x.pl) := HX.out _ hb3 8 _ rfl
  have HB3 := Lib.hid (HB.out.trans (hb3.mono HB.out.size))
  have HM3 := Lib.hid (HM.out.keep hb3 (Nat.le_refl _))
  have HL3 := Lib.hid (HL.out.kept hb3)
  clear hb3
  cases hr : qRight (⟨fr, to, ms, lim, tx⟩ : QP) with
  | false =>
    have HR := Lib.hid hr
    clear hr
    go_wp2_with fail
    go_ret
    rw [HR.out]
    exact ⟨rfl, HB3.out⟩
  | true =>
    have HR := Lib.hid hr
    clear hr
    go_wp2_with fail
    refine (qkeeps_any HM3.out HL3.out).mono ?_
    rintro e w4 ⟨rfl, hb4⟩
    have HB4 := Lib.hid (HB3.out.trans (hb4.mono HB3.out.size))
    clear hb4
    go_wp2_with fail
    go_ret
    rw [HR.out, Bool.true_and]
    exact ⟨rfl, HB4.out⟩
set_option maxRecDepth 100000 in
set_option maxHeartbeats 2000000 in
theorem rKeeps_any {w : World} {a : Option Addr} {n c : Nat} {ms : List Mat} {fr to lim : Int} {tx : Bool} (h : MatsAt w a n c ms) {x : RowV} (hl : LabsAt w x.r.la x.r.ln x.r.lc x.r.labs) :
    Calls Try.prog 46 #[.agg #[.int .i64 fr, .int .i64 to, .slice a n c, .int .i64 lim, .bool tx], .agg #[.int .i64 x.r.kind, .int .i64 x.r.time, .slice x.r.la x.r.ln x.r.lc, .string x.r.text, .int .i64 x.r.value, .bool x.r.null, .int .i64 x.who, .int .i64 x.sq, .int .i64 x.pl]] w fun e w' => e = .returned (.bool (qRight (⟨fr, to, ms, lim, tx⟩ : QP) && keepS (⟨fr, to, ms, lim, tx⟩ : QP) x.says)) ∧ Below w.heap.size w w' := by
  obtain ⟨w2, hw2⟩ : ∃ w2, w2 = (w.alloc (.cells #[.int .i64 fr, .int .i64 to, .slice a n c, .int .i64 lim, .bool tx] 59)).alloc (.cells #[.int .i64 x.r.kind, .int .i64 x.r.time, .slice x.r.la x.r.ln x.r.lc, .string x.r.text, .int .i64 x.r.value, .bool x.r.null, .int .i64 x.who, .int .i64 x.sq, .int .i64 x.pl] 51) := ⟨_, rfl⟩
  have s1 : (w.alloc (.cells #[.int .i64 fr, .int .i64 to, .slice a n c, .int .i64 lim, .bool tx] 59)).heap.size = w.heap.size + 1 := Array.size_push _
  have hb1 : Below w.heap.size w (w.alloc (.cells #[.int .i64 fr, .int .i64 to, .slice a n c, .int .i64 lim, .bool tx] 59)) := (Below.refl _ _).alloc (Nat.le_refl _) _
  have hb2 : Below w.heap.size w w2 := by rw [hw2]; exact hb1.alloc hb1.size _
  have hq : ∀ w3, Below w2.heap.size w2 w3 → Below (w.alloc (.cells #[.int .i64 fr, .int .i64 to, .slice a n c, .int .i64 lim, .bool tx] 59)).heap.size (w.alloc (.cells #[.int .i64 fr, .int .i64 to, .slice a n c, .int .i64 lim, .bool tx] 59)) w3 := fun w3 h3 => by
    have hb12 : Below (w.alloc (.cells #[.int .i64 fr, .int .i64 to, .slice a n c, .int .i64 lim, .bool tx] 59)).heap.size (w.alloc (.cells #[.int .i64 fr, .int .i64 to, .slice a n c, .int .i64 lim, .bool tx] 59)) w2 := by rw [hw2]; exact (Below.refl _ _).alloc (Nat.le_refl _) _
    exact hb12.trans (h3.mono hb12.size)
  have hx : ∀ w3, Below w2.heap.size w2 w3 → ∀ j u, (#[.int .i64 x.r.kind, .int .i64 x.r.time, .slice x.r.la x.r.ln x.r.lc, .string x.r.text, .int .i64 x.r.value, .bool x.r.null, .int .i64 x.who, .int .i64 x.sq, .int .i64 x.pl] : Array Value)[j]? = some u → w3.cell? ⟨w.heap.size + 1, j, none⟩ = some u := fun w3 h3 j u hu => by
    rw [hw2] at h3
    rw [← s1]
    exact box_cell h3 hu
  have HQ := Lib.hid hq
  have HX := Lib.hid hx
  have HB := Lib.hid hb2
  have HM := Lib.hid (h.keep hb2 (Nat.le_refl _))
  have HL := Lib.hid (hl.kept hb2)
  have HW := Lib.hid hw2
  clear h hl hb1 hb2 hq hx hw2
  go_enter Try.func46, Try.ntmps46
  go_wp2_with fail
  rw [← HW.out]
  refine (rqright_any HM.out).mono ?_
  rintro e w3 ⟨rfl, hb3⟩
  have q0 : w3.cell? ⟨w.heap.size, 0, none⟩ = some (.int .i64 fr) := box_cell (HQ.out _ hb3) rfl
  have q1 : w3.cell? ⟨w.heap.size, 1, none⟩ = some (.int .i64 to) := box_cell (HQ.out _ hb3) rfl
  have q2 : w3.cell? ⟨w.heap.size, 2, none⟩ = some (.slice a n c) := box_cell (HQ.out _ hb3) rfl
  have q3 : w3.cell? ⟨w.heap.size, 3, none⟩ = some (.int .i64 lim) := box_cell (HQ.out _ hb3) rfl
  have q4 : w3.cell? ⟨w.heap.size, 4, none⟩ = some (.bool tx) := box_cell (HQ.out _ hb3) rfl
  have x0 : w3.cell? ⟨w.heap.size + 1, 0, none⟩ = some (.int .i64 x.r.kind) := HX.out _ hb3 0 _ rfl
  have x1 : w3.cell? ⟨w.heap.size + 1, 1, none⟩ = some (.int .i64 x.r.time) := HX.out _ hb3 1 _ rfl
  have x2 : w3.cell? ⟨w.heap.size + 1, 2, none⟩ = some (.slice x.r.la x.r.ln x.r.lc) := HX.out _ hb3 2 _ rfl
  have x3 : w3.cell? ⟨w.heap.size + 1, 3, none⟩ = some (.string x.r.text) := HX.out _ hb3 3 _ rfl
  have x4 : w3.cell? ⟨w.heap.size + 1, 4, none⟩ = some (.int .i64 x.r.value) := HX.out _ hb3 4 _ rfl
  have x5 : w3.cell? ⟨w.heap.size + 1, 5, none⟩ = some (.bool x.r.null) := HX.out _ hb3 5 _ rfl
  have x6 : w3.cell? ⟨w.heap.size + 1, 6, none⟩ = some (.int .i64 x.who) := HX.out _ hb3 6 _ rfl
  have x7 : w3.cell? ⟨w.heap.size + 1, 7, none⟩ = some (.int .i64 x.sq) := HX.out _ hb3 7 _ rfl
  have x8 : w3.cell? ⟨w.heap.size + 1, 8, none⟩ = some (.int .i64 x.pl) := HX.out _ hb3 8 _ rfl
  have HB3 := Lib.hid (HB.out.trans (hb3.mono HB.out.size))
  have HM3 := Lib.hid (HM.out.keep hb3 (Nat.le_refl _))
  have HL3 := Lib.hid (HL.out.kept hb3)
  clear hb3
  cases hr : qRight (⟨fr, to, ms, lim, tx⟩ : QP) with
  | false =>
    have HR := Lib.hid hr
    clear hr
    go_wp2_with fail
    go_ret
    rw [HR.out]
    exact ⟨rfl, HB3.out⟩
  | true =>
    have HR := Lib.hid hr
    clear hr
    by_cases c1 : fr ≤ x.r.time
    case neg =>
      have z1 : decide (fr ≤ x.r.time) = false := decide_eq_false c1
      have HE := Lib.hid (show keepS (⟨fr, to, ms, lim, tx⟩ : QP) x.says = false from by unfold keepS RowV.says; simp [c1])
      go_wp2_with fail
      go_ret
      rw [HR.out, Bool.true_and, HE.out]
      exact ⟨rfl, HB3.out⟩
    case pos =>
      have z1 : decide (fr ≤ x.r.time) = true := decide_eq_true c1
      by_cases c2 : x.r.time < to
      case neg =>
        have z2 : decide (x.r.time < to) = false := decide_eq_false c2
        have HE := Lib.hid (show keepS (⟨fr, to, ms, lim, tx⟩ : QP) x.says = false from by unfold keepS RowV.says; simp [c2])
        go_wp2_with fail
        go_ret
        rw [HR.out, Bool.true_and, HE.out]
        exact ⟨rfl, HB3.out⟩
      case pos =>
        have z2 : decide (x.r.time < to) = true := decide_eq_true c2
        have HE := Lib.hid (show keepS (⟨fr, to, ms, lim, tx⟩ : QP) x.says = meetsB x.r.labs ms from by unfold keepS RowV.says; simp [c1, c2])
        go_wp2_with fail
        refine (rmeets_any HL3.out HM3.out).mono ?_
        rintro e w4 ⟨rfl, hb4⟩
        have HB4 := Lib.hid (HB3.out.trans (hb4.mono HB3.out.size))
        clear hb4
        go_wp2_with fail
        go_ret
        rw [HR.out, Bool.true_and, HE.out]
        exact ⟨rfl, HB4.out⟩
end Go.Proofs.Ytmnfdkclkjeggaa
