/- Put together out of XQRight, XQAns. -/
import Derived.Test.YtjbljplgkbnpmaaQPlain
import Derived.Test.YtjbljplgkbnpmaaLabMt
import Derived.Test.YtjbljplgkbnpmaaQApp
import Derived.Laws.AppendOwnNone
section SecQRA0
/- query.Right, query.keeps, query.Keeps, and the document's, walked. Written by genqright.py. -/
namespace Go.Proofs.Ytjbljplgkbnpmaa
open Go.RowKit LabPlain RecPlain Stab
set_option linter.unusedVariables false

set_option maxRecDepth 100000 in
set_option maxHeartbeats 2000000 in
theorem qright_any {w : World} {a : Option Addr} {n c : Nat} {ms : List Mat} {fr to lim : Int} {tx : Bool} (h : MatsAt w a n c ms) :
    Calls Try.prog 54 #[.agg #[.int .i64 fr, .int .i64 to, .slice a n c, .int .i64 lim, .bool tx]] w fun e w' => e = .returned (.bool (qRight (⟨fr, to, ms, lim, tx⟩ : QP))) ∧ Below w.heap.size w w' := by
  have HL := Lib.hid h.len
  have hcap := h.cap
  have hcm := h.capm
  have hb1 : Below w.heap.size w (w.alloc (.cells #[.int .i64 fr, .int .i64 to, .slice a n c, .int .i64 lim, .bool tx] 76)) := (Below.refl _ _).alloc (Nat.le_refl _) _
  have HB1 := Lib.hid hb1
  have HH := Lib.hid (h.keep hb1 (Nat.le_refl _))
  clear h hb1
  by_cases h0 : fr < 0
  case pos =>
    have HE := Lib.hid (show qRight (⟨fr, to, ms, lim, tx⟩ : QP) = false from qRight_no (by have := HL.out; show ¬ (0 ≤ fr ∧ fr ≤ to ∧ to ≤ 1099511627776 ∧ ms.length ≤ 8 ∧ 0 ≤ lim ∧ lim ≤ 2048); omega))
    go_enter Try.func54, Try.ntmps54
    go_wp2_with fail
    go_ret
    rw [HE.out]
    exact ⟨rfl, HB1.out⟩
  case neg =>
    by_cases h1 : to < fr
    case pos =>
      have HE := Lib.hid (show qRight (⟨fr, to, ms, lim, tx⟩ : QP) = false from qRight_no (by have := HL.out; show ¬ (0 ≤ fr ∧ fr ≤ to ∧ to ≤ 1099511627776 ∧ ms.length ≤ 8 ∧ 0 ≤ lim ∧ lim ≤ 2048); omega))
      go_enter Try.func54, Try.ntmps54
      go_wp2_with fail
      go_ret
      rw [HE.out]
      exact ⟨rfl, HB1.out⟩
    case neg =>
      by_cases h2 : 1099511627776 < to
      case pos =>
        have HE := Lib.hid (show qRight (⟨fr, to, ms, lim, tx⟩ : QP) = false from qRight_no (by have := HL.out; show ¬ (0 ≤ fr ∧ fr ≤ to ∧ to ≤ 1099511627776 ∧ ms.length ≤ 8 ∧ 0 ≤ lim ∧ lim ≤ 2048); omega))
        go_enter Try.func54, Try.ntmps54
        go_wp2_with fail
        go_ret
        rw [HE.out]
        exact ⟨rfl, HB1.out⟩
      case neg =>
        by_cases h3 : (8 : Int) < (n : Int)
        case pos =>
          have HE := Lib.hid (show qRight (⟨fr, to, ms, lim, tx⟩ : QP) = false from qRight_no (by have := HL.out; show ¬ (0 ≤ fr ∧ fr ≤ to ∧ to ≤ 1099511627776 ∧ ms.length ≤ 8 ∧ 0 ≤ lim ∧ lim ≤ 2048); omega))
          go_enter Try.func54, Try.ntmps54
          go_wp2_with fail
          go_ret
          rw [HE.out]
          exact ⟨rfl, HB1.out⟩
        case neg =>
          by_cases h4 : lim < 0
          case pos =>
            have HE := Lib.hid (show qRight (⟨fr, to, ms, lim, tx⟩ : QP) = false from qRight_no (by have := HL.out; show ¬ (0 ≤ fr ∧ fr ≤ to ∧ to ≤ 1099511627776 ∧ ms.length ≤ 8 ∧ 0 ≤ lim ∧ lim ≤ 2048); omega))
            go_enter Try.func54, Try.ntmps54
            go_wp2_with fail
            go_ret
            rw [HE.out]
            exact ⟨rfl, HB1.out⟩
          case neg =>
            by_cases h5 : 2048 < lim
            case pos =>
              have HE := Lib.hid (show qRight (⟨fr, to, ms, lim, tx⟩ : QP) = false from qRight_no (by have := HL.out; show ¬ (0 ≤ fr ∧ fr ≤ to ∧ to ≤ 1099511627776 ∧ ms.length ≤ 8 ∧ 0 ≤ lim ∧ lim ≤ 2048); omega))
              go_enter Try.func54, Try.ntmps54
              go_wp2_with fail
              go_ret
              rw [HE.out]
              exact ⟨rfl, HB1.out⟩
            case neg =>
              have HC := Lib.hid (show 0 ≤ fr ∧ fr ≤ to ∧ to ≤ 1099511627776 ∧ ms.length ≤ 8 ∧ 0 ≤ lim ∧ lim ≤ 2048 from by have := HL.out; omega)
              go_enter Try.func54, Try.ntmps54
              go_wp2_with fail
              go_loopw [4, 39] (fun s4 s39 wr => ∃ k : Nat, k ≤ n ∧ s39 = .int .i64 (k : Int) ∧ Hid (∀ i, i < k → asksB (ms.getD i mat0) = true) ∧ Hid (Below (w.alloc (.cells #[.int .i64 fr, .int .i64 to, .slice a n c, .int .i64 lim, .bool tx] 76)).heap.size (w.alloc (.cells #[.int .i64 fr, .int .i64 to, .slice a n c, .int .i64 lim, .bool tx] 76)) wr)) (fun _ s39 _ => n - (intOf s39).toNat)
              case atStart => exact ⟨0, by omega, rfl, Lib.hid (fun i hi => absurd hi (Nat.not_lt_zero _)), Lib.hid (Below.refl _ _)⟩
              case round =>
                obtain ⟨k, hkn, rfl, HA, HB⟩ := hrel
                rename World => wr
                by_cases hlt : k < n
                · have hlti : (k : Int) < (n : Int) := by omega
                  have hm := HH.out.keep HB.out (Nat.le_refl _)
                  obtain ⟨b, off, rfl, hltb, hc3⟩ := hm.cells (by omega)
                  obtain ⟨d0, d1, d2⟩ := hc3 k hlt
                  obtain ⟨⟨nm, wy, vl⟩, hx⟩ : ∃ x : Mat, x = ms.getD k mat0 := ⟨_, rfl⟩
                  rw [← hx] at d0 d1 d2
                  have hsz := hm.size (nm, wy, vl) (by rw [hx]; have hl := HL.out; have : ms.getD k mat0 = ms[k]'(by omega) := by simp [show k < ms.length by omega]
                                                       rw [this]; exact List.getElem_mem _)
                  simp only at d0 d1 d2 hsz
                  have HX := Lib.hid hx
                  have HB2 := Lib.hid (HB.out.alloc HB.out.size (.cells #[.string nm, .int .i64 wy, .string vl] 46))
                  clear hm hc3 hx hltb
                  go_wp2_with fail
                  refine (asks_any nm vl wy hsz.1 hsz.2 _).mono ?_
                  rintro e w3 ⟨rfl, hb3⟩
                  have HB3 := Lib.hid (HB2.out.trans (hb3.mono HB2.out.size))
                  clear hb3
                  cases ha : asksB (nm, wy, vl) with
                  | false =>
                    have HE := Lib.hid (show qRight (⟨fr, to, ms, lim, tx⟩ : QP) = false from by
                      cases e : qRight (⟨fr, to, ms, lim, tx⟩ : QP) with
                      | false => rfl
                      | true =>
                        have h1 := (qRight_iff.1 e).2
                        have h2 := all_not (l := ms) (i := k) (by have := HL.out; omega) (by rw [← HX.out]; exact ha)
                        rw [h2] at h1; cases h1)
                    clear ha
                    go_wp2_with fail
                    go_ret
                    rw [HE.out]
                    exact ⟨rfl, HB1.out.trans (HB3.out.mono HB1.out.size)⟩
                  | true =>
                    have HA3 := Lib.hid (show ∀ i, i < k + 1 → asksB (ms.getD i mat0) = true from fun i hi => by
                      by_cases e : i = k
                      · rw [e, ← HX.out]; exact ha
                      · exact HA.out i (by omega))
                    clear ha
                    go_wp2_with fail
                    go_roundw
                    case rel => exact ⟨k + 1, by omega, by go_num, HA3, HB3⟩
                    case measure => simp [intOf]; omega
                · obtain rfl : k = n := by omega
                  have HE := Lib.hid (show qRight (⟨fr, to, ms, lim, tx⟩ : QP) = true from qRight_iff.2 ⟨HC.out, all_get HL.out HA.out⟩)
                  go_wp2_with fail
                  go_ret
                  rw [HE.out]
                  exact ⟨rfl, HB1.out.trans (HB.out.mono HB1.out.size)⟩
set_option maxRecDepth 100000 in
set_option maxHeartbeats 2000000 in
theorem rqright_any {w : World} {a : Option Addr} {n c : Nat} {ms : List Mat} {fr to lim : Int} {tx : Bool} (h : MatsAt w a n c ms) :
    Calls Try.prog 55 #[.agg #[.int .i64 fr, .int .i64 to, .slice a n c, .int .i64 lim, .bool tx]] w fun e w' => e = .returned (.bool (qRight (⟨fr, to, ms, lim, tx⟩ : QP))) ∧ Below w.heap.size w w' := by
  have HL := Lib.hid h.len
  have hcap := h.cap
  have hcm := h.capm
  have hb1 : Below w.heap.size w (w.alloc (.cells #[.int .i64 fr, .int .i64 to, .slice a n c, .int .i64 lim, .bool tx] 76)) := (Below.refl _ _).alloc (Nat.le_refl _) _
  have HB1 := Lib.hid hb1
  have HH := Lib.hid (h.keep hb1 (Nat.le_refl _))
  clear h hb1
  by_cases h0 : fr < 0
  case pos =>
    have HE := Lib.hid (show qRight (⟨fr, to, ms, lim, tx⟩ : QP) = false from qRight_no (by have := HL.out; show ¬ (0 ≤ fr ∧ fr ≤ to ∧ to ≤ 1099511627776 ∧ ms.length ≤ 8 ∧ 0 ≤ lim ∧ lim ≤ 2048); omega))
    go_enter Try.func55, Try.ntmps55
    go_wp2_with fail
    go_ret
    rw [HE.out]
    exact ⟨rfl, HB1.out⟩
  case neg =>
    by_cases h1 : to < fr
    case pos =>
      have HE := Lib.hid (show qRight (⟨fr, to, ms, lim, tx⟩ : QP) = false from qRight_no (by have := HL.out; show ¬ (0 ≤ fr ∧ fr ≤ to ∧ to ≤ 1099511627776 ∧ ms.length ≤ 8 ∧ 0 ≤ lim ∧ lim ≤ 2048); omega))
      go_enter Try.func55, Try.ntmps55
      go_wp2_with fail
      go_ret
      rw [HE.out]
      exact ⟨rfl, HB1.out⟩
    case neg =>
      by_cases h2 : 1099511627776 < to
      case pos =>
        have HE := Lib.hid (show qRight (⟨fr, to, ms, lim, tx⟩ : QP) = false from qRight_no (by have := HL.out; show ¬ (0 ≤ fr ∧ fr ≤ to ∧ to ≤ 1099511627776 ∧ ms.length ≤ 8 ∧ 0 ≤ lim ∧ lim ≤ 2048); omega))
        go_enter Try.func55, Try.ntmps55
        go_wp2_with fail
        go_ret
        rw [HE.out]
        exact ⟨rfl, HB1.out⟩
      case neg =>
        by_cases h3 : (8 : Int) < (n : Int)
        case pos =>
          have HE := Lib.hid (show qRight (⟨fr, to, ms, lim, tx⟩ : QP) = false from qRight_no (by have := HL.out; show ¬ (0 ≤ fr ∧ fr ≤ to ∧ to ≤ 1099511627776 ∧ ms.length ≤ 8 ∧ 0 ≤ lim ∧ lim ≤ 2048); omega))
          go_enter Try.func55, Try.ntmps55
          go_wp2_with fail
          go_ret
          rw [HE.out]
          exact ⟨rfl, HB1.out⟩
        case neg =>
          by_cases h4 : lim < 0
          case pos =>
            have HE := Lib.hid (show qRight (⟨fr, to, ms, lim, tx⟩ : QP) = false from qRight_no (by have := HL.out; show ¬ (0 ≤ fr ∧ fr ≤ to ∧ to ≤ 1099511627776 ∧ ms.length ≤ 8 ∧ 0 ≤ lim ∧ lim ≤ 2048); omega))
            go_enter Try.func55, Try.ntmps55
            go_wp2_with fail
            go_ret
            rw [HE.out]
            exact ⟨rfl, HB1.out⟩
          case neg =>
            by_cases h5 : 2048 < lim
            case pos =>
              have HE := Lib.hid (show qRight (⟨fr, to, ms, lim, tx⟩ : QP) = false from qRight_no (by have := HL.out; show ¬ (0 ≤ fr ∧ fr ≤ to ∧ to ≤ 1099511627776 ∧ ms.length ≤ 8 ∧ 0 ≤ lim ∧ lim ≤ 2048); omega))
              go_enter Try.func55, Try.ntmps55
              go_wp2_with fail
              go_ret
              rw [HE.out]
              exact ⟨rfl, HB1.out⟩
            case neg =>
              have HC := Lib.hid (show 0 ≤ fr ∧ fr ≤ to ∧ to ≤ 1099511627776 ∧ ms.length ≤ 8 ∧ 0 ≤ lim ∧ lim ≤ 2048 from by have := HL.out; omega)
              go_enter Try.func55, Try.ntmps55
              go_wp2_with fail
              go_loopw [4, 39] (fun s4 s39 wr => ∃ k : Nat, k ≤ n ∧ s39 = .int .i64 (k : Int) ∧ Hid (∀ i, i < k → asksB (ms.getD i mat0) = true) ∧ Hid (Below (w.alloc (.cells #[.int .i64 fr, .int .i64 to, .slice a n c, .int .i64 lim, .bool tx] 76)).heap.size (w.alloc (.cells #[.int .i64 fr, .int .i64 to, .slice a n c, .int .i64 lim, .bool tx] 76)) wr)) (fun _ s39 _ => n - (intOf s39).toNat)
              case atStart => exact ⟨0, by omega, rfl, Lib.hid (fun i hi => absurd hi (Nat.not_lt_zero _)), Lib.hid (Below.refl _ _)⟩
              case round =>
                obtain ⟨k, hkn, rfl, HA, HB⟩ := hrel
                rename World => wr
                by_cases hlt : k < n
                · have hlti : (k : Int) < (n : Int) := by omega
                  have hm := HH.out.keep HB.out (Nat.le_refl _)
                  obtain ⟨b, off, rfl, hltb, hc3⟩ := hm.cells (by omega)
                  obtain ⟨d0, d1, d2⟩ := hc3 k hlt
                  obtain ⟨⟨nm, wy, vl⟩, hx⟩ : ∃ x : Mat, x = ms.getD k mat0 := ⟨_, rfl⟩
                  rw [← hx] at d0 d1 d2
                  have hsz := hm.size (nm, wy, vl) (by rw [hx]; have hl := HL.out; have : ms.getD k mat0 = ms[k]'(by omega) := by simp [show k < ms.length by omega]
                                                       rw [this]; exact List.getElem_mem _)
                  simp only at d0 d1 d2 hsz
                  have HX := Lib.hid hx
                  have HB2 := Lib.hid (HB.out.alloc HB.out.size (.cells #[.string nm, .int .i64 wy, .string vl] 46))
                  clear hm hc3 hx hltb
                  go_wp2_with fail
                  refine (rasks_any nm vl wy hsz.1 hsz.2 _).mono ?_
                  rintro e w3 ⟨rfl, hb3⟩
                  have HB3 := Lib.hid (HB2.out.trans (hb3.mono HB2.out.size))
                  clear hb3
                  cases ha : asksB (nm, wy, vl) with
                  | false =>
                    have HE := Lib.hid (show qRight (⟨fr, to, ms, lim, tx⟩ : QP) = false from by
                      cases e : qRight (⟨fr, to, ms, lim, tx⟩ : QP) with
                      | false => rfl
                      | true =>
                        have h1 := (qRight_iff.1 e).2
                        have h2 := all_not (l := ms) (i := k) (by have := HL.out; omega) (by rw [← HX.out]; exact ha)
                        rw [h2] at h1; cases h1)
                    clear ha
                    go_wp2_with fail
                    go_ret
                    rw [HE.out]
                    exact ⟨rfl, HB1.out.trans (HB3.out.mono HB1.out.size)⟩
                  | true =>
                    have HA3 := Lib.hid (show ∀ i, i < k + 1 → asksB (ms.getD i mat0) = true from fun i hi => by
                      by_cases e : i = k
                      · rw [e, ← HX.out]; exact ha
                      · exact HA.out i (by omega))
                    clear ha
                    go_wp2_with fail
                    go_roundw
                    case rel => exact ⟨k + 1, by omega, by go_num, HA3, HB3⟩
                    case measure => simp [intOf]; omega
                · obtain rfl : k = n := by omega
                  have HE := Lib.hid (show qRight (⟨fr, to, ms, lim, tx⟩ : QP) = true from qRight_iff.2 ⟨HC.out, all_get HL.out HA.out⟩)
                  go_wp2_with fail
                  go_ret
                  rw [HE.out]
                  exact ⟨rfl, HB1.out.trans (HB.out.mono HB1.out.size)⟩
set_option maxRecDepth 100000 in
set_option maxHeartbeats 2000000 in
theorem qkeeps_any {w : World} {a : Option Addr} {n c : Nat} {ms : List Mat} {fr to lim : Int} {tx : Bool} (h : MatsAt w a n c ms) {x : RowV} (hl : LabsAt w x.r.la x.r.ln x.r.lc x.r.labs) :
    Calls Try.prog 88 #[.agg #[.int .i64 fr, .int .i64 to, .slice a n c, .int .i64 lim, .bool tx], .agg #[.int .i64 x.r.kind, .int .i64 x.r.time, .slice x.r.la x.r.ln x.r.lc, .string x.r.text, .int .i64 x.r.value, .bool x.r.null, .int .i64 x.who, .int .i64 x.sq, .int .i64 x.pl]] w fun e w' => e = .returned (.bool (keepS (⟨fr, to, ms, lim, tx⟩ : QP) x.says)) ∧ Below w.heap.size w w' := by
  have hb1 : Below w.heap.size w (w.alloc (.cells #[.int .i64 fr, .int .i64 to, .slice a n c, .int .i64 lim, .bool tx] 76)) := (Below.refl _ _).alloc (Nat.le_refl _) _
  have hb2 : Below w.heap.size w ((w.alloc (.cells #[.int .i64 fr, .int .i64 to, .slice a n c, .int .i64 lim, .bool tx] 76)).alloc (.cells #[.int .i64 x.r.kind, .int .i64 x.r.time, .slice x.r.la x.r.ln x.r.lc, .string x.r.text, .int .i64 x.r.value, .bool x.r.null, .int .i64 x.who, .int .i64 x.sq, .int .i64 x.pl] 62)) := hb1.alloc hb1.size _
  have HB := Lib.hid hb2
  have HM := Lib.hid (h.keep hb2 (Nat.le_refl _))
  have HL := Lib.hid (hl.kept hb2)
  clear h hl hb1 hb2
  by_cases c1 : fr ≤ x.r.time
  case neg =>
    have z1 : decide (fr ≤ x.r.time) = false := decide_eq_false c1
    have HE := Lib.hid (show keepS (⟨fr, to, ms, lim, tx⟩ : QP) x.says = false from by unfold keepS RowV.says; simp [c1])
    go_enter Try.func88, Try.ntmps88
    go_wp2_with fail
    go_ret
    rw [HE.out]
    exact ⟨rfl, HB.out⟩
  case pos =>
    have z1 : decide (fr ≤ x.r.time) = true := decide_eq_true c1
    by_cases c2 : x.r.time < to
    case neg =>
      have z2 : decide (x.r.time < to) = false := decide_eq_false c2
      have HE := Lib.hid (show keepS (⟨fr, to, ms, lim, tx⟩ : QP) x.says = false from by unfold keepS RowV.says; simp [c2])
      go_enter Try.func88, Try.ntmps88
      go_wp2_with fail
      go_ret
      rw [HE.out]
      exact ⟨rfl, HB.out⟩
    case pos =>
      have z2 : decide (x.r.time < to) = true := decide_eq_true c2
      have HE := Lib.hid (show keepS (⟨fr, to, ms, lim, tx⟩ : QP) x.says = meetsB x.r.labs ms from by unfold keepS RowV.says; simp [c1, c2])
      go_enter Try.func88, Try.ntmps88
      go_wp2_with fail
      refine (meets_any HL.out HM.out).mono ?_
      rintro e w3 ⟨rfl, hb3⟩
      have HB3 := Lib.hid (HB.out.trans (hb3.mono HB.out.size))
      clear hb3
      go_wp2_with fail
      go_ret
      rw [HE.out]
      exact ⟨rfl, HB3.out⟩
set_option maxRecDepth 100000 in
set_option maxHeartbeats 2000000 in
theorem qKeeps_any {w : World} {a : Option Addr} {n c : Nat} {ms : List Mat} {fr to lim : Int} {tx : Bool} (h : MatsAt w a n c ms) {x : RowV} (hl : LabsAt w x.r.la x.r.ln x.r.lc x.r.labs) :
    Calls Try.prog 57 #[.agg #[.int .i64 fr, .int .i64 to, .slice a n c, .int .i64 lim, .bool tx], .agg #[.int .i64 x.r.kind, .int .i64 x.r.time, .slice x.r.la x.r.ln x.r.lc, .string x.r.text, .int .i64 x.r.value, .bool x.r.null, .int .i64 x.who, .int .i64 x.sq, .int .i64 x.pl]] w fun e w' => e = .returned (.bool (qRight (⟨fr, to, ms, lim, tx⟩ : QP) && keepS (⟨fr, to, ms, lim, tx⟩ : QP) x.says)) ∧ Below w.heap.size w w' := by
  obtain ⟨w2, hw2⟩ : ∃ w2, w2 = (w.alloc (.cells #[.int .i64 fr, .int .i64 to, .slice a n c, .int .i64 lim, .bool tx] 76)).alloc (.cells #[.int .i64 x.r.kind, .int .i64 x.r.time, .slice x.r.la x.r.ln x.r.lc, .string x.r.text, .int .i64 x.r.value, .bool x.r.null, .int .i64 x.who, .int .i64 x.sq, .int .i64 x.pl] 62) := ⟨_, rfl⟩
  have s1 : (w.alloc (.cells #[.int .i64 fr, .int .i64 to, .slice a n c, .int .i64 lim, .bool tx] 76)).heap.size = w.heap.size + 1 := Array.size_push _
  have hb1 : Below w.heap.size w (w.alloc (.cells #[.int .i64 fr, .int .i64 to, .slice a n c, .int .i64 lim, .bool tx] 76)) := (Below.refl _ _).alloc (Nat.le_refl _) _
  have hb2 : Below w.heap.size w w2 := by rw [hw2]; exact hb1.alloc hb1.size _
  have hq : ∀ w3, Below w2.heap.size w2 w3 → Below (w.alloc (.cells #[.int .i64 fr, .int .i64 to, .slice a n c, .int .i64 lim, .bool tx] 76)).heap.size (w.alloc (.cells #[.int .i64 fr, .int .i64 to, .slice a n c, .int .i64 lim, .bool tx] 76)) w3 := fun w3 h3 => by
    have hb12 : Below (w.alloc (.cells #[.int .i64 fr, .int .i64 to, .slice a n c, .int .i64 lim, .bool tx] 76)).heap.size (w.alloc (.cells #[.int .i64 fr, .int .i64 to, .slice a n c, .int .i64 lim, .bool tx] 76)) w2 := by rw [hw2]; exact (Below.refl _ _).alloc (Nat.le_refl _) _
    exact hb12.trans (h3.mono hb12.size)
  have hx : ∀ w3, Below w2.heap.size w2 w3 → ∀ j u, (#[.int .i64 x.r.kind, .int .i64 x.r.time, .slice x.r.la x.r.ln x.r.lc, .string x.r.text, .int .i64 x.r.value, .bool x.r.null, .int .i64 x.who, .int .i64 x.sq, .int .i64 x.pl] : Array Value)[j]? = some u → w3.cell? ⟨w.heap.size + 1, j, none⟩ = some u := fun w3 h3 j u hu => by
    rw [hw2] at h3
    rw [← s1]
    exact box_cell h3 hu
  have HQ := Lib.hid hq
  have HX := Lib.hid hx
  have HB := Lib.hid hb2
  have HM := Lib.hid (h.keep hb2 (Nat.le_refl _))
  have HL := Lib.hid (hl.kept hb2)
  have HW := Lib.hid hw2
  clear h hl hb1 hb2 hq hx hw2
  go_enter Try.func57, Try.ntmps57
  go_wp2_with fail
  rw [← HW.out]
  refine (qright_any HM.out).mono ?_
  rintro e w3 ⟨rfl, hb3⟩
  have q0 : w3.cell? ⟨w.heap.size, 0, none⟩ = some (.int .i64 fr) := box_cell (HQ.out _ hb3) rfl
  have q1 : w3.cell? ⟨w.heap.size, 1, none⟩ = some (.int .i64 to) := box_cell (HQ.out _ hb3) rfl
  have q2 : w3.cell? ⟨w.heap.size, 2, none⟩ = some (.slice a n c) := box_cell (HQ.out _ hb3) rfl
  have q3 : w3.cell? ⟨w.heap.size, 3, none⟩ = some (.int .i64 lim) := box_cell (HQ.out _ hb3) rfl
  have q4 : w3.cell? ⟨w.heap.size, 4, none⟩ = some (.bool tx) := box_cell (HQ.out _ hb3) rfl
  have x0 : w3.cell? ⟨w.heap.size + 1, 0, none⟩ = some (.int .i64 x.r.kind) := HX.out _ hb3 0 _ rfl
  have x1 : w3.cell? ⟨w.heap.size + 1, 1, none⟩ = some (.int .i64 x.r.time) := HX.out _ hb3 1 _ rfl
  have x2 : w3.cell? ⟨w.heap.size + 1, 2, none⟩ = some (.slice x.r.la x.r.ln x.r.lc) := HX.out _ hb3 2 _ rfl
  have x3 : w3.cell? ⟨w.heap.size + 1, 3, none⟩ = some (.string x.r.text) := HX.out _ hb3 3 _ rfl
  have x4 : w3.cell? ⟨w.heap.size + 1, 4, none⟩ = some (.int .i64 x.r.value) := HX.out _ hb3 4 _ rfl
  have x5 : w3.cell? ⟨w.heap.size + 1, 5, none⟩ = some (.bool x.r.null) := HX.out _ hb3 5 _ rfl
  have x6 : w3.cell? ⟨w.heap.size + 1, 6, none⟩ = some (.int .i64 x.who) := HX.out _ hb3 6 _ rfl
  have x7 : w3.cell? ⟨w.heap.size + 1, 7, none⟩ = some (.int .i64 x.sq) := HX.out _ hb3 7 _ rfl
  have x8 : w3.cell? ⟨w.heap.size + 1, 8, none⟩ = some (.int .i64 x.pl) := HX.out _ hb3 8 _ rfl
  have HB3 := Lib.hid (HB.out.trans (hb3.mono HB.out.size))
  have HM3 := Lib.hid (HM.out.keep hb3 (Nat.le_refl _))
  have HL3 := Lib.hid (HL.out.kept hb3)
  clear hb3
  cases hr : qRight (⟨fr, to, ms, lim, tx⟩ : QP) with
  | false =>
    have HR := Lib.hid hr
    clear hr
    go_wp2_with fail
    go_ret
    rw [HR.out]
    exact ⟨rfl, HB3.out⟩
  | true =>
    have HR := Lib.hid hr
    clear hr
    go_wp2_with fail
    refine (qkeeps_any HM3.out HL3.out).mono ?_
    rintro e w4 ⟨rfl, hb4⟩
    have HB4 := Lib.hid (HB3.out.trans (hb4.mono HB3.out.size))
    clear hb4
    go_wp2_with fail
    go_ret
    rw [HR.out, Bool.true_and]
    exact ⟨rfl, HB4.out⟩
set_option maxRecDepth 100000 in
set_option maxHeartbeats 2000000 in
theorem rKeeps_any {w : World} {a : Option Addr} {n c : Nat} {ms : List Mat} {fr to lim : Int} {tx : Bool} (h : MatsAt w a n c ms) {x : RowV} (hl : LabsAt w x.r.la x.r.ln x.r.lc x.r.labs) :
    Calls Try.prog 58 #[.agg #[.int .i64 fr, .int .i64 to, .slice a n c, .int .i64 lim, .bool tx], .agg #[.int .i64 x.r.kind, .int .i64 x.r.time, .slice x.r.la x.r.ln x.r.lc, .string x.r.text, .int .i64 x.r.value, .bool x.r.null, .int .i64 x.who, .int .i64 x.sq, .int .i64 x.pl]] w fun e w' => e = .returned (.bool (qRight (⟨fr, to, ms, lim, tx⟩ : QP) && keepS (⟨fr, to, ms, lim, tx⟩ : QP) x.says)) ∧ Below w.heap.size w w' := by
  obtain ⟨w2, hw2⟩ : ∃ w2, w2 = (w.alloc (.cells #[.int .i64 fr, .int .i64 to, .slice a n c, .int .i64 lim, .bool tx] 76)).alloc (.cells #[.int .i64 x.r.kind, .int .i64 x.r.time, .slice x.r.la x.r.ln x.r.lc, .string x.r.text, .int .i64 x.r.value, .bool x.r.null, .int .i64 x.who, .int .i64 x.sq, .int .i64 x.pl] 62) := ⟨_, rfl⟩
  have s1 : (w.alloc (.cells #[.int .i64 fr, .int .i64 to, .slice a n c, .int .i64 lim, .bool tx] 76)).heap.size = w.heap.size + 1 := Array.size_push _
  have hb1 : Below w.heap.size w (w.alloc (.cells #[.int .i64 fr, .int .i64 to, .slice a n c, .int .i64 lim, .bool tx] 76)) := (Below.refl _ _).alloc (Nat.le_refl _) _
  have hb2 : Below w.heap.size w w2 := by rw [hw2]; exact hb1.alloc hb1.size _
  have hq : ∀ w3, Below w2.heap.size w2 w3 → Below (w.alloc (.cells #[.int .i64 fr, .int .i64 to, .slice a n c, .int .i64 lim, .bool tx] 76)).heap.size (w.alloc (.cells #[.int .i64 fr, .int .i64 to, .slice a n c, .int .i64 lim, .bool tx] 76)) w3 := fun w3 h3 => by
    have hb12 : Below (w.alloc (.cells #[.int .i64 fr, .int .i64 to, .slice a n c, .int .i64 lim, .bool tx] 76)).heap.size (w.alloc (.cells #[.int .i64 fr, .int .i64 to, .slice a n c, .int .i64 lim, .bool tx] 76)) w2 := by rw [hw2]; exact (Below.refl _ _).alloc (Nat.le_refl _) _
    exact hb12.trans (h3.mono hb12.size)
  have hx : ∀ w3, Below w2.heap.size w2 w3 → ∀ j u, (#[.int .i64 x.r.kind, .int .i64 x.r.time, .slice x.r.la x.r.ln x.r.lc, .string x.r.text, .int .i64 x.r.value, .bool x.r.null, .int .i64 x.who, .int .i64 x.sq, .int .i64 x.pl] : Array Value)[j]? = some u → w3.cell? ⟨w.heap.size + 1, j, none⟩ = some u := fun w3 h3 j u hu => by
    rw [hw2] at h3
    rw [← s1]
    exact box_cell h3 hu
  have HQ := Lib.hid hq
  have HX := Lib.hid hx
  have HB := Lib.hid hb2
  have HM := Lib.hid (h.keep hb2 (Nat.le_refl _))
  have HL := Lib.hid (hl.kept hb2)
  have HW := Lib.hid hw2
  clear h hl hb1 hb2 hq hx hw2
  go_enter Try.func58, Try.ntmps58
  go_wp2_with fail
  rw [← HW.out]
  refine (rqright_any HM.out).mono ?_
  rintro e w3 ⟨rfl, hb3⟩
  have q0 : w3.cell? ⟨w.heap.size, 0, none⟩ = some (.int .i64 fr) := box_cell (HQ.out _ hb3) rfl
  have q1 : w3.cell? ⟨w.heap.size, 1, none⟩ = some (.int .i64 to) := box_cell (HQ.out _ hb3) rfl
  have q2 : w3.cell? ⟨w.heap.size, 2, none⟩ = some (.slice a n c) := box_cell (HQ.out _ hb3) rfl
  have q3 : w3.cell? ⟨w.heap.size, 3, none⟩ = some (.int .i64 lim) := box_cell (HQ.out _ hb3) rfl
  have q4 : w3.cell? ⟨w.heap.size, 4, none⟩ = some (.bool tx) := box_cell (HQ.out _ hb3) rfl
  have x0 : w3.cell? ⟨w.heap.size + 1, 0, none⟩ = some (.int .i64 x.r.kind) := HX.out _ hb3 0 _ rfl
  have x1 : w3.cell? ⟨w.heap.size + 1, 1, none⟩ = some (.int .i64 x.r.time) := HX.out _ hb3 1 _ rfl
  have x2 : w3.cell? ⟨w.heap.size + 1, 2, none⟩ = some (.slice x.r.la x.r.ln x.r.lc) := HX.out _ hb3 2 _ rfl
  have x3 : w3.cell? ⟨w.heap.size + 1, 3, none⟩ = some (.string x.r.text) := HX.out _ hb3 3 _ rfl
  have x4 : w3.cell? ⟨w.heap.size + 1, 4, none⟩ = some (.int .i64 x.r.value) := HX.out _ hb3 4 _ rfl
  have x5 : w3.cell? ⟨w.heap.size + 1, 5, none⟩ = some (.bool x.r.null) := HX.out _ hb3 5 _ rfl
  have x6 : w3.cell? ⟨w.heap.size + 1, 6, none⟩ = some (.int .i64 x.who) := HX.out _ hb3 6 _ rfl
  have x7 : w3.cell? ⟨w.heap.size + 1, 7, none⟩ = some (.int .i64 x.sq) := HX.out _ hb3 7 _ rfl
  have x8 : w3.cell? ⟨w.heap.size + 1, 8, none⟩ = some (.int .i64 x.pl) := HX.out _ hb3 8 _ rfl
  have HB3 := Lib.hid (HB.out.trans (hb3.mono HB.out.size))
  have HM3 := Lib.hid (HM.out.keep hb3 (Nat.le_refl _))
  have HL3 := Lib.hid (HL.out.kept hb3)
  clear hb3
  cases hr : qRight (⟨fr, to, ms, lim, tx⟩ : QP) with
  | false =>
    have HR := Lib.hid hr
    clear hr
    go_wp2_with fail
    go_ret
    rw [HR.out]
    exact ⟨rfl, HB3.out⟩
  | true =>
    have HR := Lib.hid hr
    clear hr
    by_cases c1 : fr ≤ x.r.time
    case neg =>
      have z1 : decide (fr ≤ x.r.time) = false := decide_eq_false c1
      have HE := Lib.hid (show keepS (⟨fr, to, ms, lim, tx⟩ : QP) x.says = false from by unfold keepS RowV.says; simp [c1])
      go_wp2_with fail
      go_ret
      rw [HR.out, Bool.true_and, HE.out]
      exact ⟨rfl, HB3.out⟩
    case pos =>
      have z1 : decide (fr ≤ x.r.time) = true := decide_eq_true c1
      by_cases c2 : x.r.time < to
      case neg =>
        have z2 : decide (x.r.time < to) = false := decide_eq_false c2
        have HE := Lib.hid (show keepS (⟨fr, to, ms, lim, tx⟩ : QP) x.says = false from by unfold keepS RowV.says; simp [c2])
        go_wp2_with fail
        go_ret
        rw [HR.out, Bool.true_and, HE.out]
        exact ⟨rfl, HB3.out⟩
      case pos =>
        have z2 : decide (x.r.time < to) = true := decide_eq_true c2
        have HE := Lib.hid (show keepS (⟨fr, to, ms, lim, tx⟩ : QP) x.says = meetsB x.r.labs ms from by unfold keepS RowV.says; simp [c1, c2])
        go_wp2_with fail
        refine (rmeets_any HL3.out HM3.out).mono ?_
        rintro e w4 ⟨rfl, hb4⟩
        have HB4 := Lib.hid (HB3.out.trans (hb4.mono HB3.out.size))
        clear hb4
        go_wp2_with fail
        go_ret
        rw [HR.out, Bool.true_and, HE.out]
        exact ⟨rfl, HB4.out⟩
end Go.Proofs.Ytjbljplgkbnpmaa
end SecQRA0
section SecQRA1
/- query.keptOf, slices.Clone of rows, query.Answer, walked. Written by genqans.py. -/
namespace Go.Proofs.Ytjbljplgkbnpmaa
open Go.ChangeShapes Go.WideShapes Go.Deep Go.RowKit LabPlain RecPlain Stab
set_option linter.unusedVariables false

@[go_sem] theorem eql_rows_nil (w : World) (a : Option Addr) (n c n' c' : Nat) : (binOp .eql 58 (.slice a n c) (.slice none n' c')).run Try.prog w = .ok (.bool a.isNone) w := Lib.run_eql_slice_nil w _ _ a n c n' c' Try.underlying58
set_option maxRecDepth 100000 in
set_option maxHeartbeats 4000000 in
theorem keptof_any {w : World} {a : Option Addr} {n c : Nat} {ms : List Mat} {fr to lim : Int} {tx : Bool} (h : MatsAt w a n c ms) {ra : Option Addr} {rn rc : Nat} {l : List RowV} (hr : RowsAt w ra rn rc l) (hn : rn ≤ 1000) :
    Calls Try.prog 86 #[.agg #[.int .i64 fr, .int .i64 to, .slice a n c, .int .i64 lim, .bool tx], .slice ra rn rc] w fun e w' => ∃ a' n' c' rs, e = .returned (.slice a' n' c') ∧ RowsAt w' a' n' c' rs ∧ rs = l.filter (fun x => keepS (⟨fr, to, ms, lim, tx⟩ : QP) x.says) ∧ Below w.heap.size w w' := by
  obtain ⟨i0, hi, hz0, hz1, hz2⟩ := info_parts row_info
  obtain ⟨w1, hw1⟩ : ∃ w1, w1 = w.alloc (.cells #[.int .i64 fr, .int .i64 to, .slice a n c, .int .i64 lim, .bool tx] 76) := ⟨_, rfl⟩
  have hb1 : Below w.heap.size w w1 := by rw [hw1]; exact (Below.refl _ _).alloc (Nat.le_refl _) _
  have HW1 := Lib.hid hw1
  have HB1 := Lib.hid hb1
  have HM := Lib.hid (h.keep hb1 (Nat.le_refl _))
  have HR := Lib.hid (hr.kept hb1)
  have HL := Lib.hid hr.len
  have hrc := hr.cap
  have hrm := hr.capm
  have HQ := Lib.hid (show ∀ wr, Below w1.heap.size w1 wr → Below (w.alloc (.cells #[.int .i64 fr, .int .i64 to, .slice a n c, .int .i64 lim, .bool tx] 76)).heap.size (w.alloc (.cells #[.int .i64 fr, .int .i64 to, .slice a n c, .int .i64 lim, .bool tx] 76)) wr from fun wr hb => by rw [hw1] at hb; exact hb)
  clear h hr hb1 hw1
  go_enter Try.func86, Try.ntmps86
  go_wp2_with fail
  rw [← HW1.out]
  go_loopw [5, 7, 10] (fun s5 s7 s10 wr => ∃ (k : Nat) (fs : List RowV), k ≤ rn ∧ s10 = .int .i64 (k : Int) ∧ fs.length ≤ k ∧ Hid (wr.ownsRow w1.heap.size 62 9 s5 fs.length (rcells fs)) ∧ Hid (fs = (l.take k).filter (fun x => keepS (⟨fr, to, ms, lim, tx⟩ : QP) x.says)) ∧ Hid (Below w1.heap.size w1 wr)) (fun _ _ s10 _ => rn - (intOf s10).toNat)
  case atStart => exact ⟨0, [], by omega, rfl, Nat.le_refl _, Lib.hid (World.ownsRow_nil _ _ _ _), Lib.hid rfl, Lib.hid (Below.refl _ _)⟩
  case round =>
    obtain ⟨k, fs, hkn, rfl, hfk, HO, HF, HB⟩ := hrel
    rename World => wr
    by_cases hlt : k < rn
    · have hlti : (k : Int) < (rn : Int) := by omega
      have hkp := HR.out.kept HB.out
      obtain ⟨b, off, rfl, hltb, hcell⟩ := hkp.cells (by omega)
      obtain ⟨x, hx⟩ : ∃ x, x = l.getD k row0 := ⟨_, rfl⟩
      obtain ⟨d0, d1, d2, d3, d4, d5, d6, d7, d8⟩ := RowsAt.nine hcell hlt hx
      have HXL := Lib.hid (hkp.labs x (by rw [hx]; exact row_mem (by rw [HL.out]; exact hlt)))
      have HTK := Lib.hid (show l.take (k + 1) = l.take k ++ [x] from by
        rw [List.take_succ_eq_append_getElem (by rw [HL.out]; exact hlt)]
        congr 2
        rw [hx]; simp [HL.out, hlt])
      obtain ⟨b6, hb6⟩ : ∃ b6, b6 = wr.heap.size := ⟨_, rfl⟩
      obtain ⟨w6, hw6⟩ : ∃ w6, w6 = wr.alloc (.cells #[.int .i64 x.r.kind, .int .i64 x.r.time, .slice x.r.la x.r.ln x.r.lc, .string x.r.text, .int .i64 x.r.value, .bool x.r.null, .int .i64 x.who, .int .i64 x.sq, .int .i64 x.pl] 62) := ⟨_, rfl⟩
      have hb6w : Below wr.heap.size wr w6 := by rw [hw6]; exact (Below.refl _ _).alloc (Nat.le_refl _) _
      have hx6 : ∀ w7, Below w6.heap.size w6 w7 → ∀ j u, x.cells[j]? = some u → w7.cell? ⟨b6, j, none⟩ = some u := by
        intro w7 h7 j u hu
        rw [hw6] at h7
        rw [hb6]
        exact box_cell h7 (by rw [RowV.cells] at hu; rw [← hu, List.getElem?_toArray])
      have HX6 := Lib.hid hx6
      have HW6 := Lib.hid hw6
      have HB6 := Lib.hid hb6
      have HBW := Lib.hid (HB.out.trans (hb6w.mono HB.out.size))
      have HO6 := Lib.hid (own_below HO.out hb6w)
      have HXL6 := Lib.hid (HXL.out.kept hb6w)
      have HM6 := Lib.hid (HM.out.keep HBW.out (Nat.le_refl _))
      clear hx hcell hltb hkp hx6 hw6 hb6 hb6w
      have q0 : (wr.alloc (.cells #[.int .i64 x.r.kind, .int .i64 x.r.time, .slice x.r.la x.r.ln x.r.lc, .string x.r.text, .int .i64 x.r.value, .bool x.r.null, .int .i64 x.who, .int .i64 x.sq, .int .i64 x.pl] 62)).cell? ⟨w.heap.size, 0, none⟩ = some (.int .i64 fr) := box_cell (HQ.out _ (HB.out.alloc HB.out.size (.cells #[.int .i64 x.r.kind, .int .i64 x.r.time, .slice x.r.la x.r.ln x.r.lc, .string x.r.text, .int .i64 x.r.value, .bool x.r.null, .int .i64 x.who, .int .i64 x.sq, .int .i64 x.pl] 62))) rfl
      have q1 : (wr.alloc (.cells #[.int .i64 x.r.kind, .int .i64 x.r.time, .slice x.r.la x.r.ln x.r.lc, .string x.r.text, .int .i64 x.r.value, .bool x.r.null, .int .i64 x.who, .int .i64 x.sq, .int .i64 x.pl] 62)).cell? ⟨w.heap.size, 1, none⟩ = some (.int .i64 to) := box_cell (HQ.out _ (HB.out.alloc HB.out.size (.cells #[.int .i64 x.r.kind, .int .i64 x.r.time, .slice x.r.la x.r.ln x.r.lc, .string x.r.text, .int .i64 x.r.value, .bool x.r.null, .int .i64 x.who, .int .i64 x.sq, .int .i64 x.pl] 62))) rfl
      have q2 : (wr.alloc (.cells #[.int .i64 x.r.kind, .int .i64 x.r.time, .slice x.r.la x.r.ln x.r.lc, .string x.r.text, .int .i64 x.r.value, .bool x.r.null, .int .i64 x.who, .int .i64 x.sq, .int .i64 x.pl] 62)).cell? ⟨w.heap.size, 2, none⟩ = some (.slice a n c) := box_cell (HQ.out _ (HB.out.alloc HB.out.size (.cells #[.int .i64 x.r.kind, .int .i64 x.r.time, .slice x.r.la x.r.ln x.r.lc, .string x.r.text, .int .i64 x.r.value, .bool x.r.null, .int .i64 x.who, .int .i64 x.sq, .int .i64 x.pl] 62))) rfl
      have q3 : (wr.alloc (.cells #[.int .i64 x.r.kind, .int .i64 x.r.time, .slice x.r.la x.r.ln x.r.lc, .string x.r.text, .int .i64 x.r.value, .bool x.r.null, .int .i64 x.who, .int .i64 x.sq, .int .i64 x.pl] 62)).cell? ⟨w.heap.size, 3, none⟩ = some (.int .i64 lim) := box_cell (HQ.out _ (HB.out.alloc HB.out.size (.cells #[.int .i64 x.r.kind, .int .i64 x.r.time, .slice x.r.la x.r.ln x.r.lc, .string x.r.text, .int .i64 x.r.value, .bool x.r.null, .int .i64 x.who, .int .i64 x.sq, .int .i64 x.pl] 62))) rfl
      have q4 : (wr.alloc (.cells #[.int .i64 x.r.kind, .int .i64 x.r.time, .slice x.r.la x.r.ln x.r.lc, .string x.r.text, .int .i64 x.r.value, .bool x.r.null, .int .i64 x.who, .int .i64 x.sq, .int .i64 x.pl] 62)).cell? ⟨w.heap.size, 4, none⟩ = some (.bool tx) := box_cell (HQ.out _ (HB.out.alloc HB.out.size (.cells #[.int .i64 x.r.kind, .int .i64 x.r.time, .slice x.r.la x.r.ln x.r.lc, .string x.r.text, .int .i64 x.r.value, .bool x.r.null, .int .i64 x.who, .int .i64 x.sq, .int .i64 x.pl] 62))) rfl
      go_wp2_with fail
      rw [← HW6.out, ← HB6.out]
      refine (qkeeps_any HM6.out HXL6.out).mono ?_
      rintro e w7 ⟨rfl, hb7⟩
      have HB7 := Lib.hid (HBW.out.trans (hb7.mono HBW.out.size))
      have HO7 := Lib.hid (own_below HO6.out hb7)
      have HX7 := Lib.hid (HX6.out w7 hb7)
      clear hb7 q0 q1 q2 q3 q4
      cases hk : keepS (⟨fr, to, ms, lim, tx⟩ : QP) x.says with
      | false =>
        have HF7 := Lib.hid (show fs = (l.take (k + 1)).filter (fun x => keepS (⟨fr, to, ms, lim, tx⟩ : QP) x.says) from by rw [HTK.out, List.filter_append, ← HF.out, show [x].filter (fun x => keepS (⟨fr, to, ms, lim, tx⟩ : QP) x.says) = [] from List.filter_cons_of_neg (by rw [hk]; decide), List.append_nil])
        clear hk
        go_wp2_with fail
        go_roundw
        case rel => exact ⟨k + 1, fs, by omega, by go_num, by omega, HO7, HF7, HB7⟩
        case measure => simp [intOf]; omega
      | true =>
        have HF7 := Lib.hid (show fs ++ [x] = (l.take (k + 1)).filter (fun x => keepS (⟨fr, to, ms, lim, tx⟩ : QP) x.says) from by rw [HTK.out, List.filter_append, ← HF.out, show [x].filter (fun x => keepS (⟨fr, to, ms, lim, tx⟩ : QP) x.says) = [x] from List.filter_cons_of_pos hk])
        clear hk
        have c0 : w7.cell? ⟨b6, 0, none⟩ = some (.int .i64 x.r.kind) := HX7.out 0 _ rfl
        have c1 : w7.cell? ⟨b6, 1, none⟩ = some (.int .i64 x.r.time) := HX7.out 1 _ rfl
        have c2 : w7.cell? ⟨b6, 2, none⟩ = some (.slice x.r.la x.r.ln x.r.lc) := HX7.out 2 _ rfl
        have c3 : w7.cell? ⟨b6, 3, none⟩ = some (.string x.r.text) := HX7.out 3 _ rfl
        have c4 : w7.cell? ⟨b6, 4, none⟩ = some (.int .i64 x.r.value) := HX7.out 4 _ rfl
        have c5 : w7.cell? ⟨b6, 5, none⟩ = some (.bool x.r.null) := HX7.out 5 _ rfl
        have c6 : w7.cell? ⟨b6, 6, none⟩ = some (.int .i64 x.who) := HX7.out 6 _ rfl
        have c7 : w7.cell? ⟨b6, 7, none⟩ = some (.int .i64 x.sq) := HX7.out 7 _ rfl
        have c8 : w7.cell? ⟨b6, 8, none⟩ = some (.int .i64 x.pl) := HX7.out 8 _ rfl
        have hb8 : Below w7.heap.size w7 (w7.alloc (.cells #[.int .i64 x.r.kind, .int .i64 x.r.time, .slice x.r.la x.r.ln x.r.lc, .string x.r.text, .int .i64 x.r.value, .bool x.r.null, .int .i64 x.who, .int .i64 x.sq, .int .i64 x.pl] 62)) := (Below.refl _ _).alloc (Nat.le_refl _) _
        have HN8 := Lib.hid (own_below HO7.out hb8)
        have HB8 := Lib.hid (HB7.out.trans (hb8.mono HB7.out.size))
        have hs8 := HB8.out.size
        have HSRC8 := Lib.hid (row_src w7 x 62)
        clear hb8
        go_wp2_with (at_builtin; refine wpList_append_own_at _ rfl (.tmp 17) (.tmp 19) 58 rfl w1.heap.size 62 i0 _ 9 96 Try.underlying58 hi hz0 hz1 hz2 rfl (by decide) _ _ _ rfl HN8.out ⟨w7.heap.size, 0, none⟩ 1 1 (RowV.cells x) rfl rfl HSRC8.out (rcells_one _) (by unfold maxLen; omega) (by omega) hs8 ?_)
        intro v9 w9 hown9 hgrow9 _ _
        have HN9 := Lib.hid (show w9.ownsRow w1.heap.size 62 9 v9 (fs ++ [x]).length (rcells (fs ++ [x])) from by rw [rcells_snoc, List.length_append]; exact hown9)
        have HB9 := Lib.hid (HB8.out.grown hgrow9 HB8.out.size (fun p hp => (HN8.out.lt p hp).1))
        have hlen9 : (fs ++ [x]).length ≤ k + 1 := by rw [List.length_append, List.length_singleton]; omega
        clear hown9 hgrow9 hs8
        go_wp2_with fail
        go_roundw
        case rel => exact ⟨k + 1, fs ++ [x], by omega, by go_num, hlen9, HN9, HF7, HB9⟩
        case measure => simp [intOf]; omega
    · obtain rfl : k = rn := by omega
      have hfe : fs = l.filter (fun x => keepS (⟨fr, to, ms, lim, tx⟩ : QP) x.says) := by rw [HF.out, List.take_of_length_le (by rw [HL.out]; exact Nat.le_refl _)]
      obtain ⟨a9, c9, he9, hat⟩ := RowsAt.ofOwn HO.out rfl (fun x hx => HR.out.fits x (by rw [hfe] at hx; exact (List.mem_filter.1 hx).1)) (fun x hx => (HR.out.kept HB.out).labs x (by rw [hfe] at hx; exact (List.mem_filter.1 hx).1))
      have HAT := Lib.hid hat
      have HFE := Lib.hid hfe
      subst he9
      clear hat hfe hlt
      go_wp2_with fail
      go_ret
      exact ⟨a9, _, c9, fs, rfl, HAT.out, HFE.out, HB1.out.trans (HB.out.mono HB1.out.size)⟩

set_option maxRecDepth 100000 in
set_option maxHeartbeats 2000000 in
/-- a clone of rows, in a block of its own -/
theorem rclone_any {w : World} {ad : Addr} {n c : Nat} {l : List RowV} (h : RowsAt w (some ad) n c l) (hn : n ≤ 1000) (hp : 0 < n) :
    Calls Try.prog 87 #[.slice (some ad) n c] w fun e w' => ∃ g' c', e = .returned (.slice (some ⟨g', 0, none⟩) n c') ∧ RowsNew w' g' n c' l ∧ w.heap.size ≤ g' ∧ Below w.heap.size w w' := by
  have hown0 : (w.alloc (.cells #[] 62)).ownsRow w.heap.size 62 9 (.slice (some ⟨w.heap.size, 0, none⟩) 0 0) 0 (rcells []) := World.ownsRow_lit (base := w.heap.size) (e := 62) (size := 9) w #[] 0 (Nat.le_refl _) (by unfold maxLen; omega) rfl
  have hb0 : Below w.heap.size w (w.alloc (.cells #[] 62)) := (Below.refl _ _).alloc (Nat.le_refl _) _
  have HK := Lib.hid (h.kept hb0)
  have HH := Lib.hid h
  have HB0 := Lib.hid hb0
  have HN0 := Lib.hid hown0
  have hs0 := hb0.size
  clear h hb0 hown0
  go_enter Try.func87, Try.ntmps87
  go_wp2_with (at_builtin; refine wpList_append_rows rfl (.tmp 5) (.tmp 6) rfl w.heap.size _ 0 [] rfl HN0.out (some ad) n c l rfl HK.out (by omega) hs0 ?_)
  intro v5 w5 hown5 hgrow5 _
  have hb5 : Below w.heap.size w w5 := HB0.out.grown hgrow5 HB0.out.size (fun q hq => (HN0.out.lt q hq).1)
  have hown6 : w5.ownsRow w.heap.size 62 9 v5 n (rcells l) := by simpa using hown5
  obtain ⟨g, cap, rfl⟩ : ∃ g cap, v5 = .slice (some ⟨g, 0, none⟩) n cap := by
    rcases hown6.2 with ⟨_, h0⟩ | ⟨g, cap, cur, h1, _⟩
    · omega
    · exact ⟨g, cap, h1⟩
  have hat := HH.out.kept hb5
  have hgl := hown6.lt g rfl
  have hnew : RowsNew w5 g n cap l := by
    obtain ⟨a', c', he, hat2⟩ := RowsAt.ofOwn hown6 HH.out.len HH.out.fits (fun x hx => hat.labs x hx)
    cases he
    refine ⟨hat2, ⟨fun i hi j u hu => ?_, fun i hi j hj => ?_⟩, hgl.2, fun x hx w2 h2 => ?_⟩
    · obtain ⟨b, off, he, hlt, hc⟩ := hat2.cells hp
      cases he
      have := hc i hi j u hu
      rw [Nat.zero_add] at this
      exact this
    · rcases hown6.2 with ⟨h0, _⟩ | ⟨g', cap', cur, he, hg, hh, hnc, hcap, hsz, htake⟩
      · cases h0
      · cases he
        have hlt : i * 9 + j < cur.size := by rw [hsz]; omega
        refine ⟨?_, ?_⟩
        · rw [cell_of_row w5 _ _ _ _ (0, 0) hh]; simp [hlt]
        · simp [World.frozen?, hh]
    · exact (HH.out.labs x hx).keep (B := w.heap.size) (h2.old hb5 hgl.1 hb5.size) (Nat.le_refl _)
  have HNEW := Lib.hid hnew
  have HB5 := Lib.hid hb5
  have HG := Lib.hid hgl.1
  clear hown5 hgrow5 hown6 hat hgl hnew hb5
  go_wp2_with fail
  go_ret
  exact ⟨g, cap, rfl, HNEW.out, HG.out, HB5.out⟩
/-- all of it, and no room behind it: where it was asked without a limit -/
def FullA (q : QP) (a : Option Addr) (n c : Nat) : Prop := qRight q = true → ¬ 0 < q.lim → ∃ g, a = some ⟨g, 0, none⟩ ∧ c = n
/-- a row without its text -/
def blankR (x : RowV) : RowV := { x with r := { x.r with text := ByteArray.empty } }
def blankS (s : Say) : Say := (s.1, s.2.1, s.2.2.1, ByteArray.empty, s.2.2.2.2)
theorem blank_says (x : RowV) : (blankR x).says = blankS x.says := rfl
theorem map_blank (l : List RowV) : (l.map blankR).map RowV.says = (l.map RowV.says).map blankS := by rw [List.map_map, List.map_map]; rfl
theorem textS_yes {q : QP} (h : q.tx = true) : textS q = id := by funext s; unfold textS; rw [if_pos h]; rfl
theorem textS_no {q : QP} (h : q.tx = false) : textS q = blankS := by funext s; unfold textS; rw [if_neg (by rw [h]; decide)]; rfl
theorem filter_says (q : QP) (l : List RowV) : (l.filter (fun x => keepS q x.says)).map RowV.says = (l.map RowV.says).filter (keepS q) := by rw [List.filter_map]; rfl
theorem Nines.text {w : World} {g n : Nat} {f : Nat → RowV} (h : Nines w g n f) {k : Nat} (hk : k < n) : Nines (w.setCell ⟨g, k * 9 + 3, none⟩ (.string ByteArray.empty)) g n (fun i => if i < k + 1 then (if i < k then f i else blankR (f i)) else f i) := by
  have e : w.setCell ⟨g, k * 9 + 3, none⟩ (.string ByteArray.empty) = w.setCells g (k * 9 + 3) [.string ByteArray.empty] := rfl
  rw [e]
  refine ⟨fun i hi => ?_, fun i hi => World.there_setCells (h.free i hi) g _ _⟩
  by_cases hik : i = k
  · subst hik
    rw [if_pos (by omega), if_neg (by omega)]
    intro j u hu
    by_cases hj3 : j = 3
    · subst hj3
      have h1 := World.rangeAt_setCells_same w g (i * 9 + 3) [.string ByteArray.empty] (fun j hj => by
        obtain rfl : j = 0 := by simpa using hj
        exact h.free i hi 3 (by omega))
      have h2 := h1 0 _ rfl
      have h3 : u = .string ByteArray.empty := by simpa [blankR, RowV.cells] using hu.symm
      rw [h3]; exact h2
    · have hj9 : j < 9 := (List.getElem?_eq_some_iff.1 hu).1
      have hu2 : (f i).cells[j]? = some u := by
        rw [← hu]
        unfold RowV.cells blankR
        rcases (by omega : j = 0 ∨ j = 1 ∨ j = 2 ∨ j = 4 ∨ j = 5 ∨ j = 6 ∨ j = 7 ∨ j = 8) with rfl | rfl | rfl | rfl | rfl | rfl | rfl | rfl <;> rfl
      have h1 : w.rangeAt g (i * 9 + j) [u] := by
        intro q v hq
        have : q < 1 := (List.getElem?_eq_some_iff.1 hq).1
        obtain rfl : q = 0 := by omega
        have : v = u := by simpa using hq.symm
        rw [this]
        exact h.at' i hi j u hu2
      have h2 := World.rangeAt_setCells_apart h1 g (i * 9 + 3) [.string ByteArray.empty] (.inr (by show i * 9 + j + 1 ≤ i * 9 + 3 ∨ i * 9 + 3 + 1 ≤ i * 9 + j; omega))
      exact h2 0 u rfl
  · have hnot : (if i < k + 1 then (if i < k then f i else blankR (f i)) else f i) = f i := by
      split
      · rw [if_pos (by omega)]
      · rfl
    rw [hnot]
    exact World.rangeAt_setCells_apart (h.at' i hi) g (k * 9 + 3) [.string ByteArray.empty] (.inr (by show i * 9 + 9 ≤ k * 9 + 3 ∨ k * 9 + 3 + 1 ≤ i * 9; omega))
theorem Nines.congr {w : World} {g n : Nat} {f f' : Nat → RowV} (h : Nines w g n f) (e : ∀ i, i < n → f' i = f i) : Nines w g n f' := ⟨fun i hi => by rw [e i hi]; exact h.at' i hi, h.free⟩
/-- how many have lost their texts -/
def upB (rs : List RowV) (k : Nat) : Nat → RowV := fun i => if i < k then blankR (atL rs i) else atL rs i
theorem upB_step {w : World} {g n : Nat} {rs : List RowV} {k : Nat} (h : Nines w g n (upB rs k)) (hk : k < n) : Nines (w.setCell ⟨g, k * 9 + 3, none⟩ (.string ByteArray.empty)) g n (upB rs (k + 1)) := by
  refine (h.text hk).congr fun i hi => ?_
  unfold upB
  by_cases h1 : i < k
  · rw [if_pos (by omega), if_pos (by omega), if_pos h1, if_pos h1]
  · by_cases h2 : i < k + 1
    · rw [if_pos h2, if_pos h2, if_neg h1, if_neg h1]
    · rw [if_neg h2, if_neg h2, if_neg h1]
theorem blank_rows {w w2 : World} {g n c : Nat} {rs : List RowV} (h : RowsNew w g n c rs) (hn : Nines w2 g n (upB rs n)) (ht : Turns1 g w w2) : RowsAt w2 (some ⟨g, 0, none⟩) n c (rs.map blankR) := by
  refine ⟨by rw [List.length_map, h.rows.len], h.rows.cap, h.rows.capm, (fun e => by cases e), fun x hx => ?_, fun x hx => ?_, fun hp => ⟨g, 0, rfl, Nat.lt_of_lt_of_le h.lt ht.size, fun i hi j u hu => ?_⟩⟩
  · obtain ⟨y, hy, rfl⟩ := List.mem_map.1 hx
    have hf := h.rows.fits y hy
    unfold RowV.fits RecV.fits at hf ⊢
    refine ⟨?_, hf.2⟩
    have h1 := hf.1
    simp only [blankR]
    exact ⟨h1.1, h1.2.1, h1.2.2.1, by decide, h1.2.2.2.2⟩
  · obtain ⟨y, hy, rfl⟩ := List.mem_map.1 hx
    exact h.labs y hy w2 ht
  · have e : (rs.map blankR).getD i row0 = upB rs n i := by
      unfold upB atL
      rw [if_pos hi]
      simp [h.rows.len, hi]
    rw [e] at hu
    rw [Nat.zero_add]
    exact hn.at' i hi j u hu

set_option maxRecDepth 100000 in
set_option maxHeartbeats 4000000 in
theorem answer_any {w : World} {a : Option Addr} {n c : Nat} {ms : List Mat} {fr to lim : Int} {tx : Bool} (h : MatsAt w a n c ms) {ra : Option Addr} {rn rc : Nat} {l : List RowV} (hr : RowsAt w ra rn rc l) (hn : rn ≤ 1000) :
    Calls Try.prog 53 #[.agg #[.int .i64 fr, .int .i64 to, .slice a n c, .int .i64 lim, .bool tx], .slice ra rn rc] w fun e w' => ∃ a' n' c' rs, e = .returned (.slice a' n' c') ∧ RowsAt w' a' n' c' rs ∧ rs.map RowV.says = ansS (⟨fr, to, ms, lim, tx⟩ : QP) (l.map RowV.says) ∧ n' ≤ rn ∧ FullA (⟨fr, to, ms, lim, tx⟩ : QP) a' n' c' ∧ Below w.heap.size w w' := by
  obtain ⟨w1, hw1⟩ : ∃ w1, w1 = w.alloc (.cells #[.int .i64 fr, .int .i64 to, .slice a n c, .int .i64 lim, .bool tx] 76) := ⟨_, rfl⟩
  have hb1 : Below w.heap.size w w1 := by rw [hw1]; exact (Below.refl _ _).alloc (Nat.le_refl _) _
  have HW1 := Lib.hid hw1
  have HB1 := Lib.hid hb1
  have HM := Lib.hid (h.keep hb1 (Nat.le_refl _))
  have HR := Lib.hid (hr.kept hb1)
  have HL := Lib.hid hr.len
  have HQ := Lib.hid (show ∀ wr, Below w1.heap.size w1 wr → Below (w.alloc (.cells #[.int .i64 fr, .int .i64 to, .slice a n c, .int .i64 lim, .bool tx] 76)).heap.size (w.alloc (.cells #[.int .i64 fr, .int .i64 to, .slice a n c, .int .i64 lim, .bool tx] 76)) wr from fun wr hb => by rw [hw1] at hb; exact hb)
  clear h hr hb1 hw1
  go_enter Try.func53, Try.ntmps53
  go_wp2_with fail
  rw [← HW1.out]
  refine (qright_any HM.out).mono ?_
  rintro e w2 ⟨rfl, hb2⟩
  have HB2 := Lib.hid hb2
  have q0 : w2.cell? ⟨w.heap.size, 0, none⟩ = some (.int .i64 fr) := box_cell (HQ.out w2 HB2.out) rfl
  have q1 : w2.cell? ⟨w.heap.size, 1, none⟩ = some (.int .i64 to) := box_cell (HQ.out w2 HB2.out) rfl
  have q2 : w2.cell? ⟨w.heap.size, 2, none⟩ = some (.slice a n c) := box_cell (HQ.out w2 HB2.out) rfl
  have q3 : w2.cell? ⟨w.heap.size, 3, none⟩ = some (.int .i64 lim) := box_cell (HQ.out w2 HB2.out) rfl
  have q4 : w2.cell? ⟨w.heap.size, 4, none⟩ = some (.bool tx) := box_cell (HQ.out w2 HB2.out) rfl
  clear hb2
  cases hqr : qRight (⟨fr, to, ms, lim, tx⟩ : QP) with
  | false =>
    have HE := Lib.hid (show ([] : List RowV).map RowV.says = ansS (⟨fr, to, ms, lim, tx⟩ : QP) (l.map RowV.says) from by unfold ansS; rw [if_neg (by rw [hqr]; decide)]; rfl)
    have HNR := Lib.hid hqr
    clear hqr
    go_wp2_with fail
    go_ret
    exact ⟨none, 0, 0, [], rfl, RowsAt.empty _ _ _ (by omega) (fun _ => rfl), HE.out, by omega, (fun h => by rw [HNR.out] at h; cases h), HB1.out.trans (HB2.out.mono HB1.out.size)⟩
  | true =>
    have HQR := Lib.hid hqr
    have hlm := (qRight_iff.1 hqr).1.2.2.2.2
    simp only at hlm
    have HM2 := Lib.hid (HM.out.keep HB2.out (Nat.le_refl _))
    have HR2 := Lib.hid (HR.out.kept HB2.out)
    clear hqr
    go_wp2_with fail
    refine (keptof_any HM2.out HR2.out hn).mono ?_
    rintro e w3 ⟨a3, n3, c3, l3, rfl, hat3, hl3, hb3⟩
    have hn3 : n3 ≤ rn := by rw [← hat3.len, hl3, ← HL.out]; exact List.length_filter_le _ _
    have HAT3 := Lib.hid hat3
    have HL3 := Lib.hid hl3
    have HB3 := Lib.hid (HB2.out.trans (hb3.mono HB2.out.size))
    clear hat3 hl3 hb3 q0 q1 q2 q3 q4
    go_wp2_with fail
    refine (sort_new HAT3.out (by omega)).mono ?_
    rintro e w4 ⟨c4, l1, l4, rfl, hcn4, hnew4, hs4, hst4, hb4⟩
    have HCN := Lib.hid hcn4
    clear hcn4
    obtain ⟨g4, hg4⟩ : ∃ g4, g4 = w3.heap.size := ⟨_, rfl⟩
    rw [← hg4] at hnew4 ⊢
    have HSY4 := Lib.hid (show l4.map RowV.says = sortB ltS ((l.map RowV.says).filter (keepS (⟨fr, to, ms, lim, tx⟩ : QP))) from by
      rw [sorted_says hs4 hst4 HAT3.out.len hnew4.rows.len, HL3.out, filter_says])
    have HNEW4 := Lib.hid hnew4
    have HB4 := Lib.hid (HB3.out.trans (hb4.mono HB3.out.size))
    have HGG := Lib.hid hg4
    have hc4 := hnew4.rows.cap
    have hcm4 := hnew4.rows.capm
    clear hnew4 hs4 hst4 hb4 hg4
    have q0 : w4.cell? ⟨w.heap.size, 0, none⟩ = some (.int .i64 fr) := box_cell (HQ.out w4 HB4.out) rfl
    have q1 : w4.cell? ⟨w.heap.size, 1, none⟩ = some (.int .i64 to) := box_cell (HQ.out w4 HB4.out) rfl
    have q2 : w4.cell? ⟨w.heap.size, 2, none⟩ = some (.slice a n c) := box_cell (HQ.out w4 HB4.out) rfl
    have q3 : w4.cell? ⟨w.heap.size, 3, none⟩ = some (.int .i64 lim) := box_cell (HQ.out w4 HB4.out) rfl
    have q4 : w4.cell? ⟨w.heap.size, 4, none⟩ = some (.bool tx) := box_cell (HQ.out w4 HB4.out) rfl
    have HWB := Lib.hid (HB1.out.trans (HB4.out.mono HB1.out.size))
    have HGB := Lib.hid (show w.heap.size ≤ g4 from by rw [HGG.out]; exact Nat.le_trans HB1.out.size HB3.out.size)
    by_cases hlim : 0 < lim
    · obtain ⟨m, rfl⟩ := Int.eq_ofNat_of_zero_le hlm.1
      have hm0 : 0 < m := by omega
      by_cases hcut : m < n3
      · have hcuti : (m : Int) < (n3 : Int) := by omega
        have hmc : (m : Int) ≤ (c4 : Int) := by omega
        go_wp2_with fail
        refine (rclone_any (HNEW4.out.rows.front (m := m) (by omega)) (by omega) hm0).mono ?_
        rintro e w5 ⟨g5, c5, rfl, hnew5, hg5, hb5⟩
        have HB5 := Lib.hid (HWB.out.trans (hb5.mono HWB.out.size))
        have HNEW5 := Lib.hid hnew5
        have HGB5 := Lib.hid (Nat.le_trans HWB.out.size hg5)
        have hc5 := hnew5.rows.cap
        have hcm5 := hnew5.rows.capm
        have HSY5 := Lib.hid (show (l4.take m).map RowV.says = cutS (⟨fr, to, ms, (m : Int), tx⟩ : QP) (sortB ltS ((l.map RowV.says).filter (keepS (⟨fr, to, ms, (m : Int), tx⟩ : QP)))) from by
          unfold cutS
          rw [if_pos hlim, List.map_take, HSY4.out]; rfl)
        have q4 : w5.cell? ⟨w.heap.size, 4, none⟩ = some (.bool tx) := box_cell (HQ.out w5 (HB4.out.trans (hb5.mono HB4.out.size))) rfl
        clear hnew5 hg5 hb5 q0 q1 q2 q3 HNEW4 HSY4 HGB HWB
        have hnb : m ≤ rn := by omega
        cases tx with
        | true =>
          have HE := Lib.hid (show (l4.take m).map RowV.says = ansS (⟨fr, to, ms, (m : Int), true⟩ : QP) (l.map RowV.says) from by
            unfold ansS
            rw [if_pos HQR.out, textS_yes rfl, List.map_id]; exact HSY5.out)
          go_wp2_with fail
          go_ret
          first | exact ⟨some ⟨g5, 0, none⟩, m, c5, l4.take m, rfl, HNEW5.out.rows, HE.out, hnb, (fun _ h => absurd hlim h), HB5.out⟩ | exact ⟨some ⟨g5, 0, none⟩, m, c5, rfl, l4.take m, HNEW5.out.rows, HE.out, hnb, (fun _ h => absurd hlim h), HB5.out⟩
        | false =>
          have HE := Lib.hid (show ((l4.take m).map blankR).map RowV.says = ansS (⟨fr, to, ms, (m : Int), false⟩ : QP) (l.map RowV.says) from by
            unfold ansS
            rw [if_pos HQR.out, textS_no rfl, map_blank, HSY5.out]
            try rfl)
          have HN0 := Lib.hid (show Nines w5 g5 m (upB (l4.take m) 0) from HNEW5.out.nines.congr (fun i hi => by unfold upB; rw [if_neg (Nat.not_lt_zero _)]))
          clear HSY5
          go_wp2_with fail
          go_loopw [6, 34] (fun s6 s34 wr => ∃ k : Nat, k ≤ m ∧ s34 = .int .i64 (k : Int) ∧ Hid (Nines wr g5 m (upB (l4.take m) k)) ∧ Hid (Turns1 g5 w5 wr)) (fun _ s34 _ => m - (intOf s34).toNat)
          case atStart => exact ⟨0, by omega, rfl, HN0, Lib.hid (Turns1.refl _ _)⟩
          case round =>
            obtain ⟨k, hkn, rfl, HN, HT⟩ := hrel
            rename World => wr
            by_cases hlt : k < m
            · have hlti : (k : Int) < (m : Int) := by omega
              obtain ⟨tt, ht⟩ : ∃ tt, wr.cell? ⟨g5, k * 9 + 3, none⟩ = some (.string tt) := ⟨_, HN.out.at' k hlt 3 _ rfl⟩
              have hf : wr.frozen? ⟨g5, k * 9 + 3, none⟩ = false := (HN.out.free k hlt 3 (by omega)).2
              have HN5 := Lib.hid (upB_step HN.out hlt)
              have HT5 := Lib.hid (HT.out.set (k * 9 + 3) (.string ByteArray.empty))
              go_wp2_with fail
              go_roundw
              case rel => exact ⟨k + 1, by omega, by go_num, HN5, HT5⟩
              case measure => simp [intOf]; omega
            · obtain rfl : k = m := by omega
              have HAT := Lib.hid (blank_rows HNEW5.out HN.out HT.out)
              have HBF := Lib.hid (HT.out.old HB5.out HGB5.out HB5.out.size)
              go_wp2_with fail
              go_ret
              first | exact ⟨some ⟨g5, 0, none⟩, k, c5, (l4.take k).map blankR, rfl, HAT.out, HE.out, hnb, (fun _ h => absurd hlim h), HBF.out⟩ | exact ⟨some ⟨g5, 0, none⟩, k, c5, rfl, (l4.take k).map blankR, HAT.out, HE.out, hnb, (fun _ h => absurd hlim h), HBF.out⟩
      · have hcuti : ¬ (m : Int) < (n3 : Int) := by omega
        have HSY5 := Lib.hid (show l4.map RowV.says = cutS (⟨fr, to, ms, (m : Int), tx⟩ : QP) (sortB ltS ((l.map RowV.says).filter (keepS (⟨fr, to, ms, (m : Int), tx⟩ : QP)))) from by
          have hlen : (sortB ltS ((l.map RowV.says).filter (keepS (⟨fr, to, ms, (m : Int), tx⟩ : QP)))).length = n3 := by rw [← HSY4.out, List.length_map, HNEW4.out.rows.len]
          unfold cutS
          rw [if_pos hlim, HSY4.out, List.take_of_length_le (by rw [hlen]; show n3 ≤ (m : Int).toNat; omega)])
        clear HSY4
        have hnb : n3 ≤ rn := by omega
        cases tx with
        | true =>
          have HE := Lib.hid (show (l4).map RowV.says = ansS (⟨fr, to, ms, (m : Int), true⟩ : QP) (l.map RowV.says) from by
            unfold ansS
            rw [if_pos HQR.out, textS_yes rfl, List.map_id]; exact HSY5.out)
          go_wp2_with fail
          go_ret
          first | exact ⟨some ⟨g4, 0, none⟩, n3, c4, l4, rfl, HNEW4.out.rows, HE.out, hnb, (fun _ h => absurd hlim h), HWB.out⟩ | exact ⟨some ⟨g4, 0, none⟩, n3, c4, rfl, l4, HNEW4.out.rows, HE.out, hnb, (fun _ h => absurd hlim h), HWB.out⟩
        | false =>
          have HE := Lib.hid (show ((l4).map blankR).map RowV.says = ansS (⟨fr, to, ms, (m : Int), false⟩ : QP) (l.map RowV.says) from by
            unfold ansS
            rw [if_pos HQR.out, textS_no rfl, map_blank, HSY5.out]
            try rfl)
          have HN0 := Lib.hid (show Nines w4 g4 n3 (upB (l4) 0) from HNEW4.out.nines.congr (fun i hi => by unfold upB; rw [if_neg (Nat.not_lt_zero _)]))
          clear HSY5
          go_wp2_with fail
          go_loopw [6, 34] (fun s6 s34 wr => ∃ k : Nat, k ≤ n3 ∧ s34 = .int .i64 (k : Int) ∧ Hid (Nines wr g4 n3 (upB (l4) k)) ∧ Hid (Turns1 g4 w4 wr)) (fun _ s34 _ => n3 - (intOf s34).toNat)
          case atStart => exact ⟨0, by omega, rfl, HN0, Lib.hid (Turns1.refl _ _)⟩
          case round =>
            obtain ⟨k, hkn, rfl, HN, HT⟩ := hrel
            rename World => wr
            by_cases hlt : k < n3
            · have hlti : (k : Int) < (n3 : Int) := by omega
              obtain ⟨tt, ht⟩ : ∃ tt, wr.cell? ⟨g4, k * 9 + 3, none⟩ = some (.string tt) := ⟨_, HN.out.at' k hlt 3 _ rfl⟩
              have hf : wr.frozen? ⟨g4, k * 9 + 3, none⟩ = false := (HN.out.free k hlt 3 (by omega)).2
              have HN5 := Lib.hid (upB_step HN.out hlt)
              have HT5 := Lib.hid (HT.out.set (k * 9 + 3) (.string ByteArray.empty))
              go_wp2_with fail
              go_roundw
              case rel => exact ⟨k + 1, by omega, by go_num, HN5, HT5⟩
              case measure => simp [intOf]; omega
            · obtain rfl : k = n3 := by omega
              have HAT := Lib.hid (blank_rows HNEW4.out HN.out HT.out)
              have HBF := Lib.hid (HT.out.old HWB.out HGB.out HWB.out.size)
              go_wp2_with fail
              go_ret
              first | exact ⟨some ⟨g4, 0, none⟩, k, c4, (l4).map blankR, rfl, HAT.out, HE.out, hnb, (fun _ h => absurd hlim h), HBF.out⟩ | exact ⟨some ⟨g4, 0, none⟩, k, c4, rfl, (l4).map blankR, HAT.out, HE.out, hnb, (fun _ h => absurd hlim h), HBF.out⟩
    · have HSY5 := Lib.hid (show l4.map RowV.says = cutS (⟨fr, to, ms, lim, tx⟩ : QP) (sortB ltS ((l.map RowV.says).filter (keepS (⟨fr, to, ms, lim, tx⟩ : QP)))) from by
        unfold cutS
        rw [if_neg hlim, HSY4.out])
      clear HSY4
      have hnb : n3 ≤ rn := by omega
      cases tx with
      | true =>
        have HE := Lib.hid (show (l4).map RowV.says = ansS (⟨fr, to, ms, lim, true⟩ : QP) (l.map RowV.says) from by
          unfold ansS
          rw [if_pos HQR.out, textS_yes rfl, List.map_id]; exact HSY5.out)
        go_wp2_with fail
        go_ret
        first | exact ⟨some ⟨g4, 0, none⟩, n3, c4, l4, rfl, HNEW4.out.rows, HE.out, hnb, (fun _ _ => ⟨g4, rfl, HCN.out⟩), HWB.out⟩ | exact ⟨some ⟨g4, 0, none⟩, n3, c4, rfl, l4, HNEW4.out.rows, HE.out, hnb, (fun _ _ => ⟨g4, rfl, HCN.out⟩), HWB.out⟩
      | false =>
        have HE := Lib.hid (show ((l4).map blankR).map RowV.says = ansS (⟨fr, to, ms, lim, false⟩ : QP) (l.map RowV.says) from by
          unfold ansS
          rw [if_pos HQR.out, textS_no rfl, map_blank, HSY5.out]
          try rfl)
        have HN0 := Lib.hid (show Nines w4 g4 n3 (upB (l4) 0) from HNEW4.out.nines.congr (fun i hi => by unfold upB; rw [if_neg (Nat.not_lt_zero _)]))
        clear HSY5
        go_wp2_with fail
        go_loopw [6, 34] (fun s6 s34 wr => ∃ k : Nat, k ≤ n3 ∧ s34 = .int .i64 (k : Int) ∧ Hid (Nines wr g4 n3 (upB (l4) k)) ∧ Hid (Turns1 g4 w4 wr)) (fun _ s34 _ => n3 - (intOf s34).toNat)
        case atStart => exact ⟨0, by omega, rfl, HN0, Lib.hid (Turns1.refl _ _)⟩
        case round =>
          obtain ⟨k, hkn, rfl, HN, HT⟩ := hrel
          rename World => wr
          by_cases hlt : k < n3
          · have hlti : (k : Int) < (n3 : Int) := by omega
            obtain ⟨tt, ht⟩ : ∃ tt, wr.cell? ⟨g4, k * 9 + 3, none⟩ = some (.string tt) := ⟨_, HN.out.at' k hlt 3 _ rfl⟩
            have hf : wr.frozen? ⟨g4, k * 9 + 3, none⟩ = false := (HN.out.free k hlt 3 (by omega)).2
            have HN5 := Lib.hid (upB_step HN.out hlt)
            have HT5 := Lib.hid (HT.out.set (k * 9 + 3) (.string ByteArray.empty))
            go_wp2_with fail
            go_roundw
            case rel => exact ⟨k + 1, by omega, by go_num, HN5, HT5⟩
            case measure => simp [intOf]; omega
          · obtain rfl : k = n3 := by omega
            have HAT := Lib.hid (blank_rows HNEW4.out HN.out HT.out)
            have HBF := Lib.hid (HT.out.old HWB.out HGB.out HWB.out.size)
            go_wp2_with fail
            go_ret
            first | exact ⟨some ⟨g4, 0, none⟩, k, c4, (l4).map blankR, rfl, HAT.out, HE.out, hnb, (fun _ _ => ⟨g4, rfl, HCN.out⟩), HBF.out⟩ | exact ⟨some ⟨g4, 0, none⟩, k, c4, rfl, (l4).map blankR, HAT.out, HE.out, hnb, (fun _ _ => ⟨g4, rfl, HCN.out⟩), HBF.out⟩
end Go.Proofs.Ytjbljplgkbnpmaa
end SecQRA1
