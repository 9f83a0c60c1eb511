/- Labels: the reference's Meets, walked. Written by genlabmeet.py. -/
import Derived.Test.YtmnfdkclkjeggaaLabMeet2
import Derived.BigQuiet
namespace Go.Proofs.Ytmnfdkclkjeggaa
open Go.RowKit LabPlain
set_option linter.unusedVariables false

theorem lst_size {w : World} {a : Option Addr} {n c : Nat} {l : List Lab} (h : LabsAt w a n c l) (nm : ByteArray) : ∀ k, k ≤ n → (lst l nm k).1.size ≤ 140737488355328
  | 0, _ => by show ByteArray.empty.size ≤ _; simp
  | k + 1, hk => by
    rw [lst]
    by_cases e : (l.getD k lab0).1 = nm
    · rw [if_pos e]; exact (h.size _ (lab_mem (by have := h.len; omega))).2
    · rw [if_neg e]; exact lst_size h nm k (by omega)
/-- what the inner loop knows: has, is, begins -/
def is2 (g : ByteArray × Bool) (v : ByteArray) : Bool := g.2 && decide (g.1 = v)
def st2 (g : ByteArray × Bool) (v : ByteArray) : Bool := g.2 && prefB v g.1
theorem meet1_of (g : ByteArray × Bool) (v : ByteArray) : meet1 g 1 v = is2 g v ∧ meet1 g 2 v = !is2 g v ∧ meet1 g 3 v = st2 g v ∧ meet1 g 4 v = g.2 :=
  ⟨rfl, by show (!g.2 || !decide (g.1 = v)) = !(g.2 && decide (g.1 = v)); rw [Bool.not_and], rfl, rfl⟩
theorem asks_way {m : Mat} (h : asksB m = true) : m.2.1 = 1 ∨ m.2.1 = 2 ∨ m.2.1 = 3 ∨ m.2.1 = 4 := by
  unfold asksB at h
  rw [Bool.and_eq_true] at h
  have := h.2
  simp only [Bool.or_eq_true, Bool.and_eq_true, decide_eq_true_eq] at this
  rcases this with ((g | g) | g) | g
  · exact .inl g
  · exact .inr (.inl g)
  · exact .inr (.inr (.inl g))
  · exact .inr (.inr (.inr g.1))

set_option maxRecDepth 100000 in
set_option maxHeartbeats 4000000 in
theorem rmeets_any {w : World} {a a' : Option Addr} {n c n' c' : Nat} {l : List Lab} {ms : List Mat} (h : LabsAt w a n c l) (h' : MatsAt w a' n' c' ms) :
    Calls Try.prog 23 #[.slice a n c, .slice a' n' c'] w fun e w' => e = .returned (.bool (meetsB l ms)) ∧ Below w.heap.size w w' := by
  have hlen := h.len
  have hlen' := h'.len
  have hcap := h'.cap
  have hcm := h'.capm
  have hcap0 := h.cap
  have hcm0 := h.capm
  have HH := Lib.hid h
  have HM := Lib.hid h'
  have HL := Lib.hid hlen
  have HL' := Lib.hid hlen'
  have hr := rright_any h
  clear h h' hlen hlen'
  cases hs : isSet l with
  | false =>
    rw [hs] at hr
    have HN := Lib.hid hr
    have HR := Lib.hid (show meetsB l ms = false by unfold meetsB; rw [hs]; rfl)
    clear hr hs
    go_enter Try.func23, Try.ntmps23
    go_wp2_with fail
    refine HN.out.mono ?_
    rintro e w2 ⟨rfl, hb2⟩
    have HB2 := Lib.hid hb2
    clear hb2
    go_wp2_with fail
    go_ret
    rw [HR.out]; exact ⟨rfl, HB2.out⟩
  | true =>
    rw [hs] at hr
    have HN := Lib.hid hr
    have HR := Lib.hid (show meetsB l ms = meetTo l ms n' by unfold meetsB; rw [hs, HL'.out]; rfl)
    clear hr hs
    go_enter Try.func23, Try.ntmps23
    go_wp2_with fail
    refine HN.out.mono ?_
    rintro e w2 ⟨rfl, hb2⟩
    have HB2 := Lib.hid hb2
    clear hb2
    go_wp2_with fail
    go_loopw [17] (fun s17 wr => ∃ k : Nat, k ≤ n' ∧ s17 = .int .i64 (k : Int) ∧ Hid (meetTo l ms k = true) ∧ Hid (Below w.heap.size w wr)) (fun s17 _ => n' - (intOf s17).toNat)
    case atStart => exact ⟨0, by omega, rfl, Lib.hid rfl, HB2⟩
    case round =>
      obtain ⟨k, hk, rfl, HU, HB⟩ := hrel
      rename World => wr
      by_cases hkn : k < n'
      · obtain ⟨b, off, rfl, hlt, hcell⟩ := (HM.out.kept HB.out).cells (by omega)
        obtain ⟨h1, h2, h3⟩ := hcell k hkn
        have hsz := HM.out.size _ (mat_mem (l := ms) (i := k) (by have := HL'.out; omega))
        obtain ⟨x1, hx1⟩ : ∃ x, x = (ms.getD k mat0).1 := ⟨_, rfl⟩
        obtain ⟨x2, hx2⟩ : ∃ x, x = (ms.getD k mat0).2.1 := ⟨_, rfl⟩
        obtain ⟨x3, hx3⟩ : ∃ x, x = (ms.getD k mat0).2.2 := ⟨_, rfl⟩
        rw [← hx1] at h1 hsz
        rw [← hx2] at h2
        rw [← hx3] at h3 hsz
        obtain ⟨hs1, hs2⟩ := hsz
        have hm0 : ms.getD k mat0 = (x1, x2, x3) := by rw [hx1, hx2, hx3]
        have hb3 : Below w.heap.size w (wr.alloc (.cells #[.string x1, .int .i64 x2, .string x3] 33)) := HB.out.alloc HB.out.size _
        have hno := fun (h : (asksB (x1, x2, x3) && meet1 (lst l x1 n) x2 x3) = false) => (show meetsB l ms = false by
          rw [HR.out]
          have := meetTo_no (l := l) (ms := ms) (k := k) (by rw [hm0, HL.out]; exact h) (n' - (k + 1))
          rw [show k + 1 + (n' - (k + 1)) = n' from by omega] at this
          exact this)
        have hyes := fun (h : (asksB (x1, x2, x3) && meet1 (lst l x1 n) x2 x3) = true) => (show meetTo l ms (k + 1) = true by rw [meetTo, HU.out, hm0, HL.out]; exact h)
        obtain ⟨w3, hw3⟩ : ∃ w3, w3 = wr.alloc (.cells #[.string x1, .int .i64 x2, .string x3] 33) := ⟨_, rfl⟩
        obtain ⟨pb, hpb⟩ : ∃ pb, pb = wr.heap.size := ⟨_, rfl⟩
        have hlt3 : pb < w3.heap.size := by rw [hw3, hpb]; exact (Array.getElem?_eq_some_iff.1 (heap_alloc_new wr _)).1
        have hcs := mat_cells wr 33 (.string x1) (.int .i64 x2) (.string x3)
        rw [← hw3, ← hpb] at hcs
        rw [← hw3] at hb3
        have hask : Calls Try.prog 21 #[.agg #[.string x1, .int .i64 x2, .string x3]] (wr.alloc (.cells #[.string x1, .int .i64 x2, .string x3] 33)) fun e w' => e = .returned (.bool (asksB (x1, x2, x3))) ∧ Below w3.heap.size w3 w' := by
          rw [← hw3]; exact rasks_any x1 x3 x2 hs1 hs2 w3
        have hc4 : ∀ w4, Below w3.heap.size w3 w4 → w4.cell? ⟨pb, 0, none⟩ = some (.string x1) ∧ w4.cell? ⟨pb, 1, none⟩ = some (.int .i64 x2) ∧ w4.cell? ⟨pb, 2, none⟩ = some (.string x3) := fun w4 h4 =>
          ⟨(h4.cell (p := ⟨pb, 0, none⟩) hlt3).trans hcs.1, (h4.cell (p := ⟨pb, 1, none⟩) hlt3).trans hcs.2.1, (h4.cell (p := ⟨pb, 2, none⟩) hlt3).trans hcs.2.2⟩
        have HC4 := Lib.hid hc4
        have HB3 := Lib.hid hb3
        have HNO := Lib.hid hno
        have HYES := Lib.hid hyes
        have HPB := Lib.hid hpb
        clear hpb hw3 hcs hx1 hx2 hx3 hcell hm0 hb3 hno hyes hlt3 hc4
        cases ha : asksB (x1, x2, x3) with
        | false =>
          rw [ha] at hask
          have HA := Lib.hid hask
          have HF := Lib.hid (HNO.out (by rw [ha]; rfl))
          clear hask ha
          go_wp2_with fail
          refine HA.out.mono ?_
          rintro e w4 ⟨rfl, hb4⟩
          have HB4 := Lib.hid (HB3.out.trans (hb4.mono HB3.out.size))
          clear hb4
          go_wp2_with fail
          go_ret
          rw [HF.out]; exact ⟨rfl, HB4.out⟩
        | true =>
          rw [ha] at hask
          have HA := Lib.hid hask
          have HAB := Lib.hid ha
          clear hask ha
          go_wp2_with fail
          refine HA.out.mono ?_
          rintro e w4 ⟨rfl, hb4⟩
          rw [← HPB.out]
          have HB4 := Lib.hid hb4
          clear hb4 h1 h2 h3 hlt
          go_wp2_with fail
          go_loopw [7, 8, 9, 26] (fun s7 s8 s9 s26 wq => ∃ j : Nat, j ≤ n ∧ s26 = .int .i64 (j : Int) ∧ (∃ b7 b8 b9 : Bool, s7 = .bool b7 ∧ s8 = .bool b8 ∧ s9 = .bool b9 ∧ Hid (b7 = (lst l x1 j).2 ∧ b8 = is2 (lst l x1 j) x3 ∧ b9 = st2 (lst l x1 j) x3)) ∧ Hid (Below w3.heap.size w3 wq)) (fun _ _ _ s26 _ => n - (intOf s26).toNat)
          case atStart => exact ⟨0, by omega, rfl, ⟨false, false, false, rfl, rfl, rfl, Lib.hid ⟨rfl, rfl, rfl⟩⟩, HB4⟩
          case round =>
            clear HB4
            obtain ⟨j, hj, rfl, ⟨b7, b8, b9, rfl, rfl, rfl, HG⟩, HB4⟩ := hrel
            rename World => wq
            by_cases hjn : j < n
            · obtain ⟨b', off', rfl, hlt', hcell'⟩ := (HH.out.keep (HB3.out.trans (HB4.out.mono HB3.out.size)) (Nat.le_refl _)).cells (by omega)
              obtain ⟨g1, g2⟩ := hcell' j hjn
              have hsl := HH.out.size _ (lab_mem (l := l) (i := j) (by have := HL.out; omega))
              obtain ⟨y1, hy1⟩ : ∃ x, x = (l.getD j lab0).1 := ⟨_, rfl⟩
              obtain ⟨y2, hy2⟩ : ∃ x, x = (l.getD j lab0).2 := ⟨_, rfl⟩
              rw [← hy1] at g1 hsl
              rw [← hy2] at g2 hsl
              obtain ⟨hsl1, hsl2⟩ := hsl
              obtain ⟨c0, c1, c2⟩ := HC4.out _ (HB4.out.alloc HB4.out.size (.cells #[.string y1, .string y2] 53))
              have HB5 := Lib.hid (HB4.out.alloc HB4.out.size (.cells #[.string y1, .string y2] 53))
              have HY := Lib.hid (And.intro hy1 hy2)
              clear hy1 hy2 hcell'
              by_cases he : y1 = x1
              · have hl := show lst l x1 (j + 1) = (y2, true) by rw [lst, ← HY.out.1, ← HY.out.2, if_pos he]
                have hq : (y1.toList == x1.toList) = true := by rw [eq_toList]; exact decide_eq_true he
                clear he
                by_cases hp : x3.size ≤ y2.size
                · have HG2 := Lib.hid (show true = (lst l x1 (j + 1)).2 ∧ (y2.toList == x3.toList) = is2 (lst l x1 (j + 1)) x3 ∧ ((y2.extract 0 x3.size).toList == x3.toList) = st2 (lst l x1 (j + 1)) x3 by
                    rw [hl]; exact ⟨rfl, by rw [eq_toList]; rfl, by show _ = (true && (decide (x3.size ≤ y2.size) && _)); rw [decide_eq_true hp, Bool.true_and, Bool.true_and]⟩)
                  have hpd : decide ((x3.size : Int) ≤ (y2.size : Int)) = true := decide_eq_true (by omega)
                  have hpi : (x3.size : Int) ≤ (y2.size : Int) := by omega
                  clear hl
                  go_wp2_with fail
                  go_quiet (fail)
                  rename Nat => nq
                  go_wp2_with fail
                  go_roundw
                  case rel => exact ⟨j + 1, by omega, by go_num, ⟨_, _, _, rfl, rfl, rfl, HG2⟩, Lib.hid (below_drewN HB5.out nq)⟩
                  case measure => simp [intOf]; omega
                · have HG2 := Lib.hid (show true = (lst l x1 (j + 1)).2 ∧ (y2.toList == x3.toList) = is2 (lst l x1 (j + 1)) x3 ∧ false = st2 (lst l x1 (j + 1)) x3 by
                    rw [hl]; exact ⟨rfl, by rw [eq_toList]; rfl, by show _ = (true && (decide (x3.size ≤ y2.size) && _)); rw [decide_eq_false hp]; rfl⟩)
                  have hpd : decide ((x3.size : Int) ≤ (y2.size : Int)) = false := decide_eq_false (by omega)
                  have hpi : ¬ (x3.size : Int) ≤ (y2.size : Int) := by omega
                  clear hl
                  go_wp2_with fail
                  go_quiet (fail)
                  rename Nat => nq
                  go_wp2_with fail
                  go_roundw
                  case rel => exact ⟨j + 1, by omega, by go_num, ⟨_, _, _, rfl, rfl, rfl, HG2⟩, Lib.hid (below_drewN HB5.out nq)⟩
                  case measure => simp [intOf]; omega
              · have hl := show lst l x1 (j + 1) = lst l x1 j by rw [lst, ← HY.out.1, if_neg he]
                have hq : (y1.toList == x1.toList) = false := by rw [eq_toList]; exact decide_eq_false he
                have HG2 := Lib.hid (show b7 = (lst l x1 (j + 1)).2 ∧ b8 = is2 (lst l x1 (j + 1)) x3 ∧ b9 = st2 (lst l x1 (j + 1)) x3 by rw [hl]; exact HG.out)
                clear he hl
                go_wp2_with fail
                go_roundw
                case rel => exact ⟨j + 1, by omega, by go_num, ⟨_, _, _, rfl, rfl, rfl, HG2⟩, HB5⟩
                case measure => simp [intOf]; omega
            · obtain rfl : j = n := by omega
              obtain ⟨c0, c1, c2⟩ := HC4.out _ HB4.out
              have HB5 := Lib.hid (HB3.out.trans (HB4.out.mono HB3.out.size))
              have HMO := Lib.hid (meet1_of (lst l x1 j) x3)
              clear hjn
              rcases asks_way HAB.out with g | g | g | g
              · obtain rfl : x2 = 1 := g
                cases b8 with
                | false =>
                  have HF := Lib.hid (HNO.out (by rw [HMO.out.1, ← HG.out.2.1]; cases asksB _ <;> rfl))
                  go_wp2_with fail
                  go_ret
                  rw [HF.out]; exact ⟨rfl, HB5.out⟩
                | true =>
                  have HU2 := Lib.hid (HYES.out (by rw [HAB.out, HMO.out.1, ← HG.out.2.1]; rfl))
                  go_wp2_with fail
                  go_roundw
                  case rel => exact ⟨k + 1, by omega, by go_num, HU2, HB5⟩
                  case measure => simp [intOf]; omega
              · obtain rfl : x2 = 2 := g
                cases b8 with
                | false =>
                  have HU2 := Lib.hid (HYES.out (by rw [HAB.out, HMO.out.2.1, ← HG.out.2.1]; rfl))
                  go_wp2_with fail
                  go_roundw
                  case rel => exact ⟨k + 1, by omega, by go_num, HU2, HB5⟩
                  case measure => simp [intOf]; omega
                | true =>
                  have HF := Lib.hid (HNO.out (by rw [HMO.out.2.1, ← HG.out.2.1]; cases asksB _ <;> rfl))
                  go_wp2_with fail
                  go_ret
                  rw [HF.out]; exact ⟨rfl, HB5.out⟩
              · obtain rfl : x2 = 3 := g
                cases b9 with
                | false =>
                  have HF := Lib.hid (HNO.out (by rw [HMO.out.2.2.1, ← HG.out.2.2]; cases asksB _ <;> rfl))
                  go_wp2_with fail
                  go_ret
                  rw [HF.out]; exact ⟨rfl, HB5.out⟩
                | true =>
                  have HU2 := Lib.hid (HYES.out (by rw [HAB.out, HMO.out.2.2.1, ← HG.out.2.2]; rfl))
                  go_wp2_with fail
                  go_roundw
                  case rel => exact ⟨k + 1, by omega, by go_num, HU2, HB5⟩
                  case measure => simp [intOf]; omega
              · obtain rfl : x2 = 4 := g
                cases b7 with
                | false =>
                  have HF := Lib.hid (HNO.out (by rw [HMO.out.2.2.2, ← HG.out.1]; cases asksB _ <;> rfl))
                  go_wp2_with fail
                  go_ret
                  rw [HF.out]; exact ⟨rfl, HB5.out⟩
                | true =>
                  have HU2 := Lib.hid (HYES.out (by rw [HAB.out, HMO.out.2.2.2, ← HG.out.1]; rfl))
                  go_wp2_with fail
                  go_roundw
                  case rel => exact ⟨k + 1, by omega, by go_num, HU2, HB5⟩
                  case measure => simp [intOf]; omega
      · obtain rfl : k = n' := by omega
        have HT := Lib.hid (show meetsB l ms = true by rw [HR.out]; exact HU.out)
        clear hkn
        go_wp2_with fail
        go_ret
        rw [HT.out]; exact ⟨rfl, HB.out⟩
end Go.Proofs.Ytmnfdkclkjeggaa
