/- The law MergeHeaps, walked. Written by genmgheaps.py. -/
import Derived.Test.YteihbbmbdkkbbaaHpFull
import Derived.Test.YteihbbmbdkkbbaaHpOrd
import Derived.Test.YteihbbmbdkkbbaaHpOpen
import Derived.Test.YteihbbmbdkkbbaaELives
namespace Go.Proofs.Yteihbbmbdkkbbaa
open Go.ChangeShapes Go.WideShapes Go.Deep Go.RowKit Hp
set_option linter.unusedVariables false

/-- the law's sorted slice: apart from the heap -/
structure WAt (w : World) (p : Nat) (og : Option Nat) (a : Option Addr) (m c : Nat) (l : List Int) : Prop where
  ints : IntsAt w a m c l
  wh : a = none ∨ ∃ b off, a = some ⟨b, off, none⟩ ∧ b < w.heap.size ∧ b ≠ p ∧ some b ≠ og
theorem WAt.hp {w w' : World} {p : Nat} {og og' : Option Nat} {a : Option Addr} {m c : Nat} {l : List Int} (h : WAt w p og a m c l) (k : HpKept w w' p og) (ho : og' = og ∨ ∃ g, og' = some g ∧ w.heap.size ≤ g) : WAt w' p og' a m c l := by
  refine ⟨⟨h.ints.len, h.ints.cap, h.ints.capm, h.ints.nl, fun hn => ?_⟩, ?_⟩
  · obtain ⟨b, off, ha, hlt, hc⟩ := h.ints.cells hn
    rcases h.wh with e | ⟨b', off', e, h1, h2, h3⟩
    · rw [e] at ha; cases ha
    · rw [ha] at e
      cases e
      exact ⟨b, off, ha, Nat.lt_of_lt_of_le hlt k.size, fun i hi => (World.cell?_of_block (w := w) (k.block b hlt h2 h3)).trans (hc i hi)⟩
  · rcases h.wh with e | ⟨b', off', e, h1, h2, h3⟩
    · exact .inl e
    · refine .inr ⟨b', off', e, Nat.lt_of_lt_of_le h1 k.size, h2, ?_⟩
      rcases ho with e | ⟨g, e, hg⟩
      · rw [e]; exact h3
      · rw [e]
        intro e2
        have : b' = g := Option.some.inj e2
        omega
theorem WAt.kept {w w' : World} {p : Nat} {og : Option Nat} {a : Option Addr} {m c : Nat} {l : List Int} (h : WAt w p og a m c l) (k : Below w.heap.size w w') : WAt w' p og a m c l := h.hp (HpKept.ofBelow k p og) (.inl rfl)
theorem IntsAt.tail {w : World} {b off m c : Nat} {l : List Int} (h : IntsAt w (some ⟨b, off, none⟩) m c l) {q : Nat} (hq : q ≤ m) : IntsAt w (some ⟨b, off + q, none⟩) (m - q) (c - q) (l.drop q) := by
  have h1 := h.len
  have h2 := h.cap
  have h3 := h.capm
  refine ⟨by rw [List.length_drop]; omega, by omega, by omega, fun e => (by cases e), fun hn => ?_⟩
  obtain ⟨b', off', ha, hlt, hc⟩ := h.cells (by omega)
  cases ha
  refine ⟨b, off + q, rfl, hlt, fun i hi => ?_⟩
  rw [Nat.add_assoc, hc (q + i) (by omega)]
  simp [List.getD_eq_getElem?_getD, List.getElem?_drop]
theorem IntsAt.init {w : World} {a : Option Addr} {m c : Nat} {l : List Int} (h : IntsAt w a m c l) (hc : a = none → c = 0) {q : Nat} (hq : q ≤ m) : IntsAt w a q q (l.take q) := by
  have h1 := h.len
  have h2 := h.cap
  have h3 := h.capm
  refine ⟨by rw [List.length_take]; omega, Nat.le_refl _, by omega, fun e => (by have := hc e; omega), fun hn => ?_⟩
  obtain ⟨b', off', ha, hlt, hcc⟩ := h.cells (by omega)
  refine ⟨b', off', ha, hlt, fun i hi => ?_⟩
  rw [hcc i (by omega)]
  simp [List.getD_eq_getElem?_getD, hi]
theorem box_ints (w : World) (x : Int) : IntsAt (w.alloc (.cells #[.int .i64 x] 3)) (some ⟨w.heap.size, 0, none⟩) 1 1 [x] :=
  ⟨rfl, Nat.le_refl _, by omega, fun e => (by cases e), fun _ => ⟨w.heap.size, 0, rfl, (Array.getElem?_eq_some_iff.1 (heap_alloc_new w _)).1, fun i hi => by
    obtain rfl : i = 0 := by omega
    exact cell_blk (heap_alloc_new w _) rfl⟩⟩
def InsF (a : Option Addr) (m c q A : Nat) (x : Int) (xs : List Int) (B : Nat) : Nat → Value → World → Prop
  | 0, v, _ => v = .slice a m c
  | 1, v, _ => v = .int .i64 (q : Int)
  | 2, v, _ => v = .int .i64 (q : Int)
  | 3, v, _ => v = .slice a q q
  | 4, v, _ => v = .pointer (some ⟨A, 1, none⟩)
  | 5, v, _ => v = .int .i64 x
  | 6, v, w => ∃ g, v = .slice (some ⟨g, 0, none⟩) 1 1 ∧ IntsAt w (some ⟨g, 0, none⟩) 1 1 [x]
  | 7, v, _ => v = .slice a m c
  | 8, v, _ => v = .int .i64 (q : Int)
  | 9, v, w => ∃ a9, v = .slice a9 (m - q) (c - q) ∧ IntsAt w a9 (m - q) (c - q) (xs.drop q)
  | 10, v, w => ∃ a9 c9, v = .slice a9 (1 + (m - q)) c9 ∧ IntsAt w a9 (1 + (m - q)) c9 ([x] ++ xs.drop q)
  | 11, v, w => ∃ g c9, v = .slice (some ⟨g, 0, none⟩) (q + (1 + (m - q))) c9 ∧ IntsAt w (some ⟨g, 0, none⟩) (q + (1 + (m - q))) c9 (xs.take q ++ ([x] ++ xs.drop q)) ∧ B ≤ g ∧ g < w.heap.size
  | 12, v, w => ∃ g c9, v = .slice (some ⟨g, 0, none⟩) (q + (1 + (m - q))) c9 ∧ IntsAt w (some ⟨g, 0, none⟩) (q + (1 + (m - q))) c9 (xs.take q ++ ([x] ++ xs.drop q)) ∧ B ≤ g ∧ g < w.heap.size
  | _ + 13, _, _ => True
theorem InsF.mono {a : Option Addr} {m c q A : Nat} {x : Int} {xs : List Int} {B : Nat} {w w' : World} (hb : Below w.heap.size w w') : ∀ j v, InsF a m c q A x xs B j v w → InsF a m c q A x xs B j v w' := fun j v h =>
  match j, h with
  | 0, h => h
  | 1, h => h
  | 2, h => h
  | 3, h => h
  | 4, h => h
  | 5, h => h
  | 6, ⟨g, h1, h2⟩ => ⟨g, h1, h2.kept hb⟩
  | 7, h => h
  | 8, h => h
  | 9, ⟨a9, h1, h2⟩ => ⟨a9, h1, h2.kept hb⟩
  | 10, ⟨a9, c9, h1, h2⟩ => ⟨a9, c9, h1, h2.kept hb⟩
  | 11, ⟨g, c9, h1, h2, h3, h4⟩ => ⟨g, c9, h1, h2.kept hb, h3, Nat.lt_of_lt_of_le h4 hb.size⟩
  | 12, ⟨g, c9, h1, h2, h3, h4⟩ => ⟨g, c9, h1, h2.kept hb, h3, Nat.lt_of_lt_of_le h4 hb.size⟩
  | _ + 13, _ => trivial
structure InsI (a : Option Addr) (m c q A : Nat) (x : Int) (xs : List Int) (B : Nat) (w0 : World) (L : Nat → Bool) (V : Nat → Value) (w : World) : Prop where
  val : ∀ j, L j = true → InsF a m c q A x xs B j (V j) w
  old : L 12 = false → V 12 = .slice a m c
  fin : L 12 = true → L 0 = true ∧ L 7 = true
  wd : Below w0.heap.size w0 w
theorem InsI.was {a : Option Addr} {m c q A : Nat} {x : Int} {xs : List Int} {B : Nat} {w0 w : World} {L : Nat → Bool} {V : Nat → Value} (h : InsI a m c q A x xs B w0 L V w) {j : Nat} (hj : L j = false) (h07 : j = 0 ∨ j = 7) : V 12 = .slice a m c := h.old (by
  cases e : L 12 with
  | false => rfl
  | true =>
    have := h.fin e
    rcases h07 with rfl | rfl
    · rw [this.1] at hj; cases hj
    · rw [this.2] at hj; cases hj)
theorem InsI.put {a : Option Addr} {m c q A : Nat} {x : Int} {xs : List Int} {B : Nat} {w0 w w' : World} {L : Nat → Bool} {V : Nat → Value} (h : InsI a m c q A x xs B w0 L V w) (j : Nat) (u : Value) (h12 : 12 ≠ j ∨ (L 0 = true ∧ L 7 = true)) (hv : InsF a m c q A x xs B j u w') (hb : Below w.heap.size w w') : InsI a m c q A x xs B w0 (fun k => L k || decide (k = j)) (upd V j u) w' := by
  refine ⟨fun k hk => ?_, fun hk => ?_, fun hk => ?_, h.wd.trans (hb.mono h.wd.size)⟩
  · unfold upd
    by_cases e : k = j
    · subst e; rw [if_pos rfl]; exact hv
    · rw [if_neg e]
      exact InsF.mono hb k _ (h.val k (by simpa [e] using hk))
  · simp only [Bool.or_eq_false_iff, decide_eq_false_iff_not] at hk
    unfold upd
    rw [if_neg hk.2]
    exact h.old hk.1
  · have h3 : L 0 = true ∧ L 7 = true := by
      rcases h12 with h12 | h12
      · exact h.fin (by simpa [h12] using hk)
      · exact h12
    simp [h3.1, h3.2]

set_option maxRecDepth 100000 in
set_option maxHeartbeats 8000000 in
theorem merge_heaps (la : Option Addr) (n lc : Nat) (l : List (Bool × Int)) (w : World) (h : ActsAt w la n lc l) :
    Calls Try.prog 3 #[.slice la n lc] w fun e w' => e = .returned (.bool true) ∧ Below w.heap.size w w' := by
  have HH := Lib.hid h
  have lcap := h.cap
  have lcm := h.capm
  clear h
  by_cases g1 : 200 < n
  · have g1i : (200 : Int) < (n : Int) := by omega
    clear g1
    go_enter Try.func3, Try.ntmps3
    go_wp2_with fail
    refine (new_own w).mono ?_
    rintro e w1 ⟨rfl, hb1, _⟩
    have HB1 := Lib.hid hb1
    clear hb1
    go_wp2_with fail
    refine (lives16_any w1).mono ?_
    rintro e w2 ⟨rfl, hb2⟩
    have HB2 := Lib.hid (HB1.out.trans (hb2.mono HB1.out.size))
    clear hb2
    go_wp2_with fail
    refine (lives16_any w2).mono ?_
    rintro e w3 ⟨rfl, hb3⟩
    have HB3 := Lib.hid (HB2.out.trans (hb3.mono HB2.out.size))
    clear hb3
    go_wp2_with fail
    go_ret
    exact ⟨rfl, HB3.out⟩
  · have g1i : ¬ (200 : Int) < (n : Int) := by omega
    have hn200 : n ≤ 200 := by omega
    clear g1
    obtain ⟨p, hp⟩ : ∃ p, p = w.heap.size := ⟨_, rfl⟩
    go_enter Try.func3, Try.ntmps3
    go_wp2_with fail
    refine (new_own w).mono ?_
    rintro e w1 ⟨rfl, hb1, hp1⟩
    have HB1 := Lib.hid hb1
    rw [← hp] at hp1
    have HP1 := Lib.hid hp1
    have HPE := Lib.hid hp
    clear hb1 hp1 hp
    rw [← HPE.out]
    go_wp2_with fail
    refine (lives16_any w1).mono ?_
    rintro e w2 ⟨rfl, hb2⟩
    have HB2 := Lib.hid (HB1.out.trans (hb2.mono HB1.out.size))
    have HP2 := Lib.hid (HP1.out.kept hb2)
    clear hb2 HB1 HP1
    go_wp2_with fail
    go_loopw [4, 6, 7, 8, 9, 32] (fun s4 s6 s7 s8 s9 s32 wr => ∃ (k : Nat) (og : Option Nat) (m c : Nat) (a : Option Addr) (z : Nat → Int) (xs : List Int), k ≤ n ∧ s32 = .int .i64 (k : Int) ∧ s4 = .slice a m c ∧ Hid (m ≤ k) ∧ Hid (HpO wr p p og m z) ∧ Hid (Same z m xs) ∧ Hid (WAt wr p og a m c xs) ∧ Hid (Below w.heap.size w wr)) (fun _ _ _ _ _ s32 _ => n - (intOf s32).toNat)
    case atStart => exact ⟨0, none, 0, 0, none, _, [], by omega, rfl, rfl, Lib.hid (Nat.le_refl _), HP2, Lib.hid ⟨fun k h0 h1 => by omega, List.Pairwise.nil, rfl, fun v => rfl⟩, Lib.hid ⟨IntsAt.empty _ _ _ (by omega) (fun _ => rfl), .inl rfl⟩, HB2⟩
    case round =>
      clear HP2 HB2
      obtain ⟨k, og, m, c, a, z, xs, hk, rfl, rfl, HMK, HP, HSM, HWT, HB⟩ := hrel
      rename World => wr
      by_cases hkn : k < n
      case neg =>
        have hki : ¬ (k : Int) < (n : Int) := by omega
        go_wp2_with fail
        refine (push_none 1 wr).mono ?_
        rintro e w5 ⟨rfl, hb5⟩
        have HB5 := Lib.hid (HB.out.trans (hb5.mono HB.out.size))
        clear hb5
        go_wp2_with fail
        refine (pop_none w5).mono ?_
        rintro e w6 ⟨rfl, hb6⟩
        have HB6 := Lib.hid (HB5.out.trans (hb6.mono HB5.out.size))
        clear hb6
        go_wp2_with fail
        refine (len_none w6).mono ?_
        rintro e w7 ⟨rfl, hb7⟩
        have HB7 := Lib.hid (HB6.out.trans (hb7.mono HB6.out.size))
        clear hb7
        go_wp2_with fail
        go_ret
        exact ⟨rfl, HB7.out⟩
      case pos =>
        obtain ⟨lb, loff, rfl, hlt, hcell⟩ := (HH.out.kept HB.out).cells (by omega)
        obtain ⟨h1, h2⟩ := hcell k hkn
        obtain ⟨kd, hkd⟩ : ∃ x, x = (l.getD k (false, 0)).1 := ⟨_, rfl⟩
        obtain ⟨x, hx⟩ : ∃ x, x = (l.getD k (false, 0)).2 := ⟨_, rfl⟩
        rw [← hkd] at h1
        rw [← hx] at h2
        have hki : (k : Int) < (n : Int) := by omega
        have hk00 : (0 : Int) ≤ (k : Int) := by omega
        have wk : IntKind.i64.wrap ((k : Int) + 1) = (k : Int) + 1 := IntWalk.i64_in _ (by omega)
        obtain ⟨A, hA⟩ : ∃ A, A = wr.heap.size := ⟨_, rfl⟩
        obtain ⟨wA, hwA⟩ : ∃ wA, wA = wr.alloc (.cells #[.bool kd, .int .i64 x] 29) := ⟨_, rfl⟩
        have hbl : Below wr.heap.size wr wA := by rw [hwA]; exact (Below.refl _ _).alloc (Nat.le_refl _) _
        have hblk : wA.heap[A]? = some (.cells #[.bool kd, .int .i64 x] 29 (0, 0)) := by rw [hwA, hA]; exact heap_alloc_new wr _
        have a0 : wA.cell? ⟨A, 0, none⟩ = some (.bool kd) := by rw [cell_of_row wA A 0 _ _ (0, 0) hblk]; rfl
        have a1 : wA.cell? ⟨A, 1, none⟩ = some (.int .i64 x) := by rw [cell_of_row wA A 1 _ _ (0, 0) hblk]; rfl
        have HPA := Lib.hid (HP.out.kept hbl)
        have HWTA := Lib.hid (HWT.out.kept hbl)
        have HBA := Lib.hid (HB.out.trans (hbl.mono HB.out.size))
        have HAL := Lib.hid (show A < wA.heap.size ∧ A ≠ p ∧ some A ≠ og from ⟨(Array.getElem?_eq_some_iff.1 hblk).1, by have := HP.out.lt.2; omega, fun e => by have := (HP.out.glt A e.symm).2.1; omega⟩)
        have HWA := Lib.hid hwA
        have HAE := Lib.hid hA
        have hmk := HMK.out
        have hm200 : m ≤ 200 := by omega
        have wm : IntKind.i64.wrap ((m : Int) + 1) = (m : Int) + 1 := IntWalk.i64_in _ (by omega)
        clear hwA hA hbl hblk hkd hx hcell HP HWT HB
        cases kd
        case true =>
          by_cases hm0 : m = 0
          case pos =>
            subst hm0
            go_wp2_with fail
            rw [← HWA.out, ← HAE.out]
            go_wp2_with fail
            refine (pop_empty HPA.out).mono ?_
            rintro e w5 ⟨rfl, hb5⟩
            have HP5 := Lib.hid (HPA.out.kept hb5)
            have HW5 := Lib.hid (HWTA.out.kept hb5)
            have HB5 := Lib.hid (HBA.out.trans (hb5.mono HBA.out.size))
            clear hb5
            go_wp2_with fail
            refine (len_own HP5.out).mono ?_
            rintro e w8 ⟨rfl, hb8⟩
            have HP8 := Lib.hid (HP5.out.kept hb8)
            have HW8 := Lib.hid (HW5.out.kept hb8)
            have HB8 := Lib.hid (HB5.out.trans (hb8.mono HB5.out.size))
            clear hb8
            go_wp2_with fail
            go_roundw
            case rel => exact ⟨k + 1, _, _, _, _, _, _, by omega, by go_num, rfl, Lib.hid (by have := HMK.out; omega), HP8, HSM, HW8, HB8⟩
            case measure => simp [intOf]; omega
          case neg =>
            obtain ⟨m, rfl⟩ : ∃ m', m = m' + 1 := ⟨m - 1, by omega⟩
            have hx0 : z 0 = xs.getD 0 0 := HSM.out.first (by omega)
            go_wp2_with fail
            rw [← HWA.out, ← HAE.out]
            go_wp2_with fail
            refine (pop_own HPA.out HSM.out.ok (by omega)).mono ?_
            rintro e w5 ⟨rfl, ⟨y5, hp5, hok5, hcn5⟩, hk5⟩
            have HP5 := Lib.hid hp5
            have HSM5 := Lib.hid (show Same y5 m xs.tail from HSM.out.pop (by omega) hok5 hcn5)
            have hw5 := HWTA.out.hp hk5 (.inl rfl)
            have HB5 := Lib.hid (Below.hp HBA.out hk5 HBA.out.size (by rw [← HPE.out]; exact Nat.le_refl _) (fun g hg => by rw [← HPE.out]; exact (HPA.out.glt g hg).1))
            obtain ⟨b, off, rfl, hblt, hcc⟩ := hw5.ints.cells (by omega)
            have cw := hcc 0 (by omega)
            rw [Nat.add_zero] at cw
            have hm1 : (0 : Int) < ((m + 1 : Nat) : Int) := by omega
            have HW5T := Lib.hid (show WAt w5 p og (some ⟨b, off + 1, none⟩) m (c - 1) xs.tail from ⟨by have := hw5.ints.tail (q := 1) (by omega); rw [show m + 1 - 1 = m from by omega, List.drop_one] at this; exact this, by
              rcases hw5.wh with e | ⟨b', off', e, h1, h2, h3⟩
              · cases e
              · cases e
                exact .inr ⟨b, off + 1, rfl, h1, h2, h3⟩⟩)
            rw [hx0]
            have hcap := hw5.ints.cap
            clear hp5 hok5 hcn5 hk5 hcc hx0
            by_cases hc1 : c = 1
            case pos =>
              obtain rfl : m = 0 := by omega
              have HW5E := Lib.hid (show WAt w5 p og (some ⟨b, off, none⟩) 0 0 xs.tail from ⟨⟨HSM5.out.len, Nat.le_refl _, by omega, (fun e => by cases e), fun h => absurd h (Nat.lt_irrefl 0)⟩, hw5.wh⟩)
              subst hc1
              clear hw5
              go_wp2_with fail
              go_wp2_with fail
              refine (len_own HP5.out).mono ?_
              rintro e w8 ⟨rfl, hb8⟩
              have HP8 := Lib.hid (HP5.out.kept hb8)
              have HW8 := Lib.hid (HW5E.out.kept hb8)
              have HB8 := Lib.hid (HB5.out.trans (hb8.mono HB5.out.size))
              clear hb8
              go_wp2_with fail
              go_roundw
              case rel => exact ⟨k + 1, _, _, _, _, _, _, by omega, by go_num, rfl, Lib.hid (by have := HMK.out; omega), HP8, HSM5, HW8, HB8⟩
              case measure => simp [intOf]; omega
            case neg =>
              clear hw5
              go_wp2_with fail
              go_wp2_with fail
              refine (len_own HP5.out).mono ?_
              rintro e w8 ⟨rfl, hb8⟩
              have HP8 := Lib.hid (HP5.out.kept hb8)
              have HW8 := Lib.hid (HW5T.out.kept hb8)
              have HB8 := Lib.hid (HB5.out.trans (hb8.mono HB5.out.size))
              clear hb8
              go_wp2_with fail
              go_roundw
              case rel => exact ⟨k + 1, _, _, _, _, _, _, by omega, by go_num, rfl, Lib.hid (by have := HMK.out; omega), HP8, HSM5, HW8, HB8⟩
              case measure => simp [intOf]; omega
        case false =>
          go_wp2_with fail
          rw [← HWA.out, ← HAE.out]
          go_wp2_with fail
          refine (push_own x HPA.out HSM.out.ok (by omega)).mono ?_
          rintro e w5 ⟨rfl, ⟨og5, y5, hp5, hok5, hcn5, hog5⟩, hk5⟩
          have HP5 := Lib.hid hp5
          have HOK5 := Lib.hid hok5
          have HCN5 := Lib.hid hcn5
          have HW5 := Lib.hid (HWTA.out.hp hk5 hog5)
          have HB5 := Lib.hid (Below.hp HBA.out hk5 HBA.out.size (by rw [← HPE.out]; exact Nat.le_refl _) (fun g hg => by rw [← HPE.out]; exact (HPA.out.glt g hg).1))
          have HA5 := Lib.hid (show w5.cell? ⟨A, 1, none⟩ = some (.int .i64 x) from (World.cell?_of_block (w := wA) (hk5.block A HAL.out.1 HAL.out.2.1 HAL.out.2.2)).trans a1)
          have HAS := Lib.hid (Nat.lt_of_lt_of_le HAL.out.1 hk5.size)
          clear hp5 hok5 hcn5 hog5 hk5
          rcases HW5.out.wh with ha | ⟨b, off, ha, hb1, hb2, hb3⟩
          · obtain rfl : m = 0 := by have := HW5.out.ints.nl ha; have := HW5.out.ints.cap; omega
            obtain rfl : c = 0 := HW5.out.ints.nl ha
            subst ha
            have HXE := Lib.hid (show xs = [] from List.eq_nil_of_length_eq_zero HSM.out.len)
            go_wp2_with fail
            go_loopw [9] (fun s9 wq => ∃ q : Nat, q ≤ 0 ∧ s9 = .int .i64 (q : Int) ∧ Hid (∀ j, q ≤ j → j < 0 → x < xs.getD j 0) ∧ Hid (Below w5.heap.size w5 wq)) (fun s9 _ => (intOf s9).toNat)
            case atStart => exact ⟨0, Nat.le_refl _, rfl, Lib.hid (fun j h1 h2 => by omega), Lib.hid (Below.refl _ _)⟩
            case round =>
              obtain ⟨q, zq4, rfl, HGT, HBW⟩ := hrel
              rename World => wq
              have HBW := Lib.hid (Below.drew HBW.out)
              have HWQ := Lib.hid (HW5.out.kept HBW.out)
              have HPQ := Lib.hid (HP5.out.kept HBW.out)
              have HBQ := Lib.hid (HB5.out.trans (HBW.out.mono HB5.out.size))
              have HA1 := Lib.hid (show ∀ w7, Below wq.drew.heap.size wq.drew w7 → w7.cell? ⟨A, 1, none⟩ = some (.int .i64 x) from fun w7 h7 => ((HBW.out.trans (h7.mono HBW.out.size)).cell (p := ⟨A, 1, none⟩) HAS.out).trans HA5.out)
              obtain rfl : q = 0 := by omega
              have hle : 0 < 0 → xs.getD (0 - 1) 0 ≤ x := fun h => absurd h (Nat.lt_irrefl 0)
              go_wp2_with fail
              first | go_region | go_quiet (fail)
              go_wp2_with fail
              have HSRC := Lib.hid (HWQ.out.ints)
              refine wp_region_inv0 (by kernel_rfl) (by kernel_rfl) (by kernel_rfl) (InsI none 0 0 0 A x xs wq.drew.heap.size wq.drew) ⟨fun _ h => Bool.noConfusion h, fun _ => rfl, fun h => Bool.noConfusion h, Below.drew (Below.refl _ _)⟩ ?_ ?_
              · intro j o ho L V w7 K hI hL hdep hK
                have HI := Lib.hid hI
                have HWD := Lib.hid hI.wd
                have hi13 : j < 13 := (Array.getElem?_eq_some_iff.1 ho).1
                have hcs : j = 0 ∨ j = 1 ∨ j = 2 ∨ j = 3 ∨ j = 4 ∨ j = 5 ∨ j = 6 ∨ j = 7 ∨ j = 8 ∨ j = 9 ∨ j = 10 ∨ j = 11 ∨ j = 12 := by omega
                clear hi13
                rcases hcs with rfl | rfl | rfl | rfl | rfl | rfl | rfl | rfl | rfl | rfl | rfl | rfl | rfl
                · obtain rfl := Option.some.inj ho.symm
                  have o12 : V 12 = .slice none 0 0 := hI.was hL (by simp)
                  clear hdep ho hI hL
                  simp only [fill, slotOf, List.size_toArray, List.length_cons, List.length_nil, Nat.reduceAdd, List.getElem?_toArray, List.getElem?_cons_zero, List.getElem?_cons_succ, Option.bind_some, Act.put, List.setIfInBounds_toArray, List.set_cons_zero, List.set_cons_succ] at hK ⊢
                  rw [o12] at hK ⊢
                  go_simp
                  exact hK (.slice none 0 0) _ (HI.out.put 0 _ (.inl (by decide)) (rfl) (Below.refl _ _)) _ rfl
                · obtain rfl := Option.some.inj ho.symm
                  clear hdep ho hI hL
                  simp only [fill, slotOf, List.size_toArray, List.length_cons, List.length_nil, Nat.reduceAdd, List.getElem?_toArray, List.getElem?_cons_zero, List.getElem?_cons_succ, Option.bind_some, Act.put, List.setIfInBounds_toArray, List.set_cons_zero, List.set_cons_succ] at hK ⊢
                  go_simp
                  exact hK (.int .i64 (0 : Int)) _ (HI.out.put 1 _ (.inl (by decide)) (rfl) (Below.refl _ _)) _ rfl
                · obtain rfl := Option.some.inj ho.symm
                  clear hdep ho hI hL
                  simp only [fill, slotOf, List.size_toArray, List.length_cons, List.length_nil, Nat.reduceAdd, List.getElem?_toArray, List.getElem?_cons_zero, List.getElem?_cons_succ, Option.bind_some, Act.put, List.setIfInBounds_toArray, List.set_cons_zero, List.set_cons_succ] at hK ⊢
                  go_simp
                  exact hK (.int .i64 (0 : Int)) _ (HI.out.put 2 _ (.inl (by decide)) (rfl) (Below.refl _ _)) _ rfl
                · obtain rfl := Option.some.inj ho.symm
                  have d0 : V 0 = .slice none 0 0 := hI.val 0 (hdep ⟨0, .data⟩ (by simp) rfl)
                  have d1 : V 1 = .int .i64 (0 : Int) := hI.val 1 (hdep ⟨1, .data⟩ (by simp) rfl)
                  have d2 : V 2 = .int .i64 (0 : Int) := hI.val 2 (hdep ⟨2, .data⟩ (by simp) rfl)
                  clear hdep ho hI hL
                  simp only [fill, slotOf, List.size_toArray, List.length_cons, List.length_nil, Nat.reduceAdd, List.getElem?_toArray, List.getElem?_cons_zero, List.getElem?_cons_succ, Option.bind_some, Act.put, List.setIfInBounds_toArray, List.set_cons_zero, List.set_cons_succ] at hK ⊢
                  rw [d0, d1, d2] at hK ⊢
                  go_simp
                  exact hK (.slice none 0 0) _ (HI.out.put 3 _ (.inl (by decide)) (rfl) (Below.refl _ _)) _ rfl
                · obtain rfl := Option.some.inj ho.symm
                  clear hdep ho hI hL
                  simp only [fill, slotOf, List.size_toArray, List.length_cons, List.length_nil, Nat.reduceAdd, List.getElem?_toArray, List.getElem?_cons_zero, List.getElem?_cons_succ, Option.bind_some, Act.put, List.setIfInBounds_toArray, List.set_cons_zero, List.set_cons_succ] at hK ⊢
                  go_simp
                  exact hK (.pointer (some ⟨A, 1, none⟩)) _ (HI.out.put 4 _ (.inl (by decide)) (rfl) (Below.refl _ _)) _ rfl
                · obtain rfl := Option.some.inj ho.symm
                  have d4 : V 4 = .pointer (some ⟨A, 1, none⟩) := hI.val 4 (hdep ⟨4, .data⟩ (by simp) rfl)
                  have cx := HA1.out w7 HWD.out
                  clear hdep ho hI hL
                  simp only [fill, slotOf, List.size_toArray, List.length_cons, List.length_nil, Nat.reduceAdd, List.getElem?_toArray, List.getElem?_cons_zero, List.getElem?_cons_succ, Option.bind_some, Act.put, List.setIfInBounds_toArray, List.set_cons_zero, List.set_cons_succ] at hK ⊢
                  rw [d4] at hK ⊢
                  go_simp
                  exact hK (.int .i64 x) _ (HI.out.put 5 _ (.inl (by decide)) (rfl) (Below.refl _ _)) _ rfl
                · obtain rfl := Option.some.inj ho.symm
                  have d5 : V 5 = .int .i64 x := hI.val 5 (hdep ⟨5, .data⟩ (by simp) rfl)
                  clear hdep ho hI hL
                  have hbl : Below w7.heap.size w7 (w7.alloc (.cells #[.int .i64 x] 3)) := (Below.refl _ _).alloc (Nat.le_refl _) _
                  simp only [fill, slotOf, List.size_toArray, List.length_cons, List.length_nil, Nat.reduceAdd, List.getElem?_toArray, List.getElem?_cons_zero, List.getElem?_cons_succ, Option.bind_some, Act.put, List.setIfInBounds_toArray, List.set_cons_zero, List.set_cons_succ] at hK ⊢
                  rw [d5] at hK ⊢
                  go_simp
                  exact hK (.slice (some ⟨w7.heap.size, 0, none⟩) 1 1) _ (HI.out.put 6 _ (.inl (by decide)) (⟨_, rfl, box_ints w7 x⟩) (hbl)) _ rfl
                · obtain rfl := Option.some.inj ho.symm
                  have o12 : V 12 = .slice none 0 0 := hI.was hL (by simp)
                  clear hdep ho hI hL
                  simp only [fill, slotOf, List.size_toArray, List.length_cons, List.length_nil, Nat.reduceAdd, List.getElem?_toArray, List.getElem?_cons_zero, List.getElem?_cons_succ, Option.bind_some, Act.put, List.setIfInBounds_toArray, List.set_cons_zero, List.set_cons_succ] at hK ⊢
                  rw [o12] at hK ⊢
                  go_simp
                  exact hK (.slice none 0 0) _ (HI.out.put 7 _ (.inl (by decide)) (rfl) (Below.refl _ _)) _ rfl
                · obtain rfl := Option.some.inj ho.symm
                  clear hdep ho hI hL
                  simp only [fill, slotOf, List.size_toArray, List.length_cons, List.length_nil, Nat.reduceAdd, List.getElem?_toArray, List.getElem?_cons_zero, List.getElem?_cons_succ, Option.bind_some, Act.put, List.setIfInBounds_toArray, List.set_cons_zero, List.set_cons_succ] at hK ⊢
                  go_simp
                  exact hK (.int .i64 (0 : Int)) _ (HI.out.put 8 _ (.inl (by decide)) (rfl) (Below.refl _ _)) _ rfl
                · obtain rfl := Option.some.inj ho.symm
                  have d7 : V 7 = .slice none 0 0 := hI.val 7 (hdep ⟨7, .data⟩ (by simp) rfl)
                  have d8 : V 8 = .int .i64 (0 : Int) := hI.val 8 (hdep ⟨8, .data⟩ (by simp) rfl)
                  clear hdep ho hI hL
                  simp only [fill, slotOf, List.size_toArray, List.length_cons, List.length_nil, Nat.reduceAdd, List.getElem?_toArray, List.getElem?_cons_zero, List.getElem?_cons_succ, Option.bind_some, Act.put, List.setIfInBounds_toArray, List.set_cons_zero, List.set_cons_succ] at hK ⊢
                  rw [d7, d8] at hK ⊢
                  go_simp
                  exact hK (.slice none 0 0) _ (HI.out.put 9 _ (.inl (by decide)) (⟨none, rfl, by rw [HXE.out]; exact IntsAt.empty _ _ _ (by omega) (fun _ => rfl)⟩) (Below.refl _ _)) _ rfl
                · obtain rfl := Option.some.inj ho.symm
                  have e6 : InsF none 0 0 0 A x xs wq.drew.heap.size 6 (V 6) w7 := hI.val 6 (hdep ⟨6, .data⟩ (by simp) rfl)
                  have e9 : InsF none 0 0 0 A x xs wq.drew.heap.size 9 (V 9) w7 := hI.val 9 (hdep ⟨9, .data⟩ (by simp) rfl)
                  clear hdep ho hI hL
                  refine e6.elim fun g6 h6 => e9.elim fun a9 h9 => ?_
                  have d6 := h6.1
                  have d9 := h9.1
                  have HI6 := Lib.hid h6.2
                  have HI9 := Lib.hid h9.2
                  clear h6 h9 e6 e9
                  simp only [fill, slotOf, List.size_toArray, List.length_cons, List.length_nil, Nat.reduceAdd, List.getElem?_toArray, List.getElem?_cons_zero, List.getElem?_cons_succ, Option.bind_some, Act.put, List.setIfInBounds_toArray, List.set_cons_zero, List.set_cons_succ] at hK ⊢
                  rw [d6, d9] at hK ⊢
                  clear d6 d9
                  refine step_append_ints_full (by first | rfl | kernel_rfl) (.tmp 95) (.tmp 98) rfl rfl rfl HI6.out HI9.out (by omega) (fun a' c' w8 hat hb _ => ?_)
                  exact hK (.slice a' (1 + (0 - 0)) c') _ (HI.out.put 10 _ (.inl (by decide)) (⟨a', c', rfl, hat⟩) (hb)) _ rfl
                · obtain rfl := Option.some.inj ho.symm
                  have d3 : V 3 = .slice none 0 0 := hI.val 3 (hdep ⟨3, .data⟩ (by simp) rfl)
                  have e10 : InsF none 0 0 0 A x xs wq.drew.heap.size 10 (V 10) w7 := hI.val 10 (hdep ⟨10, .data⟩ (by simp) rfl)
                  clear hdep ho hI hL
                  refine e10.elim fun a9 h9 => h9.elim fun c9 h10 => ?_
                  have d10 := h10.1
                  have HI10 := Lib.hid h10.2
                  clear h9 h10 e10
                  simp only [fill, slotOf, List.size_toArray, List.length_cons, List.length_nil, Nat.reduceAdd, List.getElem?_toArray, List.getElem?_cons_zero, List.getElem?_cons_succ, Option.bind_some, Act.put, List.setIfInBounds_toArray, List.set_cons_zero, List.set_cons_succ] at hK ⊢
                  rw [d3, d10] at hK ⊢
                  clear d10
                  refine step_append_ints_full (by first | rfl | kernel_rfl) (.tmp 92) (.tmp 99) rfl rfl rfl (show IntsAt w7 none 0 0 (xs.take 0) from IntsAt.empty _ _ _ (by omega) (fun _ => rfl)) HI10.out (by omega) (fun a' c' w8 hat hb hg => ?_)
                  refine (hg (by omega)).elim fun g hg2 => ?_
                  obtain ⟨rfl, hg3, hg4⟩ := hg2
                  exact hK (.slice (some ⟨g, 0, none⟩) (0 + (1 + (0 - 0))) c') _ (HI.out.put 11 _ (.inl (by decide)) (⟨g, c', rfl, hat, Nat.le_trans HWD.out.size hg3, hg4⟩) (hb)) _ rfl
                · obtain rfl := Option.some.inj ho.symm
                  have e11 : InsF none 0 0 0 A x xs wq.drew.heap.size 11 (V 11) w7 := hI.val 11 (hdep ⟨11, .data⟩ (by simp) rfl)
                  have l0 := hdep ⟨0, .phase⟩ (by simp) rfl
                  have l7 := hdep ⟨7, .phase⟩ (by simp) rfl
                  clear hdep ho hI hL
                  refine e11.elim fun g hg => hg.elim fun c9 h11 => ?_
                  have d11 := h11.1
                  have HI11 := Lib.hid h11.2
                  clear hg h11 e11
                  simp only [fill, slotOf, List.size_toArray, List.length_cons, List.length_nil, Nat.reduceAdd, List.getElem?_toArray, List.getElem?_cons_zero, List.getElem?_cons_succ, Option.bind_some, Act.put, List.setIfInBounds_toArray, List.set_cons_zero, List.set_cons_succ] at hK ⊢
                  rw [d11] at hK ⊢
                  clear d11
                  go_simp
                  exact hK (.slice (some ⟨g, 0, none⟩) (0 + (1 + (0 - 0))) c9) _ (HI.out.put 12 _ (.inr ⟨l0, l7⟩) (⟨g, c9, rfl, HI11.out⟩) (Below.refl _ _)) _ rfl
              · intro L V w7 hI hall
                have h12 : InsF none 0 0 0 A x xs wq.drew.heap.size 12 (V 12) w7 := hI.val 12 (hall 12 (by decide))
                have HB7 := Lib.hid hI.wd
                refine h12.elim fun g hg => hg.elim fun c9 h13 => ?_
                have d12 := h13.1
                have HI := Lib.hid h13.2
                clear hall hI h12 hg h13
                simp only [fill, slotOf, List.size_toArray, List.length_cons, List.length_nil, Nat.reduceAdd, List.getElem?_toArray, List.getElem?_cons_zero, List.getElem?_cons_succ, Option.bind_some, Act.put, List.setIfInBounds_toArray, List.set_cons_zero, List.set_cons_succ]
                rw [d12]
                clear d12
                have hqe : 0 + (1 + (0 - 0)) = 0 + 1 := by omega
                rw [hqe] at HI ⊢
                have HSM7 := Lib.hid (show Same y5 (0 + 1) (xs.take 0 ++ x :: xs.drop 0) from HSM.out.push HOK5.out HCN5.out (by omega) HGT.out hle)
                have HP7 := Lib.hid (HPQ.out.kept HB7.out)
                have HW7 := Lib.hid (show WAt w7 p og5 (some ⟨g, 0, none⟩) (0 + 1) c9 (xs.take 0 ++ x :: xs.drop 0) from ⟨HI.out.1, .inr ⟨g, 0, rfl, HI.out.2.2, by have := HI.out.2.1; have := HPQ.out.lt.2; omega, fun e => by have := HI.out.2.1; have := (HPQ.out.glt g e.symm).2.1; omega⟩⟩)
                have HBB7 := Lib.hid (HBQ.out.trans (HB7.out.mono HBQ.out.size))
                go_wp2_with fail
                refine (len_own HP7.out).mono ?_
                rintro e w8 ⟨rfl, hb8⟩
                have HP8 := Lib.hid (HP7.out.kept hb8)
                have HW8 := Lib.hid (HW7.out.kept hb8)
                have HB8 := Lib.hid (HBB7.out.trans (hb8.mono HBB7.out.size))
                clear hb8
                go_wp2_with fail
                go_roundw
                case rel => exact ⟨k + 1, _, _, _, _, _, _, by omega, by go_num, rfl, Lib.hid (by have := HMK.out; omega), HP8, HSM7, HW8, HB8⟩
                case measure => simp [intOf]; omega
          · subst ha
            clear hb1 hb2 hb3
            go_wp2_with fail
            go_loopw [9] (fun s9 wq => ∃ q : Nat, q ≤ m ∧ s9 = .int .i64 (q : Int) ∧ Hid (∀ j, q ≤ j → j < m → x < xs.getD j 0) ∧ Hid (Below w5.heap.size w5 wq)) (fun s9 _ => (intOf s9).toNat)
            case atStart => exact ⟨m, Nat.le_refl _, rfl, Lib.hid (fun j h1 h2 => by omega), Lib.hid (Below.refl _ _)⟩
            case round =>
              obtain ⟨q, zq4, rfl, HGT, HBW⟩ := hrel
              rename World => wq
              have HBW := Lib.hid (Below.drew HBW.out)
              have HWQ := Lib.hid (HW5.out.kept HBW.out)
              have HPQ := Lib.hid (HP5.out.kept HBW.out)
              have HBQ := Lib.hid (HB5.out.trans (HBW.out.mono HB5.out.size))
              have HA1 := Lib.hid (show ∀ w7, Below wq.drew.heap.size wq.drew w7 → w7.cell? ⟨A, 1, none⟩ = some (.int .i64 x) from fun w7 h7 => ((HBW.out.trans (h7.mono HBW.out.size)).cell (p := ⟨A, 1, none⟩) HAS.out).trans HA5.out)
              by_cases hq0 : 0 < q
              case neg =>
                have zq1 : ¬ (0 : Int) < (q : Int) := by omega
                have zq5 := HWQ.out.ints.cap
                have hle : 0 < q → xs.getD (q - 1) 0 ≤ x := fun h => absurd h hq0
                go_wp2_with fail
                first | go_region | go_quiet (fail)
                go_wp2_with fail
                have zc1 : (q : Int) ≤ (c : Int) := by have := HWQ.out.ints.cap; omega
                have zc2 : (q : Int) ≤ (m : Int) := by omega
                have zc3 : (m : Int) ≤ (c : Int) := by have := HWQ.out.ints.cap; omega
                obtain ⟨a9, ha9⟩ : ∃ a9 : Option Addr, (if c = q then some ⟨b, off, none⟩ else some ⟨b, off + q, none⟩) = a9 := ⟨_, rfl⟩
                have HA9 := Lib.hid (show ∀ w7, Below wq.drew.heap.size wq.drew w7 → IntsAt w7 a9 (m - q) (c - q) (xs.drop q) from fun w7 h7 => by
                  have h8 := HWQ.out.ints.keep h7 (Nat.le_refl _)
                  by_cases e : c = q
                  · rw [if_pos e] at ha9
                    have h9 := h8.len
                    have h10 := h8.cap
                    rw [← ha9]
                    exact ⟨by rw [List.length_drop]; omega, by omega, by have := h8.capm; omega, (fun e => by cases e), fun h => by omega⟩
                  · rw [if_neg e] at ha9
                    rw [← ha9]
                    exact h8.tail zq4)
                have HSRC := Lib.hid (HWQ.out.ints)
                refine wp_region_inv0 (by kernel_rfl) (by kernel_rfl) (by kernel_rfl) (InsI (some ⟨b, off, none⟩) m c q A x xs wq.drew.heap.size wq.drew) ⟨fun _ h => Bool.noConfusion h, fun _ => rfl, fun h => Bool.noConfusion h, Below.drew (Below.refl _ _)⟩ ?_ ?_
                · intro j o ho L V w7 K hI hL hdep hK
                  have HI := Lib.hid hI
                  have HWD := Lib.hid hI.wd
                  have hi13 : j < 13 := (Array.getElem?_eq_some_iff.1 ho).1
                  have hcs : j = 0 ∨ j = 1 ∨ j = 2 ∨ j = 3 ∨ j = 4 ∨ j = 5 ∨ j = 6 ∨ j = 7 ∨ j = 8 ∨ j = 9 ∨ j = 10 ∨ j = 11 ∨ j = 12 := by omega
                  clear hi13
                  rcases hcs with rfl | rfl | rfl | rfl | rfl | rfl | rfl | rfl | rfl | rfl | rfl | rfl | rfl
                  · obtain rfl := Option.some.inj ho.symm
                    have o12 : V 12 = .slice (some ⟨b, off, none⟩) m c := hI.was hL (by simp)
                    clear hdep ho hI hL
                    simp only [fill, slotOf, List.size_toArray, List.length_cons, List.length_nil, Nat.reduceAdd, List.getElem?_toArray, List.getElem?_cons_zero, List.getElem?_cons_succ, Option.bind_some, Act.put, List.setIfInBounds_toArray, List.set_cons_zero, List.set_cons_succ] at hK ⊢
                    rw [o12] at hK ⊢
                    go_simp
                    exact hK (.slice (some ⟨b, off, none⟩) m c) _ (HI.out.put 0 _ (.inl (by decide)) (rfl) (Below.refl _ _)) _ rfl
                  · obtain rfl := Option.some.inj ho.symm
                    clear hdep ho hI hL
                    simp only [fill, slotOf, List.size_toArray, List.length_cons, List.length_nil, Nat.reduceAdd, List.getElem?_toArray, List.getElem?_cons_zero, List.getElem?_cons_succ, Option.bind_some, Act.put, List.setIfInBounds_toArray, List.set_cons_zero, List.set_cons_succ] at hK ⊢
                    go_simp
                    exact hK (.int .i64 (q : Int)) _ (HI.out.put 1 _ (.inl (by decide)) (rfl) (Below.refl _ _)) _ rfl
                  · obtain rfl := Option.some.inj ho.symm
                    clear hdep ho hI hL
                    simp only [fill, slotOf, List.size_toArray, List.length_cons, List.length_nil, Nat.reduceAdd, List.getElem?_toArray, List.getElem?_cons_zero, List.getElem?_cons_succ, Option.bind_some, Act.put, List.setIfInBounds_toArray, List.set_cons_zero, List.set_cons_succ] at hK ⊢
                    go_simp
                    exact hK (.int .i64 (q : Int)) _ (HI.out.put 2 _ (.inl (by decide)) (rfl) (Below.refl _ _)) _ rfl
                  · obtain rfl := Option.some.inj ho.symm
                    have d0 : V 0 = .slice (some ⟨b, off, none⟩) m c := hI.val 0 (hdep ⟨0, .data⟩ (by simp) rfl)
                    have d1 : V 1 = .int .i64 (q : Int) := hI.val 1 (hdep ⟨1, .data⟩ (by simp) rfl)
                    have d2 : V 2 = .int .i64 (q : Int) := hI.val 2 (hdep ⟨2, .data⟩ (by simp) rfl)
                    clear hdep ho hI hL
                    simp only [fill, slotOf, List.size_toArray, List.length_cons, List.length_nil, Nat.reduceAdd, List.getElem?_toArray, List.getElem?_cons_zero, List.getElem?_cons_succ, Option.bind_some, Act.put, List.setIfInBounds_toArray, List.set_cons_zero, List.set_cons_succ] at hK ⊢
                    rw [d0, d1, d2] at hK ⊢
                    go_simp
                    exact hK (.slice (some ⟨b, off, none⟩) q q) _ (HI.out.put 3 _ (.inl (by decide)) (rfl) (Below.refl _ _)) _ rfl
                  · obtain rfl := Option.some.inj ho.symm
                    clear hdep ho hI hL
                    simp only [fill, slotOf, List.size_toArray, List.length_cons, List.length_nil, Nat.reduceAdd, List.getElem?_toArray, List.getElem?_cons_zero, List.getElem?_cons_succ, Option.bind_some, Act.put, List.setIfInBounds_toArray, List.set_cons_zero, List.set_cons_succ] at hK ⊢
                    go_simp
                    exact hK (.pointer (some ⟨A, 1, none⟩)) _ (HI.out.put 4 _ (.inl (by decide)) (rfl) (Below.refl _ _)) _ rfl
                  · obtain rfl := Option.some.inj ho.symm
                    have d4 : V 4 = .pointer (some ⟨A, 1, none⟩) := hI.val 4 (hdep ⟨4, .data⟩ (by simp) rfl)
                    have cx := HA1.out w7 HWD.out
                    clear hdep ho hI hL
                    simp only [fill, slotOf, List.size_toArray, List.length_cons, List.length_nil, Nat.reduceAdd, List.getElem?_toArray, List.getElem?_cons_zero, List.getElem?_cons_succ, Option.bind_some, Act.put, List.setIfInBounds_toArray, List.set_cons_zero, List.set_cons_succ] at hK ⊢
                    rw [d4] at hK ⊢
                    go_simp
                    exact hK (.int .i64 x) _ (HI.out.put 5 _ (.inl (by decide)) (rfl) (Below.refl _ _)) _ rfl
                  · obtain rfl := Option.some.inj ho.symm
                    have d5 : V 5 = .int .i64 x := hI.val 5 (hdep ⟨5, .data⟩ (by simp) rfl)
                    clear hdep ho hI hL
                    have hbl : Below w7.heap.size w7 (w7.alloc (.cells #[.int .i64 x] 3)) := (Below.refl _ _).alloc (Nat.le_refl _) _
                    simp only [fill, slotOf, List.size_toArray, List.length_cons, List.length_nil, Nat.reduceAdd, List.getElem?_toArray, List.getElem?_cons_zero, List.getElem?_cons_succ, Option.bind_some, Act.put, List.setIfInBounds_toArray, List.set_cons_zero, List.set_cons_succ] at hK ⊢
                    rw [d5] at hK ⊢
                    go_simp
                    exact hK (.slice (some ⟨w7.heap.size, 0, none⟩) 1 1) _ (HI.out.put 6 _ (.inl (by decide)) (⟨_, rfl, box_ints w7 x⟩) (hbl)) _ rfl
                  · obtain rfl := Option.some.inj ho.symm
                    have o12 : V 12 = .slice (some ⟨b, off, none⟩) m c := hI.was hL (by simp)
                    clear hdep ho hI hL
                    simp only [fill, slotOf, List.size_toArray, List.length_cons, List.length_nil, Nat.reduceAdd, List.getElem?_toArray, List.getElem?_cons_zero, List.getElem?_cons_succ, Option.bind_some, Act.put, List.setIfInBounds_toArray, List.set_cons_zero, List.set_cons_succ] at hK ⊢
                    rw [o12] at hK ⊢
                    go_simp
                    exact hK (.slice (some ⟨b, off, none⟩) m c) _ (HI.out.put 7 _ (.inl (by decide)) (rfl) (Below.refl _ _)) _ rfl
                  · obtain rfl := Option.some.inj ho.symm
                    clear hdep ho hI hL
                    simp only [fill, slotOf, List.size_toArray, List.length_cons, List.length_nil, Nat.reduceAdd, List.getElem?_toArray, List.getElem?_cons_zero, List.getElem?_cons_succ, Option.bind_some, Act.put, List.setIfInBounds_toArray, List.set_cons_zero, List.set_cons_succ] at hK ⊢
                    go_simp
                    exact hK (.int .i64 (q : Int)) _ (HI.out.put 8 _ (.inl (by decide)) (rfl) (Below.refl _ _)) _ rfl
                  · obtain rfl := Option.some.inj ho.symm
                    have d7 : V 7 = .slice (some ⟨b, off, none⟩) m c := hI.val 7 (hdep ⟨7, .data⟩ (by simp) rfl)
                    have d8 : V 8 = .int .i64 (q : Int) := hI.val 8 (hdep ⟨8, .data⟩ (by simp) rfl)
                    clear hdep ho hI hL
                    simp only [fill, slotOf, List.size_toArray, List.length_cons, List.length_nil, Nat.reduceAdd, List.getElem?_toArray, List.getElem?_cons_zero, List.getElem?_cons_succ, Option.bind_some, Act.put, List.setIfInBounds_toArray, List.set_cons_zero, List.set_cons_succ] at hK ⊢
                    rw [d7, d8] at hK ⊢
                    go_simp
                    exact hK (.slice a9 (m - q) (c - q)) _ (HI.out.put 9 _ (.inl (by decide)) (⟨a9, rfl, HA9.out w7 HWD.out⟩) (Below.refl _ _)) _ rfl
                  · obtain rfl := Option.some.inj ho.symm
                    have e6 : InsF (some ⟨b, off, none⟩) m c q A x xs wq.drew.heap.size 6 (V 6) w7 := hI.val 6 (hdep ⟨6, .data⟩ (by simp) rfl)
                    have e9 : InsF (some ⟨b, off, none⟩) m c q A x xs wq.drew.heap.size 9 (V 9) w7 := hI.val 9 (hdep ⟨9, .data⟩ (by simp) rfl)
                    clear hdep ho hI hL
                    refine e6.elim fun g6 h6 => e9.elim fun a9 h9 => ?_
                    have d6 := h6.1
                    have d9 := h9.1
                    have HI6 := Lib.hid h6.2
                    have HI9 := Lib.hid h9.2
                    clear h6 h9 e6 e9
                    simp only [fill, slotOf, List.size_toArray, List.length_cons, List.length_nil, Nat.reduceAdd, List.getElem?_toArray, List.getElem?_cons_zero, List.getElem?_cons_succ, Option.bind_some, Act.put, List.setIfInBounds_toArray, List.set_cons_zero, List.set_cons_succ] at hK ⊢
                    rw [d6, d9] at hK ⊢
                    clear d6 d9
                    refine step_append_ints_full (by first | rfl | kernel_rfl) (.tmp 95) (.tmp 98) rfl rfl rfl HI6.out HI9.out (by omega) (fun a' c' w8 hat hb _ => ?_)
                    exact hK (.slice a' (1 + (m - q)) c') _ (HI.out.put 10 _ (.inl (by decide)) (⟨a', c', rfl, hat⟩) (hb)) _ rfl
                  · obtain rfl := Option.some.inj ho.symm
                    have d3 : V 3 = .slice (some ⟨b, off, none⟩) q q := hI.val 3 (hdep ⟨3, .data⟩ (by simp) rfl)
                    have e10 : InsF (some ⟨b, off, none⟩) m c q A x xs wq.drew.heap.size 10 (V 10) w7 := hI.val 10 (hdep ⟨10, .data⟩ (by simp) rfl)
                    clear hdep ho hI hL
                    refine e10.elim fun a9 h9 => h9.elim fun c9 h10 => ?_
                    have d10 := h10.1
                    have HI10 := Lib.hid h10.2
                    clear h9 h10 e10
                    simp only [fill, slotOf, List.size_toArray, List.length_cons, List.length_nil, Nat.reduceAdd, List.getElem?_toArray, List.getElem?_cons_zero, List.getElem?_cons_succ, Option.bind_some, Act.put, List.setIfInBounds_toArray, List.set_cons_zero, List.set_cons_succ] at hK ⊢
                    rw [d3, d10] at hK ⊢
                    clear d10
                    refine step_append_ints_full (by first | rfl | kernel_rfl) (.tmp 92) (.tmp 99) rfl rfl rfl ((HSRC.out.keep HWD.out (Nat.le_refl _)).init (fun e => by cases e) zq4) HI10.out (by omega) (fun a' c' w8 hat hb hg => ?_)
                    refine (hg (by omega)).elim fun g hg2 => ?_
                    obtain ⟨rfl, hg3, hg4⟩ := hg2
                    exact hK (.slice (some ⟨g, 0, none⟩) (q + (1 + (m - q))) c') _ (HI.out.put 11 _ (.inl (by decide)) (⟨g, c', rfl, hat, Nat.le_trans HWD.out.size hg3, hg4⟩) (hb)) _ rfl
                  · obtain rfl := Option.some.inj ho.symm
                    have e11 : InsF (some ⟨b, off, none⟩) m c q A x xs wq.drew.heap.size 11 (V 11) w7 := hI.val 11 (hdep ⟨11, .data⟩ (by simp) rfl)
                    have l0 := hdep ⟨0, .phase⟩ (by simp) rfl
                    have l7 := hdep ⟨7, .phase⟩ (by simp) rfl
                    clear hdep ho hI hL
                    refine e11.elim fun g hg => hg.elim fun c9 h11 => ?_
                    have d11 := h11.1
                    have HI11 := Lib.hid h11.2
                    clear hg h11 e11
                    simp only [fill, slotOf, List.size_toArray, List.length_cons, List.length_nil, Nat.reduceAdd, List.getElem?_toArray, List.getElem?_cons_zero, List.getElem?_cons_succ, Option.bind_some, Act.put, List.setIfInBounds_toArray, List.set_cons_zero, List.set_cons_succ] at hK ⊢
                    rw [d11] at hK ⊢
                    clear d11
                    go_simp
                    exact hK (.slice (some ⟨g, 0, none⟩) (q + (1 + (m - q))) c9) _ (HI.out.put 12 _ (.inr ⟨l0, l7⟩) (⟨g, c9, rfl, HI11.out⟩) (Below.refl _ _)) _ rfl
                · intro L V w7 hI hall
                  have h12 : InsF (some ⟨b, off, none⟩) m c q A x xs wq.drew.heap.size 12 (V 12) w7 := hI.val 12 (hall 12 (by decide))
                  have HB7 := Lib.hid hI.wd
                  refine h12.elim fun g hg => hg.elim fun c9 h13 => ?_
                  have d12 := h13.1
                  have HI := Lib.hid h13.2
                  clear hall hI h12 hg h13
                  simp only [fill, slotOf, List.size_toArray, List.length_cons, List.length_nil, Nat.reduceAdd, List.getElem?_toArray, List.getElem?_cons_zero, List.getElem?_cons_succ, Option.bind_some, Act.put, List.setIfInBounds_toArray, List.set_cons_zero, List.set_cons_succ]
                  rw [d12]
                  clear d12
                  have hqe : q + (1 + (m - q)) = m + 1 := by omega
                  rw [hqe] at HI ⊢
                  have HSM7 := Lib.hid (show Same y5 (m + 1) (xs.take q ++ x :: xs.drop q) from HSM.out.push HOK5.out HCN5.out (by omega) HGT.out hle)
                  have HP7 := Lib.hid (HPQ.out.kept HB7.out)
                  have HW7 := Lib.hid (show WAt w7 p og5 (some ⟨g, 0, none⟩) (m + 1) c9 (xs.take q ++ x :: xs.drop q) from ⟨HI.out.1, .inr ⟨g, 0, rfl, HI.out.2.2, by have := HI.out.2.1; have := HPQ.out.lt.2; omega, fun e => by have := HI.out.2.1; have := (HPQ.out.glt g e.symm).2.1; omega⟩⟩)
                  have HBB7 := Lib.hid (HBQ.out.trans (HB7.out.mono HBQ.out.size))
                  go_wp2_with fail
                  refine (len_own HP7.out).mono ?_
                  rintro e w8 ⟨rfl, hb8⟩
                  have HP8 := Lib.hid (HP7.out.kept hb8)
                  have HW8 := Lib.hid (HW7.out.kept hb8)
                  have HB8 := Lib.hid (HBB7.out.trans (hb8.mono HBB7.out.size))
                  clear hb8
                  go_wp2_with fail
                  go_roundw
                  case rel => exact ⟨k + 1, _, _, _, _, _, _, by omega, by go_num, rfl, Lib.hid (by have := HMK.out; omega), HP8, HSM7, HW8, HB8⟩
                  case measure => simp [intOf]; omega
              case pos =>
                have zq1 : (0 : Int) < (q : Int) := by omega
                have zq2 : (0 : Int) ≤ (q : Int) - 1 := by omega
                have zq3 : (q : Int) - 1 < (m : Int) := by omega
                have wq1 : IntKind.i64.wrap ((q : Int) - 1) = (q : Int) - 1 := IntWalk.i64_in _ (by omega)
                have zq5 := HWQ.out.ints.cap
                obtain ⟨y, hy⟩ : ∃ y, y = xs.getD (q - 1) 0 := ⟨_, rfl⟩
                have cy : wq.cell? ⟨b, off + (q - 1), none⟩ = some (.int .i64 y) := by
                  obtain ⟨b', off', ha', _, hc'⟩ := HWQ.out.ints.cells (by omega)
                  cases ha'
                  rw [hy]
                  exact hc' (q - 1) (by omega)
                have ca : wq.cell? ⟨A, 1, none⟩ = some (.int .i64 x) := HA1.out wq.drew (Below.refl _ _)
                have hqt : ((q : Int) - 1).toNat = q - 1 := by omega
                have HY := Lib.hid hy
                clear hy
                by_cases hxy : x < y
                case pos =>
                  have HGT2 := Lib.hid (show ∀ j, q - 1 ≤ j → j < m → x < xs.getD j 0 from fun j h1 h2 => by
                    rcases Nat.lt_or_ge j q with g | g
                    · obtain rfl : j = q - 1 := by omega
                      rw [← HY.out]; exact hxy
                    · exact HGT.out j g h2)
                  go_wp2_with fail
                  first | go_region | go_quiet (fail)
                  go_wp2_with fail
                  go_roundw
                  case rel => exact ⟨q - 1, by omega, by go_num, HGT2, HBW⟩
                  case measure => simp [intOf]; omega
                case neg =>
                  have hle : 0 < q → xs.getD (q - 1) 0 ≤ x := fun _ => by rw [← HY.out]; omega
                  go_wp2_with fail
                  first | go_region | go_quiet (fail)
                  go_wp2_with fail
                  have zc1 : (q : Int) ≤ (c : Int) := by have := HWQ.out.ints.cap; omega
                  have zc2 : (q : Int) ≤ (m : Int) := by omega
                  have zc3 : (m : Int) ≤ (c : Int) := by have := HWQ.out.ints.cap; omega
                  obtain ⟨a9, ha9⟩ : ∃ a9 : Option Addr, (if c = q then some ⟨b, off, none⟩ else some ⟨b, off + q, none⟩) = a9 := ⟨_, rfl⟩
                  have HA9 := Lib.hid (show ∀ w7, Below wq.drew.heap.size wq.drew w7 → IntsAt w7 a9 (m - q) (c - q) (xs.drop q) from fun w7 h7 => by
                    have h8 := HWQ.out.ints.keep h7 (Nat.le_refl _)
                    by_cases e : c = q
                    · rw [if_pos e] at ha9
                      have h9 := h8.len
                      have h10 := h8.cap
                      rw [← ha9]
                      exact ⟨by rw [List.length_drop]; omega, by omega, by have := h8.capm; omega, (fun e => by cases e), fun h => by omega⟩
                    · rw [if_neg e] at ha9
                      rw [← ha9]
                      exact h8.tail zq4)
                  have HSRC := Lib.hid (HWQ.out.ints)
                  refine wp_region_inv0 (by kernel_rfl) (by kernel_rfl) (by kernel_rfl) (InsI (some ⟨b, off, none⟩) m c q A x xs wq.drew.heap.size wq.drew) ⟨fun _ h => Bool.noConfusion h, fun _ => rfl, fun h => Bool.noConfusion h, Below.drew (Below.refl _ _)⟩ ?_ ?_
                  · intro j o ho L V w7 K hI hL hdep hK
                    have HI := Lib.hid hI
                    have HWD := Lib.hid hI.wd
                    have hi13 : j < 13 := (Array.getElem?_eq_some_iff.1 ho).1
                    have hcs : j = 0 ∨ j = 1 ∨ j = 2 ∨ j = 3 ∨ j = 4 ∨ j = 5 ∨ j = 6 ∨ j = 7 ∨ j = 8 ∨ j = 9 ∨ j = 10 ∨ j = 11 ∨ j = 12 := by omega
                    clear hi13
                    rcases hcs with rfl | rfl | rfl | rfl | rfl | rfl | rfl | rfl | rfl | rfl | rfl | rfl | rfl
                    · obtain rfl := Option.some.inj ho.symm
                      have o12 : V 12 = .slice (some ⟨b, off, none⟩) m c := hI.was hL (by simp)
                      clear hdep ho hI hL
                      simp only [fill, slotOf, List.size_toArray, List.length_cons, List.length_nil, Nat.reduceAdd, List.getElem?_toArray, List.getElem?_cons_zero, List.getElem?_cons_succ, Option.bind_some, Act.put, List.setIfInBounds_toArray, List.set_cons_zero, List.set_cons_succ] at hK ⊢
                      rw [o12] at hK ⊢
                      go_simp
                      exact hK (.slice (some ⟨b, off, none⟩) m c) _ (HI.out.put 0 _ (.inl (by decide)) (rfl) (Below.refl _ _)) _ rfl
                    · obtain rfl := Option.some.inj ho.symm
                      clear hdep ho hI hL
                      simp only [fill, slotOf, List.size_toArray, List.length_cons, List.length_nil, Nat.reduceAdd, List.getElem?_toArray, List.getElem?_cons_zero, List.getElem?_cons_succ, Option.bind_some, Act.put, List.setIfInBounds_toArray, List.set_cons_zero, List.set_cons_succ] at hK ⊢
                      go_simp
                      exact hK (.int .i64 (q : Int)) _ (HI.out.put 1 _ (.inl (by decide)) (rfl) (Below.refl _ _)) _ rfl
                    · obtain rfl := Option.some.inj ho.symm
                      clear hdep ho hI hL
                      simp only [fill, slotOf, List.size_toArray, List.length_cons, List.length_nil, Nat.reduceAdd, List.getElem?_toArray, List.getElem?_cons_zero, List.getElem?_cons_succ, Option.bind_some, Act.put, List.setIfInBounds_toArray, List.set_cons_zero, List.set_cons_succ] at hK ⊢
                      go_simp
                      exact hK (.int .i64 (q : Int)) _ (HI.out.put 2 _ (.inl (by decide)) (rfl) (Below.refl _ _)) _ rfl
                    · obtain rfl := Option.some.inj ho.symm
                      have d0 : V 0 = .slice (some ⟨b, off, none⟩) m c := hI.val 0 (hdep ⟨0, .data⟩ (by simp) rfl)
                      have d1 : V 1 = .int .i64 (q : Int) := hI.val 1 (hdep ⟨1, .data⟩ (by simp) rfl)
                      have d2 : V 2 = .int .i64 (q : Int) := hI.val 2 (hdep ⟨2, .data⟩ (by simp) rfl)
                      clear hdep ho hI hL
                      simp only [fill, slotOf, List.size_toArray, List.length_cons, List.length_nil, Nat.reduceAdd, List.getElem?_toArray, List.getElem?_cons_zero, List.getElem?_cons_succ, Option.bind_some, Act.put, List.setIfInBounds_toArray, List.set_cons_zero, List.set_cons_succ] at hK ⊢
                      rw [d0, d1, d2] at hK ⊢
                      go_simp
                      exact hK (.slice (some ⟨b, off, none⟩) q q) _ (HI.out.put 3 _ (.inl (by decide)) (rfl) (Below.refl _ _)) _ rfl
                    · obtain rfl := Option.some.inj ho.symm
                      clear hdep ho hI hL
                      simp only [fill, slotOf, List.size_toArray, List.length_cons, List.length_nil, Nat.reduceAdd, List.getElem?_toArray, List.getElem?_cons_zero, List.getElem?_cons_succ, Option.bind_some, Act.put, List.setIfInBounds_toArray, List.set_cons_zero, List.set_cons_succ] at hK ⊢
                      go_simp
                      exact hK (.pointer (some ⟨A, 1, none⟩)) _ (HI.out.put 4 _ (.inl (by decide)) (rfl) (Below.refl _ _)) _ rfl
                    · obtain rfl := Option.some.inj ho.symm
                      have d4 : V 4 = .pointer (some ⟨A, 1, none⟩) := hI.val 4 (hdep ⟨4, .data⟩ (by simp) rfl)
                      have cx := HA1.out w7 HWD.out
                      clear hdep ho hI hL
                      simp only [fill, slotOf, List.size_toArray, List.length_cons, List.length_nil, Nat.reduceAdd, List.getElem?_toArray, List.getElem?_cons_zero, List.getElem?_cons_succ, Option.bind_some, Act.put, List.setIfInBounds_toArray, List.set_cons_zero, List.set_cons_succ] at hK ⊢
                      rw [d4] at hK ⊢
                      go_simp
                      exact hK (.int .i64 x) _ (HI.out.put 5 _ (.inl (by decide)) (rfl) (Below.refl _ _)) _ rfl
                    · obtain rfl := Option.some.inj ho.symm
                      have d5 : V 5 = .int .i64 x := hI.val 5 (hdep ⟨5, .data⟩ (by simp) rfl)
                      clear hdep ho hI hL
                      have hbl : Below w7.heap.size w7 (w7.alloc (.cells #[.int .i64 x] 3)) := (Below.refl _ _).alloc (Nat.le_refl _) _
                      simp only [fill, slotOf, List.size_toArray, List.length_cons, List.length_nil, Nat.reduceAdd, List.getElem?_toArray, List.getElem?_cons_zero, List.getElem?_cons_succ, Option.bind_some, Act.put, List.setIfInBounds_toArray, List.set_cons_zero, List.set_cons_succ] at hK ⊢
                      rw [d5] at hK ⊢
                      go_simp
                      exact hK (.slice (some ⟨w7.heap.size, 0, none⟩) 1 1) _ (HI.out.put 6 _ (.inl (by decide)) (⟨_, rfl, box_ints w7 x⟩) (hbl)) _ rfl
                    · obtain rfl := Option.some.inj ho.symm
                      have o12 : V 12 = .slice (some ⟨b, off, none⟩) m c := hI.was hL (by simp)
                      clear hdep ho hI hL
                      simp only [fill, slotOf, List.size_toArray, List.length_cons, List.length_nil, Nat.reduceAdd, List.getElem?_toArray, List.getElem?_cons_zero, List.getElem?_cons_succ, Option.bind_some, Act.put, List.setIfInBounds_toArray, List.set_cons_zero, List.set_cons_succ] at hK ⊢
                      rw [o12] at hK ⊢
                      go_simp
                      exact hK (.slice (some ⟨b, off, none⟩) m c) _ (HI.out.put 7 _ (.inl (by decide)) (rfl) (Below.refl _ _)) _ rfl
                    · obtain rfl := Option.some.inj ho.symm
                      clear hdep ho hI hL
                      simp only [fill, slotOf, List.size_toArray, List.length_cons, List.length_nil, Nat.reduceAdd, List.getElem?_toArray, List.getElem?_cons_zero, List.getElem?_cons_succ, Option.bind_some, Act.put, List.setIfInBounds_toArray, List.set_cons_zero, List.set_cons_succ] at hK ⊢
                      go_simp
                      exact hK (.int .i64 (q : Int)) _ (HI.out.put 8 _ (.inl (by decide)) (rfl) (Below.refl _ _)) _ rfl
                    · obtain rfl := Option.some.inj ho.symm
                      have d7 : V 7 = .slice (some ⟨b, off, none⟩) m c := hI.val 7 (hdep ⟨7, .data⟩ (by simp) rfl)
                      have d8 : V 8 = .int .i64 (q : Int) := hI.val 8 (hdep ⟨8, .data⟩ (by simp) rfl)
                      clear hdep ho hI hL
                      simp only [fill, slotOf, List.size_toArray, List.length_cons, List.length_nil, Nat.reduceAdd, List.getElem?_toArray, List.getElem?_cons_zero, List.getElem?_cons_succ, Option.bind_some, Act.put, List.setIfInBounds_toArray, List.set_cons_zero, List.set_cons_succ] at hK ⊢
                      rw [d7, d8] at hK ⊢
                      go_simp
                      exact hK (.slice a9 (m - q) (c - q)) _ (HI.out.put 9 _ (.inl (by decide)) (⟨a9, rfl, HA9.out w7 HWD.out⟩) (Below.refl _ _)) _ rfl
                    · obtain rfl := Option.some.inj ho.symm
                      have e6 : InsF (some ⟨b, off, none⟩) m c q A x xs wq.drew.heap.size 6 (V 6) w7 := hI.val 6 (hdep ⟨6, .data⟩ (by simp) rfl)
                      have e9 : InsF (some ⟨b, off, none⟩) m c q A x xs wq.drew.heap.size 9 (V 9) w7 := hI.val 9 (hdep ⟨9, .data⟩ (by simp) rfl)
                      clear hdep ho hI hL
                      refine e6.elim fun g6 h6 => e9.elim fun a9 h9 => ?_
                      have d6 := h6.1
                      have d9 := h9.1
                      have HI6 := Lib.hid h6.2
                      have HI9 := Lib.hid h9.2
                      clear h6 h9 e6 e9
                      simp only [fill, slotOf, List.size_toArray, List.length_cons, List.length_nil, Nat.reduceAdd, List.getElem?_toArray, List.getElem?_cons_zero, List.getElem?_cons_succ, Option.bind_some, Act.put, List.setIfInBounds_toArray, List.set_cons_zero, List.set_cons_succ] at hK ⊢
                      rw [d6, d9] at hK ⊢
                      clear d6 d9
                      refine step_append_ints_full (by first | rfl | kernel_rfl) (.tmp 95) (.tmp 98) rfl rfl rfl HI6.out HI9.out (by omega) (fun a' c' w8 hat hb _ => ?_)
                      exact hK (.slice a' (1 + (m - q)) c') _ (HI.out.put 10 _ (.inl (by decide)) (⟨a', c', rfl, hat⟩) (hb)) _ rfl
                    · obtain rfl := Option.some.inj ho.symm
                      have d3 : V 3 = .slice (some ⟨b, off, none⟩) q q := hI.val 3 (hdep ⟨3, .data⟩ (by simp) rfl)
                      have e10 : InsF (some ⟨b, off, none⟩) m c q A x xs wq.drew.heap.size 10 (V 10) w7 := hI.val 10 (hdep ⟨10, .data⟩ (by simp) rfl)
                      clear hdep ho hI hL
                      refine e10.elim fun a9 h9 => h9.elim fun c9 h10 => ?_
                      have d10 := h10.1
                      have HI10 := Lib.hid h10.2
                      clear h9 h10 e10
                      simp only [fill, slotOf, List.size_toArray, List.length_cons, List.length_nil, Nat.reduceAdd, List.getElem?_toArray, List.getElem?_cons_zero, List.getElem?_cons_succ, Option.bind_some, Act.put, List.setIfInBounds_toArray, List.set_cons_zero, List.set_cons_succ] at hK ⊢
                      rw [d3, d10] at hK ⊢
                      clear d10
                      refine step_append_ints_full (by first | rfl | kernel_rfl) (.tmp 92) (.tmp 99) rfl rfl rfl ((HSRC.out.keep HWD.out (Nat.le_refl _)).init (fun e => by cases e) zq4) HI10.out (by omega) (fun a' c' w8 hat hb hg => ?_)
                      refine (hg (by omega)).elim fun g hg2 => ?_
                      obtain ⟨rfl, hg3, hg4⟩ := hg2
                      exact hK (.slice (some ⟨g, 0, none⟩) (q + (1 + (m - q))) c') _ (HI.out.put 11 _ (.inl (by decide)) (⟨g, c', rfl, hat, Nat.le_trans HWD.out.size hg3, hg4⟩) (hb)) _ rfl
                    · obtain rfl := Option.some.inj ho.symm
                      have e11 : InsF (some ⟨b, off, none⟩) m c q A x xs wq.drew.heap.size 11 (V 11) w7 := hI.val 11 (hdep ⟨11, .data⟩ (by simp) rfl)
                      have l0 := hdep ⟨0, .phase⟩ (by simp) rfl
                      have l7 := hdep ⟨7, .phase⟩ (by simp) rfl
                      clear hdep ho hI hL
                      refine e11.elim fun g hg => hg.elim fun c9 h11 => ?_
                      have d11 := h11.1
                      have HI11 := Lib.hid h11.2
                      clear hg h11 e11
                      simp only [fill, slotOf, List.size_toArray, List.length_cons, List.length_nil, Nat.reduceAdd, List.getElem?_toArray, List.getElem?_cons_zero, List.getElem?_cons_succ, Option.bind_some, Act.put, List.setIfInBounds_toArray, List.set_cons_zero, List.set_cons_succ] at hK ⊢
                      rw [d11] at hK ⊢
                      clear d11
                      go_simp
                      exact hK (.slice (some ⟨g, 0, none⟩) (q + (1 + (m - q))) c9) _ (HI.out.put 12 _ (.inr ⟨l0, l7⟩) (⟨g, c9, rfl, HI11.out⟩) (Below.refl _ _)) _ rfl
                  · intro L V w7 hI hall
                    have h12 : InsF (some ⟨b, off, none⟩) m c q A x xs wq.drew.heap.size 12 (V 12) w7 := hI.val 12 (hall 12 (by decide))
                    have HB7 := Lib.hid hI.wd
                    refine h12.elim fun g hg => hg.elim fun c9 h13 => ?_
                    have d12 := h13.1
                    have HI := Lib.hid h13.2
                    clear hall hI h12 hg h13
                    simp only [fill, slotOf, List.size_toArray, List.length_cons, List.length_nil, Nat.reduceAdd, List.getElem?_toArray, List.getElem?_cons_zero, List.getElem?_cons_succ, Option.bind_some, Act.put, List.setIfInBounds_toArray, List.set_cons_zero, List.set_cons_succ]
                    rw [d12]
                    clear d12
                    have hqe : q + (1 + (m - q)) = m + 1 := by omega
                    rw [hqe] at HI ⊢
                    have HSM7 := Lib.hid (show Same y5 (m + 1) (xs.take q ++ x :: xs.drop q) from HSM.out.push HOK5.out HCN5.out (by omega) HGT.out hle)
                    have HP7 := Lib.hid (HPQ.out.kept HB7.out)
                    have HW7 := Lib.hid (show WAt w7 p og5 (some ⟨g, 0, none⟩) (m + 1) c9 (xs.take q ++ x :: xs.drop q) from ⟨HI.out.1, .inr ⟨g, 0, rfl, HI.out.2.2, by have := HI.out.2.1; have := HPQ.out.lt.2; omega, fun e => by have := HI.out.2.1; have := (HPQ.out.glt g e.symm).2.1; omega⟩⟩)
                    have HBB7 := Lib.hid (HBQ.out.trans (HB7.out.mono HBQ.out.size))
                    go_wp2_with fail
                    refine (len_own HP7.out).mono ?_
                    rintro e w8 ⟨rfl, hb8⟩
                    have HP8 := Lib.hid (HP7.out.kept hb8)
                    have HW8 := Lib.hid (HW7.out.kept hb8)
                    have HB8 := Lib.hid (HBB7.out.trans (hb8.mono HBB7.out.size))
                    clear hb8
                    go_wp2_with fail
                    go_roundw
                    case rel => exact ⟨k + 1, _, _, _, _, _, _, by omega, by go_num, rfl, Lib.hid (by have := HMK.out; omega), HP8, HSM7, HW8, HB8⟩
                    case measure => simp [intOf]; omega
end Go.Proofs.Yteihbbmbdkkbbaa
