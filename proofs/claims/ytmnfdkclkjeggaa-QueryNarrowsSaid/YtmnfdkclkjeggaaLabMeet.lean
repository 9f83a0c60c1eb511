/- Labels: matchers, plainly; Asks, Get, HasPrefix walked. -/
import Derived.Test.YtmnfdkclkjeggaaLabRef
import Derived.Test.YtmnfdkclkjeggaaLabFew
namespace Go.Proofs.Ytmnfdkclkjeggaa
open Go.RowKit LabPlain
set_option linter.unusedVariables false

theorem isEmpty_dec (v : ByteArray) : v.toList.isEmpty = decide (v = ByteArray.empty) := by
  rw [← eq_toList]
  rw [show ByteArray.empty.toList = [] from by rw [ByteArray.toList_eq]; rfl]
  cases h : v.toList <;> rfl
abbrev Mat := ByteArray × Int × ByteArray
def mat0 : Mat := (ByteArray.empty, 0, ByteArray.empty)
/-- does a text begin so? -/
def prefB (v x : ByteArray) : Bool := decide (v.size ≤ x.size) && ((x.extract 0 v.size).toList == v.toList)
/-- a matcher -/
def asksB (m : Mat) : Bool := isNm m.1 && decide (m.2.2.size ≤ 16) && (decide (m.2.1 = 1) || decide (m.2.1 = 2) || decide (m.2.1 = 3) || (decide (m.2.1 = 4) && decide (m.2.2 = ByteArray.empty)))
/-- the last value of a name among the first k, and is there one? -/
def lst (l : List Lab) (nm : ByteArray) : Nat → ByteArray × Bool
  | 0 => (ByteArray.empty, false)
  | k + 1 => if (l.getD k lab0).1 = nm then ((l.getD k lab0).2, true) else lst l nm k
def meet1 (g : ByteArray × Bool) (way : Int) (v : ByteArray) : Bool :=
  if way = 1 then g.2 && decide (g.1 = v) else if way = 2 then !g.2 || !decide (g.1 = v) else if way = 3 then g.2 && prefB v g.1 else g.2
/-- do the first k matchers hold? -/
def meetTo (l : List Lab) (ms : List Mat) : Nat → Bool
  | 0 => true
  | k + 1 => meetTo l ms k && (asksB (ms.getD k mat0) && meet1 (lst l (ms.getD k mat0).1 l.length) (ms.getD k mat0).2.1 (ms.getD k mat0).2.2)
def meetsB (l : List Lab) (ms : List Mat) : Bool := isSet l && meetTo l ms ms.length
theorem meetTo_no {l : List Lab} {ms : List Mat} {k : Nat} (h : (asksB (ms.getD k mat0) && meet1 (lst l (ms.getD k mat0).1 l.length) (ms.getD k mat0).2.1 (ms.getD k mat0).2.2) = false) : ∀ d, meetTo l ms (k + 1 + d) = false
  | 0 => by rw [meetTo, h, Bool.and_false]
  | d + 1 => by rw [← Nat.add_assoc, meetTo, meetTo_no h d]; rfl
theorem lst_stay {l : List Lab} {nm : ByteArray} {n : Nat} (h : upTo l n = true) {k : Nat} (hm : (l.getD k lab0).1 = nm) : ∀ d, k + 1 + d ≤ n → lst l nm (k + 1 + d) = ((l.getD k lab0).2, true)
  | 0, _ => by rw [lst, if_pos hm]
  | d + 1, hd => by
    have hlt := upTo_lt h d k (by omega)
    rw [← Nat.add_assoc, lst, if_neg (fun e => by rw [hm, e, ltB_irrefl] at hlt; cases hlt)]
    exact lst_stay h hm d (by omega)

set_option maxRecDepth 100000 in
set_option maxHeartbeats 1000000 in
theorem asks_any (n v : ByteArray) (way : Int) (hns : n.size ≤ 140737488355328) (hvs : v.size ≤ 140737488355328) (w : World) :
    Calls Try.prog 20 #[.agg #[.string n, .int .i64 way, .string v]] w fun e w' => e = .returned (.bool (asksB (n, way, v))) ∧ Below w.heap.size w w' := by
  have hb : Below w.heap.size w (w.alloc (.cells #[.string n, .int .i64 way, .string v] 33)) := (Below.refl _ _).alloc (Nat.le_refl _) _
  have HB := Lib.hid hb
  have hnm := isname_any n (by omega) (w.alloc (.cells #[.string n, .int .i64 way, .string v] 33))
  clear hb
  cases hn : isNm n with
  | false =>
    rw [hn] at hnm
    have HN := Lib.hid hnm
    have HR := Lib.hid (show asksB (n, way, v) = false by simp [asksB, hn])
    clear hnm hn
    go_enter Try.func20, Try.ntmps20
    go_wp2_with fail
    refine HN.out.mono ?_
    rintro e w2 ⟨rfl, rfl⟩
    go_wp2_with fail
    go_ret
    rw [HR.out]; exact ⟨rfl, HB.out⟩
  | true =>
    rw [hn] at hnm
    have HN := Lib.hid hnm
    clear hnm
    by_cases h16 : 16 < v.size
    · have HR := Lib.hid (show asksB (n, way, v) = false by simp [asksB, hn]; omega)
      have h16i : (16 : Int) < (v.size : Int) := by omega
      clear h16 hn
      go_enter Try.func20, Try.ntmps20
      go_wp2_with fail
      refine HN.out.mono ?_
      rintro e w2 ⟨rfl, rfl⟩
      go_wp2_with fail
      go_ret
      rw [HR.out]; exact ⟨rfl, HB.out⟩
    · have h16i : (v.size : Int) ≤ 16 := by omega
      have HD := Lib.hid (show asksB (n, way, v) = (decide (way = 1) || decide (way = 2) || decide (way = 3) || (decide (way = 4) && decide (v = ByteArray.empty))) by
        simp only [asksB, hn, decide_eq_true (show v.size ≤ 16 by omega), Bool.true_and])
      clear h16 hn
      by_cases c1 : way = 1
      · subst c1
        have HR := Lib.hid (show asksB (n, 1, v) = true by rw [HD.out]; simp)
        clear HD
        go_enter Try.func20, Try.ntmps20
        go_wp2_with fail
        refine HN.out.mono ?_
        rintro e w2 ⟨rfl, rfl⟩
        go_wp2_with fail
        go_ret
        rw [HR.out]; exact ⟨rfl, HB.out⟩
      · by_cases c2 : way = 2
        · subst c2
          have HR := Lib.hid (show asksB (n, 2, v) = true by rw [HD.out]; simp)
          clear HD
          go_enter Try.func20, Try.ntmps20
          go_wp2_with fail
          refine HN.out.mono ?_
          rintro e w2 ⟨rfl, rfl⟩
          go_wp2_with fail
          go_ret
          rw [HR.out]; exact ⟨rfl, HB.out⟩
        · by_cases c3 : way = 3
          · subst c3
            have HR := Lib.hid (show asksB (n, 3, v) = true by rw [HD.out]; simp)
            clear HD
            go_enter Try.func20, Try.ntmps20
            go_wp2_with fail
            refine HN.out.mono ?_
            rintro e w2 ⟨rfl, rfl⟩
            go_wp2_with fail
            go_ret
            rw [HR.out]; exact ⟨rfl, HB.out⟩
          · by_cases c4 : way = 4
            · subst c4
              have HR := Lib.hid (show asksB (n, 4, v) = decide (v = ByteArray.empty) by rw [HD.out]; simp)
              clear HD
              go_enter Try.func20, Try.ntmps20
              go_wp2_with fail
              refine HN.out.mono ?_
              rintro e w2 ⟨rfl, rfl⟩
              go_wp2_with fail
              go_ret
              rw [HR.out, ← isEmpty_dec]; exact ⟨rfl, HB.out⟩
            · have HR := Lib.hid (show asksB (n, way, v) = false by rw [HD.out]; simp [c1, c2, c3, c4])
              clear HD
              go_enter Try.func20, Try.ntmps20
              go_wp2_with fail
              refine HN.out.mono ?_
              rintro e w2 ⟨rfl, rfl⟩
              go_wp2_with fail
              go_ret
              rw [HR.out]; exact ⟨rfl, HB.out⟩

set_option maxRecDepth 100000 in
set_option maxHeartbeats 1000000 in
theorem rasks_any (n v : ByteArray) (way : Int) (hns : n.size ≤ 140737488355328) (hvs : v.size ≤ 140737488355328) (w : World) :
    Calls Try.prog 21 #[.agg #[.string n, .int .i64 way, .string v]] w fun e w' => e = .returned (.bool (asksB (n, way, v))) ∧ Below w.heap.size w w' := by
  have hb : Below w.heap.size w (w.alloc (.cells #[.string n, .int .i64 way, .string v] 33)) := (Below.refl _ _).alloc (Nat.le_refl _) _
  have HB := Lib.hid hb
  have hnm := name_any n (by omega) (w.alloc (.cells #[.string n, .int .i64 way, .string v] 33))
  clear hb
  cases hn : isNm n with
  | false =>
    rw [hn] at hnm
    have HN := Lib.hid hnm
    have HR := Lib.hid (show asksB (n, way, v) = false by simp [asksB, hn])
    clear hnm hn
    go_enter Try.func21, Try.ntmps21
    go_wp2_with fail
    refine HN.out.mono ?_
    rintro e w2 ⟨rfl, rfl⟩
    go_wp2_with fail
    go_ret
    rw [HR.out]; exact ⟨rfl, HB.out⟩
  | true =>
    rw [hn] at hnm
    have HN := Lib.hid hnm
    clear hnm
    by_cases h16 : 16 < v.size
    · have HR := Lib.hid (show asksB (n, way, v) = false by simp [asksB, hn]; omega)
      have h16i : (16 : Int) < (v.size : Int) := by omega
      clear h16 hn
      go_enter Try.func21, Try.ntmps21
      go_wp2_with fail
      refine HN.out.mono ?_
      rintro e w2 ⟨rfl, rfl⟩
      go_wp2_with fail
      go_ret
      rw [HR.out]; exact ⟨rfl, HB.out⟩
    · have h16i : (v.size : Int) ≤ 16 := by omega
      have HD := Lib.hid (show asksB (n, way, v) = (decide (way = 1) || decide (way = 2) || decide (way = 3) || (decide (way = 4) && decide (v = ByteArray.empty))) by
        simp only [asksB, hn, decide_eq_true (show v.size ≤ 16 by omega), Bool.true_and])
      clear h16 hn
      by_cases c1 : way = 1
      · subst c1
        have HR := Lib.hid (show asksB (n, 1, v) = true by rw [HD.out]; simp)
        clear HD
        go_enter Try.func21, Try.ntmps21
        go_wp2_with fail
        refine HN.out.mono ?_
        rintro e w2 ⟨rfl, rfl⟩
        go_wp2_with fail
        go_ret
        rw [HR.out]; exact ⟨rfl, HB.out⟩
      · by_cases c2 : way = 2
        · subst c2
          have HR := Lib.hid (show asksB (n, 2, v) = true by rw [HD.out]; simp)
          clear HD
          go_enter Try.func21, Try.ntmps21
          go_wp2_with fail
          refine HN.out.mono ?_
          rintro e w2 ⟨rfl, rfl⟩
          go_wp2_with fail
          go_ret
          rw [HR.out]; exact ⟨rfl, HB.out⟩
        · by_cases c3 : way = 3
          · subst c3
            have HR := Lib.hid (show asksB (n, 3, v) = true by rw [HD.out]; simp)
            clear HD
            go_enter Try.func21, Try.ntmps21
            go_wp2_with fail
            refine HN.out.mono ?_
            rintro e w2 ⟨rfl, rfl⟩
            go_wp2_with fail
            go_ret
            rw [HR.out]; exact ⟨rfl, HB.out⟩
          · by_cases c4 : way = 4
            · subst c4
              have HR := Lib.hid (show asksB (n, 4, v) = decide (v = ByteArray.empty) by rw [HD.out]; simp)
              clear HD
              go_enter Try.func21, Try.ntmps21
              go_wp2_with fail
              refine HN.out.mono ?_
              rintro e w2 ⟨rfl, rfl⟩
              go_wp2_with fail
              go_ret
              rw [HR.out, ← isEmpty_dec]; exact ⟨rfl, HB.out⟩
            · have HR := Lib.hid (show asksB (n, way, v) = false by rw [HD.out]; simp [c1, c2, c3, c4])
              clear HD
              go_enter Try.func21, Try.ntmps21
              go_wp2_with fail
              refine HN.out.mono ?_
              rintro e w2 ⟨rfl, rfl⟩
              go_wp2_with fail
              go_ret
              rw [HR.out]
              have e : (way == 1 || way == 2 || way == 3) = false := by simp [c1, c2, c3]
              exact ⟨congrArg (fun b => Ending.returned (Value.bool b)) e, HB.out⟩

set_option maxRecDepth 100000 in
set_option maxHeartbeats 1000000 in
theorem hasprefix1_any (x v : ByteArray) (hx : x.size ≤ 140737488355328) (hv : v.size ≤ 140737488355328) (w : World) :
    Calls Try.prog 75 #[.string x, .string v] w fun e w' => e = .returned (.bool (prefB v x)) ∧ w' = w := by
  by_cases h : v.size ≤ x.size
  · have HR := Lib.hid (show prefB v x = ((x.extract 0 v.size).toList == v.toList) by unfold prefB; rw [decide_eq_true h, Bool.true_and])
    have hi : (v.size : Int) ≤ (x.size : Int) := by omega
    go_enter Try.func75, Try.ntmps75
    go_wp2_with fail
    go_ret
    rw [HR.out]; exact ⟨rfl, rfl⟩
  · have HR := Lib.hid (show prefB v x = false by unfold prefB; rw [decide_eq_false h]; rfl)
    have hi : (x.size : Int) < (v.size : Int) := by omega
    go_enter Try.func75, Try.ntmps75
    go_wp2_with fail
    go_ret
    rw [HR.out]; exact ⟨rfl, rfl⟩
theorem hasprefix_any (x v : ByteArray) (hx : x.size ≤ 140737488355328) (hv : v.size ≤ 140737488355328) (w : World) :
    Calls Try.prog 69 #[.string x, .string v] w fun e w' => e = .returned (.bool (prefB v x)) ∧ w' = w := by
  have HP := Lib.hid (hasprefix1_any x v hx hv w)
  go_enter Try.func69, Try.ntmps69
  go_wp2_with fail
  refine HP.out.mono ?_
  rintro e w2 ⟨rfl, rfl⟩
  go_wp2_with fail
  go_ret
  exact ⟨rfl, rfl⟩

set_option maxRecDepth 100000 in
set_option maxHeartbeats 1000000 in
theorem get_any {w : World} {a : Option Addr} {n c : Nat} {l : List Lab} (h : LabsAt w a n c l) (hs : upTo l n = true) (nm : ByteArray) (hnm : nm.size ≤ 140737488355328) :
    Calls Try.prog 68 #[.slice a n c, .string nm] w fun e w' => e = .returned (.tuple #[.string (lst l nm n).1, .bool (lst l nm n).2]) ∧ Below w.heap.size w w' := by
  have hlen := h.len
  have hcap := h.cap
  have hcm := h.capm
  have HH := Lib.hid h
  have HL := Lib.hid hlen
  have HS := Lib.hid hs
  clear h hlen hs
  go_enter Try.func68, Try.ntmps68
  go_wp2_with fail
  go_loopw [10] (fun s10 wr => ∃ k : Nat, k ≤ n ∧ s10 = .int .i64 (k : Int) ∧ Hid (lst l nm k = (ByteArray.empty, false)) ∧ Hid (Below w.heap.size w wr)) (fun s10 _ => n - (intOf s10).toNat)
  case atStart => exact ⟨0, by omega, rfl, Lib.hid rfl, Lib.hid (Below.refl _ _)⟩
  case round =>
    obtain ⟨k, hk, rfl, HU, HB⟩ := hrel
    rename World => wr
    by_cases hkn : k < n
    · obtain ⟨b, off, rfl, hlt, hcell⟩ := (HH.out.kept HB.out).cells (by omega)
      obtain ⟨h1, h2⟩ := hcell k hkn
      obtain ⟨x1, hx1⟩ : ∃ x, x = (l.getD k lab0).1 := ⟨_, rfl⟩
      obtain ⟨x2, hx2⟩ : ∃ x, x = (l.getD k lab0).2 := ⟨_, rfl⟩
      rw [← hx1] at h1
      rw [← hx2] at h2
      have HX := Lib.hid (And.intro hx1 hx2)
      have hb2 : Below w.heap.size w (wr.alloc (.cells #[.string x1, .string x2] 53)) := HB.out.alloc HB.out.size _
      have HB2 := Lib.hid hb2
      clear hx1 hx2 hcell hb2
      by_cases he : x1 = nm
      · have HR := Lib.hid (show lst l nm n = (x2, true) by
          have := lst_stay HS.out (k := k) (nm := nm) (by rw [← HX.out.1]; exact he) (n - (k + 1)) (by omega)
          rw [show k + 1 + (n - (k + 1)) = n from by omega, ← HX.out.2] at this
          exact this)
        have hq : (x1.toList == nm.toList) = true := by rw [eq_toList]; exact decide_eq_true he
        clear he
        go_wp2_with fail
        go_ret2
        rw [HR.out]; exact ⟨rfl, HB2.out⟩
      · have HU2 := Lib.hid (show lst l nm (k + 1) = (ByteArray.empty, false) by rw [lst, ← HX.out.1, if_neg he, HU.out])
        have hq : (x1.toList == nm.toList) = false := by rw [eq_toList]; exact decide_eq_false he
        clear he
        go_wp2_with fail
        go_roundw
        case rel => exact ⟨k + 1, by omega, by go_num, HU2, HB2⟩
        case measure => simp [intOf]; omega
    · obtain rfl : k = n := by omega
      clear hkn
      go_wp2_with fail
      go_ret2
      rw [HU.out]; exact ⟨rfl, HB.out⟩
end Go.Proofs.Ytmnfdkclkjeggaa
