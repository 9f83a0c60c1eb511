/- Put together out of XLabMeet, XLabMeet2, XLabMeet3. -/
import Derived.Test.YtjbljplgkbnpmaaLabRef
import Derived.Test.YtjbljplgkbnpmaaLabFew
import Derived.BigQuiet
section SecLabMt0
/- Labels: matchers, plainly; Asks, Get, HasPrefix walked. -/
namespace Go.Proofs.Ytjbljplgkbnpmaa
open Go.RowKit LabPlain
set_option linter.unusedVariables false

theorem isEmpty_dec (v : ByteArray) : v.toList.isEmpty = decide (v = ByteArray.empty) := by
  rw [← eq_toList]
  rw [show ByteArray.empty.toList = [] from by rw [ByteArray.toList_eq]; rfl]
  cases h : v.toList <;> rfl
abbrev Mat := ByteArray × Int × ByteArray
def mat0 : Mat := (ByteArray.empty, 0, ByteArray.empty)
/-- does a text begin so? -/
def prefB (v x : ByteArray) : Bool := decide (v.size ≤ x.size) && ((x.extract 0 v.size).toList == v.toList)
/-- a matcher -/
def asksB (m : Mat) : Bool := isNm m.1 && decide (m.2.2.size ≤ 16) && (decide (m.2.1 = 1) || decide (m.2.1 = 2) || decide (m.2.1 = 3) || (decide (m.2.1 = 4) && decide (m.2.2 = ByteArray.empty)))
/-- the last value of a name among the first k, and is there one? -/
def lst (l : List Lab) (nm : ByteArray) : Nat → ByteArray × Bool
  | 0 => (ByteArray.empty, false)
  | k + 1 => if (l.getD k lab0).1 = nm then ((l.getD k lab0).2, true) else lst l nm k
def meet1 (g : ByteArray × Bool) (way : Int) (v : ByteArray) : Bool :=
  if way = 1 then g.2 && decide (g.1 = v) else if way = 2 then !g.2 || !decide (g.1 = v) else if way = 3 then g.2 && prefB v g.1 else g.2
/-- do the first k matchers hold? -/
def meetTo (l : List Lab) (ms : List Mat) : Nat → Bool
  | 0 => true
  | k + 1 => meetTo l ms k && (asksB (ms.getD k mat0) && meet1 (lst l (ms.getD k mat0).1 l.length) (ms.getD k mat0).2.1 (ms.getD k mat0).2.2)
def meetsB (l : List Lab) (ms : List Mat) : Bool := isSet l && meetTo l ms ms.length
theorem meetTo_no {l : List Lab} {ms : List Mat} {k : Nat} (h : (asksB (ms.getD k mat0) && meet1 (lst l (ms.getD k mat0).1 l.length) (ms.getD k mat0).2.1 (ms.getD k mat0).2.2) = false) : ∀ d, meetTo l ms (k + 1 + d) = false
  | 0 => by rw [meetTo, h, Bool.and_false]
  | d + 1 => by rw [← Nat.add_assoc, meetTo, meetTo_no h d]; rfl
theorem lst_stay {l : List Lab} {nm : ByteArray} {n : Nat} (h : upTo l n = true) {k : Nat} (hm : (l.getD k lab0).1 = nm) : ∀ d, k + 1 + d ≤ n → lst l nm (k + 1 + d) = ((l.getD k lab0).2, true)
  | 0, _ => by rw [lst, if_pos hm]
  | d + 1, hd => by
    have hlt := upTo_lt h d k (by omega)
    rw [← Nat.add_assoc, lst, if_neg (fun e => by rw [hm, e, ltB_irrefl] at hlt; cases hlt)]
    exact lst_stay h hm d (by omega)

set_option maxRecDepth 100000 in
set_option maxHeartbeats 1000000 in
theorem asks_any (n v : ByteArray) (way : Int) (hns : n.size ≤ 140737488355328) (hvs : v.size ≤ 140737488355328) (w : World) :
    Calls Try.prog 28 #[.agg #[.string n, .int .i64 way, .string v]] w fun e w' => e = .returned (.bool (asksB (n, way, v))) ∧ Below w.heap.size w w' := by
  have hb : Below w.heap.size w (w.alloc (.cells #[.string n, .int .i64 way, .string v] 46)) := (Below.refl _ _).alloc (Nat.le_refl _) _
  have HB := Lib.hid hb
  have hnm := isname_any n (by omega) (w.alloc (.cells #[.string n, .int .i64 way, .string v] 46))
  clear hb
  cases hn : isNm n with
  | false =>
    rw [hn] at hnm
    have HN := Lib.hid hnm
    have HR := Lib.hid (show asksB (n, way, v) = false by simp [asksB, hn])
    clear hnm hn
    go_enter Try.func28, Try.ntmps28
    go_wp2_with fail
    refine HN.out.mono ?_
    rintro e w2 ⟨rfl, rfl⟩
    go_wp2_with fail
    go_ret
    rw [HR.out]; exact ⟨rfl, HB.out⟩
  | true =>
    rw [hn] at hnm
    have HN := Lib.hid hnm
    clear hnm
    by_cases h16 : 16 < v.size
    · have HR := Lib.hid (show asksB (n, way, v) = false by simp [asksB, hn]; omega)
      have h16i : (16 : Int) < (v.size : Int) := by omega
      clear h16 hn
      go_enter Try.func28, Try.ntmps28
      go_wp2_with fail
      refine HN.out.mono ?_
      rintro e w2 ⟨rfl, rfl⟩
      go_wp2_with fail
      go_ret
      rw [HR.out]; exact ⟨rfl, HB.out⟩
    · have h16i : (v.size : Int) ≤ 16 := by omega
      have HD := Lib.hid (show asksB (n, way, v) = (decide (way = 1) || decide (way = 2) || decide (way = 3) || (decide (way = 4) && decide (v = ByteArray.empty))) by
        simp only [asksB, hn, decide_eq_true (show v.size ≤ 16 by omega), Bool.true_and])
      clear h16 hn
      by_cases c1 : way = 1
      · subst c1
        have HR := Lib.hid (show asksB (n, 1, v) = true by rw [HD.out]; simp)
        clear HD
        go_enter Try.func28, Try.ntmps28
        go_wp2_with fail
        refine HN.out.mono ?_
        rintro e w2 ⟨rfl, rfl⟩
        go_wp2_with fail
        go_ret
        rw [HR.out]; exact ⟨rfl, HB.out⟩
      · by_cases c2 : way = 2
        · subst c2
          have HR := Lib.hid (show asksB (n, 2, v) = true by rw [HD.out]; simp)
          clear HD
          go_enter Try.func28, Try.ntmps28
          go_wp2_with fail
          refine HN.out.mono ?_
          rintro e w2 ⟨rfl, rfl⟩
          go_wp2_with fail
          go_ret
          rw [HR.out]; exact ⟨rfl, HB.out⟩
        · by_cases c3 : way = 3
          · subst c3
            have HR := Lib.hid (show asksB (n, 3, v) = true by rw [HD.out]; simp)
            clear HD
            go_enter Try.func28, Try.ntmps28
            go_wp2_with fail
            refine HN.out.mono ?_
            rintro e w2 ⟨rfl, rfl⟩
            go_wp2_with fail
            go_ret
            rw [HR.out]; exact ⟨rfl, HB.out⟩
          · by_cases c4 : way = 4
            · subst c4
              have HR := Lib.hid (show asksB (n, 4, v) = decide (v = ByteArray.empty) by rw [HD.out]; simp)
              clear HD
              go_enter Try.func28, Try.ntmps28
              go_wp2_with fail
              refine HN.out.mono ?_
              rintro e w2 ⟨rfl, rfl⟩
              go_wp2_with fail
              go_ret
              rw [HR.out, ← isEmpty_dec]; exact ⟨rfl, HB.out⟩
            · have HR := Lib.hid (show asksB (n, way, v) = false by rw [HD.out]; simp [c1, c2, c3, c4])
              clear HD
              go_enter Try.func28, Try.ntmps28
              go_wp2_with fail
              refine HN.out.mono ?_
              rintro e w2 ⟨rfl, rfl⟩
              go_wp2_with fail
              go_ret
              rw [HR.out]; exact ⟨rfl, HB.out⟩

set_option maxRecDepth 100000 in
set_option maxHeartbeats 1000000 in
theorem rasks_any (n v : ByteArray) (way : Int) (hns : n.size ≤ 140737488355328) (hvs : v.size ≤ 140737488355328) (w : World) :
    Calls Try.prog 29 #[.agg #[.string n, .int .i64 way, .string v]] w fun e w' => e = .returned (.bool (asksB (n, way, v))) ∧ Below w.heap.size w w' := by
  have hb : Below w.heap.size w (w.alloc (.cells #[.string n, .int .i64 way, .string v] 46)) := (Below.refl _ _).alloc (Nat.le_refl _) _
  have HB := Lib.hid hb
  have hnm := name_any n (by omega) (w.alloc (.cells #[.string n, .int .i64 way, .string v] 46))
  clear hb
  cases hn : isNm n with
  | false =>
    rw [hn] at hnm
    have HN := Lib.hid hnm
    have HR := Lib.hid (show asksB (n, way, v) = false by simp [asksB, hn])
    clear hnm hn
    go_enter Try.func29, Try.ntmps29
    go_wp2_with fail
    refine HN.out.mono ?_
    rintro e w2 ⟨rfl, rfl⟩
    go_wp2_with fail
    go_ret
    rw [HR.out]; exact ⟨rfl, HB.out⟩
  | true =>
    rw [hn] at hnm
    have HN := Lib.hid hnm
    clear hnm
    by_cases h16 : 16 < v.size
    · have HR := Lib.hid (show asksB (n, way, v) = false by simp [asksB, hn]; omega)
      have h16i : (16 : Int) < (v.size : Int) := by omega
      clear h16 hn
      go_enter Try.func29, Try.ntmps29
      go_wp2_with fail
      refine HN.out.mono ?_
      rintro e w2 ⟨rfl, rfl⟩
      go_wp2_with fail
      go_ret
      rw [HR.out]; exact ⟨rfl, HB.out⟩
    · have h16i : (v.size : Int) ≤ 16 := by omega
      have HD := Lib.hid (show asksB (n, way, v) = (decide (way = 1) || decide (way = 2) || decide (way = 3) || (decide (way = 4) && decide (v = ByteArray.empty))) by
        simp only [asksB, hn, decide_eq_true (show v.size ≤ 16 by omega), Bool.true_and])
      clear h16 hn
      by_cases c1 : way = 1
      · subst c1
        have HR := Lib.hid (show asksB (n, 1, v) = true by rw [HD.out]; simp)
        clear HD
        go_enter Try.func29, Try.ntmps29
        go_wp2_with fail
        refine HN.out.mono ?_
        rintro e w2 ⟨rfl, rfl⟩
        go_wp2_with fail
        go_ret
        rw [HR.out]; exact ⟨rfl, HB.out⟩
      · by_cases c2 : way = 2
        · subst c2
          have HR := Lib.hid (show asksB (n, 2, v) = true by rw [HD.out]; simp)
          clear HD
          go_enter Try.func29, Try.ntmps29
          go_wp2_with fail
          refine HN.out.mono ?_
          rintro e w2 ⟨rfl, rfl⟩
          go_wp2_with fail
          go_ret
          rw [HR.out]; exact ⟨rfl, HB.out⟩
        · by_cases c3 : way = 3
          · subst c3
            have HR := Lib.hid (show asksB (n, 3, v) = true by rw [HD.out]; simp)
            clear HD
            go_enter Try.func29, Try.ntmps29
            go_wp2_with fail
            refine HN.out.mono ?_
            rintro e w2 ⟨rfl, rfl⟩
            go_wp2_with fail
            go_ret
            rw [HR.out]; exact ⟨rfl, HB.out⟩
          · by_cases c4 : way = 4
            · subst c4
              have HR := Lib.hid (show asksB (n, 4, v) = decide (v = ByteArray.empty) by rw [HD.out]; simp)
              clear HD
              go_enter Try.func29, Try.ntmps29
              go_wp2_with fail
              refine HN.out.mono ?_
              rintro e w2 ⟨rfl, rfl⟩
              go_wp2_with fail
              go_ret
              rw [HR.out, ← isEmpty_dec]; exact ⟨rfl, HB.out⟩
            · have HR := Lib.hid (show asksB (n, way, v) = false by rw [HD.out]; simp [c1, c2, c3, c4])
              clear HD
              go_enter Try.func29, Try.ntmps29
              go_wp2_with fail
              refine HN.out.mono ?_
              rintro e w2 ⟨rfl, rfl⟩
              go_wp2_with fail
              go_ret
              rw [HR.out]
              have e : (way == 1 || way == 2 || way == 3) = false := by simp [c1, c2, c3]
              exact ⟨congrArg (fun b => Ending.returned (Value.bool b)) e, HB.out⟩

set_option maxRecDepth 100000 in
set_option maxHeartbeats 1000000 in
theorem hasprefix1_any (x v : ByteArray) (hx : x.size ≤ 140737488355328) (hv : v.size ≤ 140737488355328) (w : World) :
    Calls Try.prog 109 #[.string x, .string v] w fun e w' => e = .returned (.bool (prefB v x)) ∧ w' = w := by
  by_cases h : v.size ≤ x.size
  · have HR := Lib.hid (show prefB v x = ((x.extract 0 v.size).toList == v.toList) by unfold prefB; rw [decide_eq_true h, Bool.true_and])
    have hi : (v.size : Int) ≤ (x.size : Int) := by omega
    go_enter Try.func109, Try.ntmps109
    go_wp2_with fail
    go_ret
    rw [HR.out]; exact ⟨rfl, rfl⟩
  · have HR := Lib.hid (show prefB v x = false by unfold prefB; rw [decide_eq_false h]; rfl)
    have hi : (x.size : Int) < (v.size : Int) := by omega
    go_enter Try.func109, Try.ntmps109
    go_wp2_with fail
    go_ret
    rw [HR.out]; exact ⟨rfl, rfl⟩
theorem hasprefix_any (x v : ByteArray) (hx : x.size ≤ 140737488355328) (hv : v.size ≤ 140737488355328) (w : World) :
    Calls Try.prog 97 #[.string x, .string v] w fun e w' => e = .returned (.bool (prefB v x)) ∧ w' = w := by
  have HP := Lib.hid (hasprefix1_any x v hx hv w)
  go_enter Try.func97, Try.ntmps97
  go_wp2_with fail
  refine HP.out.mono ?_
  rintro e w2 ⟨rfl, rfl⟩
  go_wp2_with fail
  go_ret
  exact ⟨rfl, rfl⟩

set_option maxRecDepth 100000 in
set_option maxHeartbeats 1000000 in
theorem get_any {w : World} {a : Option Addr} {n c : Nat} {l : List Lab} (h : LabsAt w a n c l) (hs : upTo l n = true) (nm : ByteArray) (hnm : nm.size ≤ 140737488355328) :
    Calls Try.prog 26 #[.slice a n c, .string nm] w fun e w' => e = .returned (.tuple #[.string (lst l nm n).1, .bool (lst l nm n).2]) ∧ Below w.heap.size w w' := by
  have hlen := h.len
  have hcap := h.cap
  have hcm := h.capm
  have HH := Lib.hid h
  have HL := Lib.hid hlen
  have HS := Lib.hid hs
  clear h hlen hs
  go_enter Try.func26, Try.ntmps26
  go_wp2_with fail
  go_loopw [10] (fun s10 wr => ∃ k : Nat, k ≤ n ∧ s10 = .int .i64 (k : Int) ∧ Hid (lst l nm k = (ByteArray.empty, false)) ∧ Hid (Below w.heap.size w wr)) (fun s10 _ => n - (intOf s10).toNat)
  case atStart => exact ⟨0, by omega, rfl, Lib.hid rfl, Lib.hid (Below.refl _ _)⟩
  case round =>
    obtain ⟨k, hk, rfl, HU, HB⟩ := hrel
    rename World => wr
    by_cases hkn : k < n
    · obtain ⟨b, off, rfl, hlt, hcell⟩ := (HH.out.kept HB.out).cells (by omega)
      obtain ⟨h1, h2⟩ := hcell k hkn
      obtain ⟨x1, hx1⟩ : ∃ x, x = (l.getD k lab0).1 := ⟨_, rfl⟩
      obtain ⟨x2, hx2⟩ : ∃ x, x = (l.getD k lab0).2 := ⟨_, rfl⟩
      rw [← hx1] at h1
      rw [← hx2] at h2
      have HX := Lib.hid (And.intro hx1 hx2)
      have hb2 : Below w.heap.size w (wr.alloc (.cells #[.string x1, .string x2] 41)) := HB.out.alloc HB.out.size _
      have HB2 := Lib.hid hb2
      clear hx1 hx2 hcell hb2
      by_cases he : x1 = nm
      · have HR := Lib.hid (show lst l nm n = (x2, true) by
          have := lst_stay HS.out (k := k) (nm := nm) (by rw [← HX.out.1]; exact he) (n - (k + 1)) (by omega)
          rw [show k + 1 + (n - (k + 1)) = n from by omega, ← HX.out.2] at this
          exact this)
        have hq : (x1.toList == nm.toList) = true := by rw [eq_toList]; exact decide_eq_true he
        clear he
        go_wp2_with fail
        go_ret2
        rw [HR.out]; exact ⟨rfl, HB2.out⟩
      · have HU2 := Lib.hid (show lst l nm (k + 1) = (ByteArray.empty, false) by rw [lst, ← HX.out.1, if_neg he, HU.out])
        have hq : (x1.toList == nm.toList) = false := by rw [eq_toList]; exact decide_eq_false he
        clear he
        go_wp2_with fail
        go_roundw
        case rel => exact ⟨k + 1, by omega, by go_num, HU2, HB2⟩
        case measure => simp [intOf]; omega
    · obtain rfl : k = n := by omega
      clear hkn
      go_wp2_with fail
      go_ret2
      rw [HU.out]; exact ⟨rfl, HB.out⟩
end Go.Proofs.Ytjbljplgkbnpmaa
end SecLabMt0
section SecLabMt1
/- Labels: Meets and the reference's Meets, walked. -/
namespace Go.Proofs.Ytjbljplgkbnpmaa
open Go.RowKit LabPlain
set_option linter.unusedVariables false

structure MatsAt (w : World) (a : Option Addr) (n c : Nat) (ms : List Mat) : Prop where
  len : ms.length = n
  cap : n ≤ c
  capm : c ≤ 9223372036854775807
  nl : a = none → c = 0
  size : ∀ x ∈ ms, x.1.size ≤ 140737488355328 ∧ x.2.2.size ≤ 140737488355328
  cells : 0 < n → ∃ b off, a = some ⟨b, off, none⟩ ∧ b < w.heap.size ∧ ∀ i, i < n → w.cell? ⟨b, off + i * 3, none⟩ = some (.string (ms.getD i mat0).1) ∧ w.cell? ⟨b, off + i * 3 + 1, none⟩ = some (.int .i64 (ms.getD i mat0).2.1) ∧ w.cell? ⟨b, off + i * 3 + 2, none⟩ = some (.string (ms.getD i mat0).2.2)
theorem MatsAt.keep {w w' : World} {a : Option Addr} {n c : Nat} {ms : List Mat} (h : MatsAt w a n c ms) {B : Nat} (hb : Below B w w') (hB : w.heap.size ≤ B) : MatsAt w' a n c ms :=
  ⟨h.len, h.cap, h.capm, h.nl, h.size, fun hn => by
    obtain ⟨b, off, ha, hlt, hc⟩ := h.cells hn
    exact ⟨b, off, ha, Nat.lt_of_lt_of_le hlt hb.size, fun i hi => ⟨(hb.cell (p := ⟨b, off + i * 3, none⟩) (Nat.lt_of_lt_of_le hlt hB)).trans (hc i hi).1, (hb.cell (p := ⟨b, off + i * 3 + 1, none⟩) (Nat.lt_of_lt_of_le hlt hB)).trans (hc i hi).2.1, (hb.cell (p := ⟨b, off + i * 3 + 2, none⟩) (Nat.lt_of_lt_of_le hlt hB)).trans (hc i hi).2.2⟩⟩⟩
theorem MatsAt.kept {w w' : World} {a : Option Addr} {n c : Nat} {ms : List Mat} (h : MatsAt w a n c ms) (hb : Below w.heap.size w w') : MatsAt w' a n c ms := h.keep hb (Nat.le_refl _)
theorem MatsAt.empty (w : World) (a : Option Addr) (c : Nat) (hc : c ≤ 9223372036854775807) (ha : a = none → c = 0) : MatsAt w a 0 c [] :=
  ⟨rfl, Nat.zero_le _, hc, ha, (fun x hx => by cases hx), fun h => absurd h (Nat.lt_irrefl 0)⟩
theorem mat_mem {l : List Mat} {i : Nat} (h : i < l.length) : l.getD i mat0 ∈ l := by
  have : l.getD i mat0 = l[i] := by simp [h]
  rw [this]; exact List.getElem_mem h
/-- the three cells of a matcher laid anew -/
theorem mat_cells (w : World) (t : TypeId) (x y z : Value) : (w.alloc (.cells #[x, y, z] t)).cell? ⟨w.heap.size, 0, none⟩ = some x ∧ (w.alloc (.cells #[x, y, z] t)).cell? ⟨w.heap.size, 1, none⟩ = some y ∧ (w.alloc (.cells #[x, y, z] t)).cell? ⟨w.heap.size, 2, none⟩ = some z := by
  have hblk := heap_alloc_new w (.cells #[x, y, z] t)
  exact ⟨by rw [cell_of_row _ _ _ _ _ (0, 0) hblk]; rfl, by rw [cell_of_row _ _ _ _ _ (0, 0) hblk]; rfl, by rw [cell_of_row _ _ _ _ _ (0, 0) hblk]; rfl⟩

set_option maxRecDepth 100000 in
set_option maxHeartbeats 2000000 in
theorem meets1_any {w : World} {a : Option Addr} {n c : Nat} {l : List Lab} (h : LabsAt w a n c l) (hs : upTo l n = true) (nm v : ByteArray) (way : Int) (hnm : nm.size ≤ 140737488355328) (hv : v.size ≤ 140737488355328) :
    Calls Try.prog 72 #[.slice a n c, .agg #[.string nm, .int .i64 way, .string v]] w fun e w' => e = .returned (.bool (meet1 (lst l nm n) way v)) ∧ Below w.heap.size w w' := by
  obtain ⟨w1, hw1⟩ : ∃ w1, w1 = w.alloc (.cells #[.string nm, .int .i64 way, .string v] 46) := ⟨_, rfl⟩
  have hb1 : Below w.heap.size w w1 := by rw [hw1]; exact (Below.refl _ _).alloc (Nat.le_refl _) _
  have hcs : w1.cell? ⟨w.heap.size, 0, none⟩ = some (.string nm) ∧ w1.cell? ⟨w.heap.size, 1, none⟩ = some (.int .i64 way) ∧ w1.cell? ⟨w.heap.size, 2, none⟩ = some (.string v) := by rw [hw1]; exact mat_cells w _ _ _ _
  have hlt1 : w.heap.size < w1.heap.size := by rw [hw1]; exact (Array.getElem?_eq_some_iff.1 (heap_alloc_new w _)).1
  have hg := get_any (h.keep hb1 (Nat.le_refl _)) hs nm hnm
  have hxs : (lst l nm n).1.size ≤ 140737488355328 := by
    have hlen := h.len
    have : ∀ k, k ≤ n → (lst l nm k).1.size ≤ 140737488355328 := by
      intro k
      induction k with
      | zero => intro _; show ByteArray.empty.size ≤ _; simp
      | succ k ih =>
        intro hk
        rw [lst]
        by_cases e : (l.getD k lab0).1 = nm
        · rw [if_pos e]; exact (h.size _ (lab_mem (by omega))).2
        · rw [if_neg e]; exact ih (by omega)
    exact this n (Nat.le_refl _)
  obtain ⟨g, hge⟩ : ∃ g, g = lst l nm n := ⟨_, rfl⟩
  rw [← hge] at hg hxs ⊢
  rw [hw1] at hg
  obtain ⟨x, has⟩ := g
  have hg : Calls Try.prog 26 #[.slice a n c, .string nm] (w.alloc (.cells #[.string nm, .int .i64 way, .string v] 46)) fun e w' => e = .returned (.tuple #[.string x, .bool has]) ∧ Below w1.heap.size w1 w' := by rw [← hw1] at hg ⊢; exact hg
  have hxs : x.size ≤ 140737488355328 := hxs
  have HG := Lib.hid hg
  have HB1 := Lib.hid hb1
  have HCS := Lib.hid hcs
  have HLT := Lib.hid hlt1
  clear hw1 hb1 hcs hlt1 hg hge hs
  have hcell2 : ∀ w2, Below w1.heap.size w1 w2 → w2.cell? ⟨w.heap.size, 0, none⟩ = some (.string nm) ∧ w2.cell? ⟨w.heap.size, 1, none⟩ = some (.int .i64 way) ∧ w2.cell? ⟨w.heap.size, 2, none⟩ = some (.string v) := fun w2 h2 =>
    ⟨(h2.cell (p := ⟨w.heap.size, 0, none⟩) HLT.out).trans HCS.out.1, (h2.cell (p := ⟨w.heap.size, 1, none⟩) HLT.out).trans HCS.out.2.1, (h2.cell (p := ⟨w.heap.size, 2, none⟩) HLT.out).trans HCS.out.2.2⟩
  have HC2 := Lib.hid hcell2
  clear hcell2
  by_cases c1 : way = 1
  · subst c1
    cases has with
    | false =>
      have HR := Lib.hid (show meet1 (x, false) 1 v = false from rfl)
      go_enter Try.func72, Try.ntmps72
      go_wp2_with fail
      refine HG.out.mono ?_
      rintro e w2 ⟨rfl, hb2⟩
      obtain ⟨e0, e1, e2⟩ := HC2.out w2 hb2
      have HB2 := Lib.hid (HB1.out.trans (hb2.mono HB1.out.size))
      clear hb2
      go_wp2_with fail
      go_ret
      rw [HR.out]; exact ⟨rfl, HB2.out⟩
    | true =>
      have HR := Lib.hid (show meet1 (x, true) 1 v = (x.toList == v.toList) by rw [eq_toList]; rfl)
      go_enter Try.func72, Try.ntmps72
      go_wp2_with fail
      refine HG.out.mono ?_
      rintro e w2 ⟨rfl, hb2⟩
      obtain ⟨e0, e1, e2⟩ := HC2.out w2 hb2
      have HB2 := Lib.hid (HB1.out.trans (hb2.mono HB1.out.size))
      clear hb2
      go_wp2_with fail
      go_ret
      rw [HR.out]; exact ⟨rfl, HB2.out⟩
  · by_cases c2 : way = 2
    · subst c2
      cases has with
      | false =>
        have HR := Lib.hid (show meet1 (x, false) 2 v = true from rfl)
        go_enter Try.func72, Try.ntmps72
        go_wp2_with fail
        refine HG.out.mono ?_
        rintro e w2 ⟨rfl, hb2⟩
        obtain ⟨e0, e1, e2⟩ := HC2.out w2 hb2
        have HB2 := Lib.hid (HB1.out.trans (hb2.mono HB1.out.size))
        clear hb2
        go_wp2_with fail
        go_ret
        rw [HR.out]; exact ⟨rfl, HB2.out⟩
      | true =>
        have HR := Lib.hid (show meet1 (x, true) 2 v = (!(x.toList == v.toList)) by rw [eq_toList]; rfl)
        go_enter Try.func72, Try.ntmps72
        go_wp2_with fail
        refine HG.out.mono ?_
        rintro e w2 ⟨rfl, hb2⟩
        obtain ⟨e0, e1, e2⟩ := HC2.out w2 hb2
        have HB2 := Lib.hid (HB1.out.trans (hb2.mono HB1.out.size))
        clear hb2
        go_wp2_with fail
        go_ret
        rw [HR.out]; exact ⟨rfl, HB2.out⟩
    · by_cases c3 : way = 3
      · subst c3
        cases has with
        | false =>
          have HR := Lib.hid (show meet1 (x, false) 3 v = false from rfl)
          go_enter Try.func72, Try.ntmps72
          go_wp2_with fail
          refine HG.out.mono ?_
          rintro e w2 ⟨rfl, hb2⟩
          obtain ⟨e0, e1, e2⟩ := HC2.out w2 hb2
          have HB2 := Lib.hid (HB1.out.trans (hb2.mono HB1.out.size))
          clear hb2
          go_wp2_with fail
          go_ret
          rw [HR.out]; exact ⟨rfl, HB2.out⟩
        | true =>
          have HR := Lib.hid (show meet1 (x, true) 3 v = prefB v x from rfl)
          go_enter Try.func72, Try.ntmps72
          go_wp2_with fail
          refine HG.out.mono ?_
          rintro e w2 ⟨rfl, hb2⟩
          obtain ⟨e0, e1, e2⟩ := HC2.out w2 hb2
          have HB2 := Lib.hid (HB1.out.trans (hb2.mono HB1.out.size))
          have HP := Lib.hid (hasprefix_any x v hxs hv w2)
          clear hb2
          go_wp2_with fail
          refine HP.out.mono ?_
          rintro e w3 ⟨rfl, rfl⟩
          go_wp2_with fail
          go_ret
          rw [HR.out]; exact ⟨rfl, HB2.out⟩
      · have HR := Lib.hid (show meet1 (x, has) way v = has by unfold meet1; rw [if_neg c1, if_neg c2, if_neg c3])
        go_enter Try.func72, Try.ntmps72
        go_wp2_with fail
        refine HG.out.mono ?_
        rintro e w2 ⟨rfl, hb2⟩
        obtain ⟨e0, e1, e2⟩ := HC2.out w2 hb2
        have HB2 := Lib.hid (HB1.out.trans (hb2.mono HB1.out.size))
        clear hb2
        go_wp2_with fail
        go_ret
        rw [HR.out]; exact ⟨rfl, HB2.out⟩

set_option maxRecDepth 100000 in
set_option maxHeartbeats 2000000 in
theorem meets_any {w : World} {a a' : Option Addr} {n c n' c' : Nat} {l : List Lab} {ms : List Mat} (h : LabsAt w a n c l) (h' : MatsAt w a' n' c' ms) :
    Calls Try.prog 30 #[.slice a n c, .slice a' n' c'] w fun e w' => e = .returned (.bool (meetsB l ms)) ∧ Below w.heap.size w w' := by
  have hlen := h.len
  have hlen' := h'.len
  have hcap := h'.cap
  have hcm := h'.capm
  have HH := Lib.hid h
  have HM := Lib.hid h'
  have HL := Lib.hid hlen
  have HL' := Lib.hid hlen'
  have hr := right_any h
  clear h h' hlen hlen'
  cases hs : isSet l with
  | false =>
    rw [hs] at hr
    have HN := Lib.hid hr
    have HR := Lib.hid (show meetsB l ms = false by unfold meetsB; rw [hs]; rfl)
    clear hr hs
    go_enter Try.func30, Try.ntmps30
    go_wp2_with fail
    refine HN.out.mono ?_
    rintro e w2 ⟨rfl, hb2⟩
    have HB2 := Lib.hid hb2
    clear hb2
    go_wp2_with fail
    go_ret
    rw [HR.out]; exact ⟨rfl, HB2.out⟩
  | true =>
    rw [hs] at hr
    have HN := Lib.hid hr
    have HR := Lib.hid (show meetsB l ms = meetTo l ms n' by unfold meetsB; rw [hs, HL'.out]; rfl)
    have HS := Lib.hid (show upTo l n = true by
      unfold isSet at hs; rw [Bool.and_eq_true] at hs; rw [HL.out] at hs; exact hs.2)
    clear hr hs
    go_enter Try.func30, Try.ntmps30
    go_wp2_with fail
    refine HN.out.mono ?_
    rintro e w2 ⟨rfl, hb2⟩
    have HB2 := Lib.hid hb2
    clear hb2
    go_wp2_with fail
    go_loopw [12] (fun s12 wr => ∃ k : Nat, k ≤ n' ∧ s12 = .int .i64 (k : Int) ∧ Hid (meetTo l ms k = true) ∧ Hid (Below w.heap.size w wr)) (fun s12 _ => n' - (intOf s12).toNat)
    case atStart => exact ⟨0, by omega, rfl, Lib.hid rfl, HB2⟩
    case round =>
      obtain ⟨k, hk, rfl, HU, HB⟩ := hrel
      rename World => wr
      by_cases hkn : k < n'
      · obtain ⟨b, off, rfl, hlt, hcell⟩ := (HM.out.kept HB.out).cells (by omega)
        obtain ⟨h1, h2, h3⟩ := hcell k hkn
        have hsz := HM.out.size _ (mat_mem (l := ms) (i := k) (by have := HL'.out; omega))
        obtain ⟨x1, hx1⟩ : ∃ x, x = (ms.getD k mat0).1 := ⟨_, rfl⟩
        obtain ⟨x2, hx2⟩ : ∃ x, x = (ms.getD k mat0).2.1 := ⟨_, rfl⟩
        obtain ⟨x3, hx3⟩ : ∃ x, x = (ms.getD k mat0).2.2 := ⟨_, rfl⟩
        rw [← hx1] at h1 hsz
        rw [← hx2] at h2
        rw [← hx3] at h3 hsz
        obtain ⟨hs1, hs2⟩ := hsz
        have hm0 : ms.getD k mat0 = (x1, x2, x3) := by rw [hx1, hx2, hx3]
        have hb3 : Below w.heap.size w (wr.alloc (.cells #[.string x1, .int .i64 x2, .string x3] 46)) := HB.out.alloc HB.out.size _
        have hno := fun (h : (asksB (x1, x2, x3) && meet1 (lst l x1 n) x2 x3) = false) => (show meetsB l ms = false by
          rw [HR.out]
          have := meetTo_no (l := l) (ms := ms) (k := k) (by rw [hm0, HL.out]; exact h) (n' - (k + 1))
          rw [show k + 1 + (n' - (k + 1)) = n' from by omega] at this
          exact this)
        have hyes := fun (h : (asksB (x1, x2, x3) && meet1 (lst l x1 n) x2 x3) = true) => (show meetTo l ms (k + 1) = true by rw [meetTo, HU.out, hm0, HL.out]; exact h)
        obtain ⟨w3, hw3⟩ : ∃ w3, w3 = wr.alloc (.cells #[.string x1, .int .i64 x2, .string x3] 46) := ⟨_, rfl⟩
        have hlt3 : wr.heap.size < w3.heap.size := by rw [hw3]; exact (Array.getElem?_eq_some_iff.1 (heap_alloc_new wr _)).1
        have hcs := mat_cells wr 46 (.string x1) (.int .i64 x2) (.string x3)
        rw [← hw3] at hcs hb3
        have hask : Calls Try.prog 28 #[.agg #[.string x1, .int .i64 x2, .string x3]] (wr.alloc (.cells #[.string x1, .int .i64 x2, .string x3] 46)) fun e w' => e = .returned (.bool (asksB (x1, x2, x3))) ∧ Below w3.heap.size w3 w' := by
          rw [← hw3]; exact asks_any x1 x3 x2 hs1 hs2 w3
        have hc4 : ∀ w4, Below w3.heap.size w3 w4 → w4.cell? ⟨wr.heap.size, 0, none⟩ = some (.string x1) ∧ w4.cell? ⟨wr.heap.size, 1, none⟩ = some (.int .i64 x2) ∧ w4.cell? ⟨wr.heap.size, 2, none⟩ = some (.string x3) := fun w4 h4 =>
          ⟨(h4.cell (p := ⟨wr.heap.size, 0, none⟩) hlt3).trans hcs.1, (h4.cell (p := ⟨wr.heap.size, 1, none⟩) hlt3).trans hcs.2.1, (h4.cell (p := ⟨wr.heap.size, 2, none⟩) hlt3).trans hcs.2.2⟩
        have HC4 := Lib.hid hc4
        have HB3 := Lib.hid hb3
        have HNO := Lib.hid hno
        have HYES := Lib.hid hyes
        clear hw3 hcs hx1 hx2 hx3 hcell hm0 hb3 hno hyes hlt3 hc4
        cases ha : asksB (x1, x2, x3) with
        | false =>
          rw [ha] at hask
          have HA := Lib.hid hask
          have HF := Lib.hid (HNO.out (by rw [ha]; rfl))
          clear hask ha
          go_wp2_with fail
          refine HA.out.mono ?_
          rintro e w4 ⟨rfl, hb4⟩
          have HB4 := Lib.hid (HB3.out.trans (hb4.mono HB3.out.size))
          clear hb4
          go_wp2_with fail
          go_ret
          rw [HF.out]; exact ⟨rfl, HB4.out⟩
        | true =>
          rw [ha] at hask
          have HA := Lib.hid hask
          have HAB := Lib.hid ha
          clear hask ha
          cases hm : meet1 (lst l x1 n) x2 x3 with
          | false =>
            have HF := Lib.hid (HNO.out (by rw [hm, Bool.and_false]))
            go_wp2_with fail
            refine HA.out.mono ?_
            rintro e w4 ⟨rfl, hb4⟩
            obtain ⟨e0, e1, e2⟩ := HC4.out w4 hb4
            have hb5 := HB3.out.trans (hb4.mono HB3.out.size)
            have HME := Lib.hid (meets1_any (HH.out.keep hb5 (Nat.le_refl _)) HS.out x1 x3 x2 hs1 hs2)
            have HB4 := Lib.hid hb5
            clear hb4 hb5
            go_wp2_with fail
            refine HME.out.mono ?_
            rw [hm]
            rintro e w5 ⟨rfl, hb5⟩
            have HB5 := Lib.hid (HB4.out.trans (hb5.mono HB4.out.size))
            clear hb5
            go_wp2_with fail
            go_ret
            rw [HF.out]; exact ⟨rfl, HB5.out⟩
          | true =>
            have HU2 := Lib.hid (HYES.out (by rw [HAB.out, hm]; rfl))
            go_wp2_with fail
            refine HA.out.mono ?_
            rintro e w4 ⟨rfl, hb4⟩
            obtain ⟨e0, e1, e2⟩ := HC4.out w4 hb4
            have hb5 := HB3.out.trans (hb4.mono HB3.out.size)
            have HME := Lib.hid (meets1_any (HH.out.keep hb5 (Nat.le_refl _)) HS.out x1 x3 x2 hs1 hs2)
            have HB4 := Lib.hid hb5
            clear hb4 hb5
            go_wp2_with fail
            refine HME.out.mono ?_
            rw [hm]
            rintro e w5 ⟨rfl, hb5⟩
            have HB5 := Lib.hid (HB4.out.trans (hb5.mono HB4.out.size))
            clear hb5
            go_wp2_with fail
            go_roundw
            case rel => exact ⟨k + 1, by omega, by go_num, HU2, HB5⟩
            case measure => simp [intOf]; omega
      · obtain rfl : k = n' := by omega
        have HT := Lib.hid (show meetsB l ms = true by rw [HR.out]; exact HU.out)
        clear hkn
        go_wp2_with fail
        go_ret
        rw [HT.out]; exact ⟨rfl, HB.out⟩
end Go.Proofs.Ytjbljplgkbnpmaa
end SecLabMt1
section SecLabMt2
/- Labels: the reference's Meets, walked. Written by genlabmeet.py. -/
namespace Go.Proofs.Ytjbljplgkbnpmaa
open Go.RowKit LabPlain
set_option linter.unusedVariables false

theorem lst_size {w : World} {a : Option Addr} {n c : Nat} {l : List Lab} (h : LabsAt w a n c l) (nm : ByteArray) : ∀ k, k ≤ n → (lst l nm k).1.size ≤ 140737488355328
  | 0, _ => by show ByteArray.empty.size ≤ _; simp
  | k + 1, hk => by
    rw [lst]
    by_cases e : (l.getD k lab0).1 = nm
    · rw [if_pos e]; exact (h.size _ (lab_mem (by have := h.len; omega))).2
    · rw [if_neg e]; exact lst_size h nm k (by omega)
/-- what the inner loop knows: has, is, begins -/
def is2 (g : ByteArray × Bool) (v : ByteArray) : Bool := g.2 && decide (g.1 = v)
def st2 (g : ByteArray × Bool) (v : ByteArray) : Bool := g.2 && prefB v g.1
theorem meet1_of (g : ByteArray × Bool) (v : ByteArray) : meet1 g 1 v = is2 g v ∧ meet1 g 2 v = !is2 g v ∧ meet1 g 3 v = st2 g v ∧ meet1 g 4 v = g.2 :=
  ⟨rfl, by show (!g.2 || !decide (g.1 = v)) = !(g.2 && decide (g.1 = v)); rw [Bool.not_and], rfl, rfl⟩
theorem asks_way {m : Mat} (h : asksB m = true) : m.2.1 = 1 ∨ m.2.1 = 2 ∨ m.2.1 = 3 ∨ m.2.1 = 4 := by
  unfold asksB at h
  rw [Bool.and_eq_true] at h
  have := h.2
  simp only [Bool.or_eq_true, Bool.and_eq_true, decide_eq_true_eq] at this
  rcases this with ((g | g) | g) | g
  · exact .inl g
  · exact .inr (.inl g)
  · exact .inr (.inr (.inl g))
  · exact .inr (.inr (.inr g.1))

set_option maxRecDepth 100000 in
set_option maxHeartbeats 4000000 in
theorem rmeets_any {w : World} {a a' : Option Addr} {n c n' c' : Nat} {l : List Lab} {ms : List Mat} (h : LabsAt w a n c l) (h' : MatsAt w a' n' c' ms) :
    Calls Try.prog 31 #[.slice a n c, .slice a' n' c'] w fun e w' => e = .returned (.bool (meetsB l ms)) ∧ Below w.heap.size w w' := by
  have hlen := h.len
  have hlen' := h'.len
  have hcap := h'.cap
  have hcm := h'.capm
  have hcap0 := h.cap
  have hcm0 := h.capm
  have HH := Lib.hid h
  have HM := Lib.hid h'
  have HL := Lib.hid hlen
  have HL' := Lib.hid hlen'
  have hr := rright_any h
  clear h h' hlen hlen'
  cases hs : isSet l with
  | false =>
    rw [hs] at hr
    have HN := Lib.hid hr
    have HR := Lib.hid (show meetsB l ms = false by unfold meetsB; rw [hs]; rfl)
    clear hr hs
    go_enter Try.func31, Try.ntmps31
    go_wp2_with fail
    refine HN.out.mono ?_
    rintro e w2 ⟨rfl, hb2⟩
    have HB2 := Lib.hid hb2
    clear hb2
    go_wp2_with fail
    go_ret
    rw [HR.out]; exact ⟨rfl, HB2.out⟩
  | true =>
    rw [hs] at hr
    have HN := Lib.hid hr
    have HR := Lib.hid (show meetsB l ms = meetTo l ms n' by unfold meetsB; rw [hs, HL'.out]; rfl)
    clear hr hs
    go_enter Try.func31, Try.ntmps31
    go_wp2_with fail
    refine HN.out.mono ?_
    rintro e w2 ⟨rfl, hb2⟩
    have HB2 := Lib.hid hb2
    clear hb2
    go_wp2_with fail
    go_loopw [17] (fun s17 wr => ∃ k : Nat, k ≤ n' ∧ s17 = .int .i64 (k : Int) ∧ Hid (meetTo l ms k = true) ∧ Hid (Below w.heap.size w wr)) (fun s17 _ => n' - (intOf s17).toNat)
    case atStart => exact ⟨0, by omega, rfl, Lib.hid rfl, HB2⟩
    case round =>
      obtain ⟨k, hk, rfl, HU, HB⟩ := hrel
      rename World => wr
      by_cases hkn : k < n'
      · obtain ⟨b, off, rfl, hlt, hcell⟩ := (HM.out.kept HB.out).cells (by omega)
        obtain ⟨h1, h2, h3⟩ := hcell k hkn
        have hsz := HM.out.size _ (mat_mem (l := ms) (i := k) (by have := HL'.out; omega))
        obtain ⟨x1, hx1⟩ : ∃ x, x = (ms.getD k mat0).1 := ⟨_, rfl⟩
        obtain ⟨x2, hx2⟩ : ∃ x, x = (ms.getD k mat0).2.1 := ⟨_, rfl⟩
        obtain ⟨x3, hx3⟩ : ∃ x, x = (ms.getD k mat0).2.2 := ⟨_, rfl⟩
        rw [← hx1] at h1 hsz
        rw [← hx2] at h2
        rw [← hx3] at h3 hsz
        obtain ⟨hs1, hs2⟩ := hsz
        have hm0 : ms.getD k mat0 = (x1, x2, x3) := by rw [hx1, hx2, hx3]
        have hb3 : Below w.heap.size w (wr.alloc (.cells #[.string x1, .int .i64 x2, .string x3] 46)) := HB.out.alloc HB.out.size _
        have hno := fun (h : (asksB (x1, x2, x3) && meet1 (lst l x1 n) x2 x3) = false) => (show meetsB l ms = false by
          rw [HR.out]
          have := meetTo_no (l := l) (ms := ms) (k := k) (by rw [hm0, HL.out]; exact h) (n' - (k + 1))
          rw [show k + 1 + (n' - (k + 1)) = n' from by omega] at this
          exact this)
        have hyes := fun (h : (asksB (x1, x2, x3) && meet1 (lst l x1 n) x2 x3) = true) => (show meetTo l ms (k + 1) = true by rw [meetTo, HU.out, hm0, HL.out]; exact h)
        obtain ⟨w3, hw3⟩ : ∃ w3, w3 = wr.alloc (.cells #[.string x1, .int .i64 x2, .string x3] 46) := ⟨_, rfl⟩
        obtain ⟨pb, hpb⟩ : ∃ pb, pb = wr.heap.size := ⟨_, rfl⟩
        have hlt3 : pb < w3.heap.size := by rw [hw3, hpb]; exact (Array.getElem?_eq_some_iff.1 (heap_alloc_new wr _)).1
        have hcs := mat_cells wr 46 (.string x1) (.int .i64 x2) (.string x3)
        rw [← hw3, ← hpb] at hcs
        rw [← hw3] at hb3
        have hask : Calls Try.prog 29 #[.agg #[.string x1, .int .i64 x2, .string x3]] (wr.alloc (.cells #[.string x1, .int .i64 x2, .string x3] 46)) fun e w' => e = .returned (.bool (asksB (x1, x2, x3))) ∧ Below w3.heap.size w3 w' := by
          rw [← hw3]; exact rasks_any x1 x3 x2 hs1 hs2 w3
        have hc4 : ∀ w4, Below w3.heap.size w3 w4 → w4.cell? ⟨pb, 0, none⟩ = some (.string x1) ∧ w4.cell? ⟨pb, 1, none⟩ = some (.int .i64 x2) ∧ w4.cell? ⟨pb, 2, none⟩ = some (.string x3) := fun w4 h4 =>
          ⟨(h4.cell (p := ⟨pb, 0, none⟩) hlt3).trans hcs.1, (h4.cell (p := ⟨pb, 1, none⟩) hlt3).trans hcs.2.1, (h4.cell (p := ⟨pb, 2, none⟩) hlt3).trans hcs.2.2⟩
        have HC4 := Lib.hid hc4
        have HB3 := Lib.hid hb3
        have HNO := Lib.hid hno
        have HYES := Lib.hid hyes
        have HPB := Lib.hid hpb
        clear hpb hw3 hcs hx1 hx2 hx3 hcell hm0 hb3 hno hyes hlt3 hc4
        cases ha : asksB (x1, x2, x3) with
        | false =>
          rw [ha] at hask
          have HA := Lib.hid hask
          have HF := Lib.hid (HNO.out (by rw [ha]; rfl))
          clear hask ha
          go_wp2_with fail
          refine HA.out.mono ?_
          rintro e w4 ⟨rfl, hb4⟩
          have HB4 := Lib.hid (HB3.out.trans (hb4.mono HB3.out.size))
          clear hb4
          go_wp2_with fail
          go_ret
          rw [HF.out]; exact ⟨rfl, HB4.out⟩
        | true =>
          rw [ha] at hask
          have HA := Lib.hid hask
          have HAB := Lib.hid ha
          clear hask ha
          go_wp2_with fail
          refine HA.out.mono ?_
          rintro e w4 ⟨rfl, hb4⟩
          rw [← HPB.out]
          have HB4 := Lib.hid hb4
          clear hb4 h1 h2 h3 hlt
          go_wp2_with fail
          go_loopw [7, 8, 9, 26] (fun s7 s8 s9 s26 wq => ∃ j : Nat, j ≤ n ∧ s26 = .int .i64 (j : Int) ∧ (∃ b7 b8 b9 : Bool, s7 = .bool b7 ∧ s8 = .bool b8 ∧ s9 = .bool b9 ∧ Hid (b7 = (lst l x1 j).2 ∧ b8 = is2 (lst l x1 j) x3 ∧ b9 = st2 (lst l x1 j) x3)) ∧ Hid (Below w3.heap.size w3 wq)) (fun _ _ _ s26 _ => n - (intOf s26).toNat)
          case atStart => exact ⟨0, by omega, rfl, ⟨false, false, false, rfl, rfl, rfl, Lib.hid ⟨rfl, rfl, rfl⟩⟩, HB4⟩
          case round =>
            clear HB4
            obtain ⟨j, hj, rfl, ⟨b7, b8, b9, rfl, rfl, rfl, HG⟩, HB4⟩ := hrel
            rename World => wq
            by_cases hjn : j < n
            · obtain ⟨b', off', rfl, hlt', hcell'⟩ := (HH.out.keep (HB3.out.trans (HB4.out.mono HB3.out.size)) (Nat.le_refl _)).cells (by omega)
              obtain ⟨g1, g2⟩ := hcell' j hjn
              have hsl := HH.out.size _ (lab_mem (l := l) (i := j) (by have := HL.out; omega))
              obtain ⟨y1, hy1⟩ : ∃ x, x = (l.getD j lab0).1 := ⟨_, rfl⟩
              obtain ⟨y2, hy2⟩ : ∃ x, x = (l.getD j lab0).2 := ⟨_, rfl⟩
              rw [← hy1] at g1 hsl
              rw [← hy2] at g2 hsl
              obtain ⟨hsl1, hsl2⟩ := hsl
              obtain ⟨c0, c1, c2⟩ := HC4.out _ (HB4.out.alloc HB4.out.size (.cells #[.string y1, .string y2] 41))
              have HB5 := Lib.hid (HB4.out.alloc HB4.out.size (.cells #[.string y1, .string y2] 41))
              have HY := Lib.hid (And.intro hy1 hy2)
              clear hy1 hy2 hcell'
              by_cases he : y1 = x1
              · have hl := show lst l x1 (j + 1) = (y2, true) by rw [lst, ← HY.out.1, ← HY.out.2, if_pos he]
                have hq : (y1.toList == x1.toList) = true := by rw [eq_toList]; exact decide_eq_true he
                clear he
                by_cases hp : x3.size ≤ y2.size
                · have HG2 := Lib.hid (show true = (lst l x1 (j + 1)).2 ∧ (y2.toList == x3.toList) = is2 (lst l x1 (j + 1)) x3 ∧ ((y2.extract 0 x3.size).toList == x3.toList) = st2 (lst l x1 (j + 1)) x3 by
                    rw [hl]; exact ⟨rfl, by rw [eq_toList]; rfl, by show _ = (true && (decide (x3.size ≤ y2.size) && _)); rw [decide_eq_true hp, Bool.true_and, Bool.true_and]⟩)
                  have hpd : decide ((x3.size : Int) ≤ (y2.size : Int)) = true := decide_eq_true (by omega)
                  have hpi : (x3.size : Int) ≤ (y2.size : Int) := by omega
                  clear hl
                  go_wp2_with fail
                  go_quiet (fail)
                  rename Nat => nq
                  go_wp2_with fail
                  go_roundw
                  case rel => exact ⟨j + 1, by omega, by go_num, ⟨_, _, _, rfl, rfl, rfl, HG2⟩, Lib.hid (below_drewN HB5.out nq)⟩
                  case measure => simp [intOf]; omega
                · have HG2 := Lib.hid (show true = (lst l x1 (j + 1)).2 ∧ (y2.toList == x3.toList) = is2 (lst l x1 (j + 1)) x3 ∧ false = st2 (lst l x1 (j + 1)) x3 by
                    rw [hl]; exact ⟨rfl, by rw [eq_toList]; rfl, by show _ = (true && (decide (x3.size ≤ y2.size) && _)); rw [decide_eq_false hp]; rfl⟩)
                  have hpd : decide ((x3.size : Int) ≤ (y2.size : Int)) = false := decide_eq_false (by omega)
                  have hpi : ¬ (x3.size : Int) ≤ (y2.size : Int) := by omega
                  clear hl
                  go_wp2_with fail
                  go_quiet (fail)
                  rename Nat => nq
                  go_wp2_with fail
                  go_roundw
                  case rel => exact ⟨j + 1, by omega, by go_num, ⟨_, _, _, rfl, rfl, rfl, HG2⟩, Lib.hid (below_drewN HB5.out nq)⟩
                  case measure => simp [intOf]; omega
              · have hl := show lst l x1 (j + 1) = lst l x1 j by rw [lst, ← HY.out.1, if_neg he]
                have hq : (y1.toList == x1.toList) = false := by rw [eq_toList]; exact decide_eq_false he
                have HG2 := Lib.hid (show b7 = (lst l x1 (j + 1)).2 ∧ b8 = is2 (lst l x1 (j + 1)) x3 ∧ b9 = st2 (lst l x1 (j + 1)) x3 by rw [hl]; exact HG.out)
                clear he hl
                go_wp2_with fail
                go_roundw
                case rel => exact ⟨j + 1, by omega, by go_num, ⟨_, _, _, rfl, rfl, rfl, HG2⟩, HB5⟩
                case measure => simp [intOf]; omega
            · obtain rfl : j = n := by omega
              obtain ⟨c0, c1, c2⟩ := HC4.out _ HB4.out
              have HB5 := Lib.hid (HB3.out.trans (HB4.out.mono HB3.out.size))
              have HMO := Lib.hid (meet1_of (lst l x1 j) x3)
              clear hjn
              rcases asks_way HAB.out with g | g | g | g
              · obtain rfl : x2 = 1 := g
                cases b8 with
                | false =>
                  have HF := Lib.hid (HNO.out (by rw [HMO.out.1, ← HG.out.2.1]; cases asksB _ <;> rfl))
                  go_wp2_with fail
                  go_ret
                  rw [HF.out]; exact ⟨rfl, HB5.out⟩
                | true =>
                  have HU2 := Lib.hid (HYES.out (by rw [HAB.out, HMO.out.1, ← HG.out.2.1]; rfl))
                  go_wp2_with fail
                  go_roundw
                  case rel => exact ⟨k + 1, by omega, by go_num, HU2, HB5⟩
                  case measure => simp [intOf]; omega
              · obtain rfl : x2 = 2 := g
                cases b8 with
                | false =>
                  have HU2 := Lib.hid (HYES.out (by rw [HAB.out, HMO.out.2.1, ← HG.out.2.1]; rfl))
                  go_wp2_with fail
                  go_roundw
                  case rel => exact ⟨k + 1, by omega, by go_num, HU2, HB5⟩
                  case measure => simp [intOf]; omega
                | true =>
                  have HF := Lib.hid (HNO.out (by rw [HMO.out.2.1, ← HG.out.2.1]; cases asksB _ <;> rfl))
                  go_wp2_with fail
                  go_ret
                  rw [HF.out]; exact ⟨rfl, HB5.out⟩
              · obtain rfl : x2 = 3 := g
                cases b9 with
                | false =>
                  have HF := Lib.hid (HNO.out (by rw [HMO.out.2.2.1, ← HG.out.2.2]; cases asksB _ <;> rfl))
                  go_wp2_with fail
                  go_ret
                  rw [HF.out]; exact ⟨rfl, HB5.out⟩
                | true =>
                  have HU2 := Lib.hid (HYES.out (by rw [HAB.out, HMO.out.2.2.1, ← HG.out.2.2]; rfl))
                  go_wp2_with fail
                  go_roundw
                  case rel => exact ⟨k + 1, by omega, by go_num, HU2, HB5⟩
                  case measure => simp [intOf]; omega
              · obtain rfl : x2 = 4 := g
                cases b7 with
                | false =>
                  have HF := Lib.hid (HNO.out (by rw [HMO.out.2.2.2, ← HG.out.1]; cases asksB _ <;> rfl))
                  go_wp2_with fail
                  go_ret
                  rw [HF.out]; exact ⟨rfl, HB5.out⟩
                | true =>
                  have HU2 := Lib.hid (HYES.out (by rw [HAB.out, HMO.out.2.2.2, ← HG.out.1]; rfl))
                  go_wp2_with fail
                  go_roundw
                  case rel => exact ⟨k + 1, by omega, by go_num, HU2, HB5⟩
                  case measure => simp [intOf]; omega
      · obtain rfl : k = n' := by omega
        have HT := Lib.hid (show meetsB l ms = true by rw [HR.out]; exact HU.out)
        clear hkn
        go_wp2_with fail
        go_ret
        rw [HT.out]; exact ⟨rfl, HB.out⟩
end Go.Proofs.Ytjbljplgkbnpmaa
end SecLabMt2
