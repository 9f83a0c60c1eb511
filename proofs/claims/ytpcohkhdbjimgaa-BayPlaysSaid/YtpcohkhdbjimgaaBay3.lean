/- Boxes: Room, Drain; the document's box; rows of integers compared. -/
import Derived.Test.YtpcohkhdbjimgaaBay2
import Derived.BigRegion
import Derived.Deep.RegionHeld3
namespace Go.Proofs.Ytpcohkhdbjimgaa
open Go.RowKit Go.Conc
set_option linter.unusedVariables false

def lenOf : Value → Nat
  | .slice _ n _ => n
  | _ => 0
theorem below_drewN {B : Nat} {a w : World} (h : Below B a w) (q : Nat) : Below B a (w.drewN q) := ⟨h.os, h.tape, h.output, h.size, h.block⟩
theorem room_any {w : World} {B C room : Nat} {xs : List Int} (h : BoxAt w B C room xs) (hl : xs.length ≤ room) (hr : room ≤ 2048) :
    Calls Try.prog 12 #[.pointer (some ⟨B, 0, none⟩)] w fun e w' => e = .returned (.int .i64 ((room - xs.length : Nat) : Int)) ∧ ∃ n, w' = w.drewN n := by
  have c0 := h.c0
  obtain ⟨sn, rn, hch⟩ := h.ch
  have hlen := fun ty => run_len_chan (P := Try.prog) 62 ty Try.underlying62 hch
  have hcap := fun ty => run_cap_chan (P := Try.prog) 62 ty Try.underlying62 hch
  have hs : (iv xs).toArray.size = xs.length := by simp [iv]
  rw [hs] at hlen
  have hlen2 := fun ty k => run_len_chan (P := Try.prog) (w := w.drewN k) 62 ty Try.underlying62 hch
  have hcap2 := fun ty k => run_cap_chan (P := Try.prog) (w := w.drewN k) 62 ty Try.underlying62 hch
  rw [hs] at hlen2
  have hw : IntKind.i64.wrap ((room : Int) - (xs.length : Int)) = ((room - xs.length : Nat) : Int) := by rw [IntWalk.i64_in _ (by omega)]; omega
  clear h hch
  go_enter Try.func12, Try.ntmps12
  go_wp2_with fail
  go_quiet (fail)
  go_wp2_with fail
  go_ret
  exact ⟨rfl, _, rfl⟩

theorem int_info : (Try.prog.info? 3).map (fun i => (i.zero, i.size, i.bytes)) = some (some (.int .i64 0), 1, 8) := by kernel_rfl
theorem own_some2 {w : World} {base n : Nat} {e : TypeId} {size : Nat} {v : Value} {xs : List Value} (h : w.ownsRow base e size v n xs) (hn : 0 < n) : ∃ g c, v = .slice (some ⟨g, 0, none⟩) n c := by
  rcases h.2 with ⟨_, h0⟩ | ⟨g, cap, cur, he, _⟩
  · omega
  · exact ⟨g, cap, he⟩
theorem own_below {w w' : World} {base : Nat} {e : TypeId} {size : Nat} {v : Value} {n : Nat} {xs : List Value} (h : w.ownsRow base e size v n xs) (hb : Below w.heap.size w w') : w'.ownsRow base e size v n xs :=
  h.kept (row := none) ⟨hb.os, hb.tape, hb.output, hb.size, fun k hk _ => hb.block k hk⟩ (by cases hv : v.ownBlock <;> simp)
theorem one_src (w : World) (x : Value) (t : TypeId) : ∀ j u, [x][j]? = some u → (w.alloc (.cells #[x] t)).cell? ((⟨w.heap.size, 0, none⟩ : Addr).add j) = some u := by
  intro j u hj
  match j, hj with
  | 0, hj =>
    simp at hj
    subst hj
    simp [Addr.add]
theorem iv_one (l : List Int) : ∀ u ∈ iv l, u.oneCell' = true := by
  intro u hu
  simp only [iv, List.mem_map] at hu
  obtain ⟨x, _, rfl⟩ := hu
  rfl
theorem IntsAt.src {w : World} {ad : Addr} {n c : Nat} {zs : List Int} (h : IntsAt w (some ad) n c zs) : ∀ j u, (iv zs)[j]? = some u → w.cell? (ad.add j) = some u := by
  intro j u hj
  have hlt : j < zs.length := by
    rcases Nat.lt_or_ge j zs.length with g | g
    · exact g
    · rw [List.getElem?_eq_none (by rw [iv_length]; exact g)] at hj; cases hj
  have hl := h.len
  obtain ⟨b, off, ha, _, hc⟩ := h.cells (by omega)
  cases ha
  have h4 : (⟨b, off, none⟩ : Addr).add j = ⟨b, off + j, none⟩ := by unfold Addr.add; split <;> simp_all
  rw [h4, hc j (by omega), ← hj]
  simp [iv, hlt]
theorem IntsAt.ofOwn {w : World} {base n : Nat} {v : Value} {zs : List Int} (h : w.ownsRow base 3 1 v n (iv zs)) :
    ∃ a c, v = .slice a n c ∧ IntsAt w a n c zs ∧ (∀ b off s, a = some ⟨b, off, s⟩ → base ≤ b) := by
  have hl : zs.length = n := by have := h.1; simpa [iv_length] using this
  rcases h.2 with ⟨h1, h0⟩ | ⟨g, cap, cur, rfl, hg, hh, hn, hcap, hsz, htake⟩
  · subst h1
    subst h0
    obtain rfl : zs = [] := List.eq_nil_of_length_eq_zero hl
    exact ⟨none, 0, rfl, IntsAt.empty _ _ _ (by omega) (fun _ => rfl), fun _ _ _ e => by cases e⟩
  · have hlt : g < w.heap.size := (Array.getElem?_eq_some_iff.1 hh).1
    refine ⟨some ⟨g, 0, none⟩, cap, rfl, ⟨hl, hn, (by unfold maxLen at hcap; exact hcap), (fun e => by cases e), fun hp => ⟨g, 0, rfl, hlt, fun i hi => ?_⟩⟩, fun b off s e => by cases e; exact hg⟩
    have := h.cellAt i (by omega)
    have hi2 : i < zs.length := by omega
    rw [Nat.zero_add, this]
    simp [iv, hi2]
theorem IntsAt.grown {w w' : World} {a : Option Addr} {n c : Nat} {zs : List Int} {row : Option Nat} (h : IntsAt w a n c zs) (hg : w.grownBy w' row) (hne : ∀ b off, a = some ⟨b, off, none⟩ → 0 < n → row ≠ some b) : IntsAt w' a n c zs :=
  ⟨h.len, h.cap, h.capm, h.nl, fun hn => by
    obtain ⟨b, off, ha, hlt, hc⟩ := h.cells hn
    refine ⟨b, off, ha, Nat.lt_of_lt_of_le hlt hg.size, fun i hi => ?_⟩
    exact hg.cell (hc i hi) (fun e => hne b off ha hn e.symm)⟩
theorem BoxAt.grown' {w w' : World} {B C room : Nat} {xs : List Int} {row : Option Nat} (h : BoxAt w B C room xs) (hg : w.grownBy w' row) (h1 : row ≠ some B) (h2 : row ≠ some C) : BoxAt w' B C room xs :=
  ⟨by rw [hg.block B h.ltB (fun e => h1 e.symm)]; exact h.blk, by obtain ⟨s, r, hc⟩ := h.ch; exact ⟨s, r, by rw [hg.block C h.ltC (fun e => h2 e.symm)]; exact hc⟩⟩
/-- one way on: what turns new memory only leaves the frame -/
theorem grown_over {a b c : World} {r r2 : Option Nat} (h : a.grownBy b r) (k : b.grownBy c r2) (hr2 : ∀ g, r2 = some g → a.heap.size ≤ g ∨ r = some g) : a.grownBy c r :=
  ⟨k.os.trans h.os, k.tape.trans h.tape, k.output.trans h.output, Nat.le_trans h.size k.size, fun i hi hr => (k.block i (Nat.lt_of_lt_of_le hi h.size) (fun e => by rcases hr2 i e.symm with g | g; omega; exact hr g.symm)).trans (h.block i hi hr)⟩
theorem grown_below {a b c : World} {r : Option Nat} (h : a.grownBy b r) (k : Below b.heap.size b c) : a.grownBy c r :=
  grown_over (r2 := none) h ⟨k.os, k.tape, k.output, k.size, fun i hi _ => k.block i hi⟩ (fun g e => by cases e)
/-- a row of integers is in no channel's block -/
theorem IntsAt.ne_chan {w : World} {a : Option Addr} {n c C : Nat} {zs : List Int} (h : IntsAt w a n c zs) {cap s r : Nat} {buf : Array Value} {cl tm : Bool} (hc : w.heap[C]? = some (.chan cap buf cl s r tm)) : ∀ b off, a = some ⟨b, off, none⟩ → 0 < n → some C ≠ some b := by
  intro b off ha hn e
  obtain ⟨b', off', ha', hlt, hcell⟩ := h.cells hn
  rw [ha] at ha'
  simp only [Option.some.injEq, Addr.mk.injEq, and_true] at ha' e
  obtain ⟨rfl, rfl⟩ := ha'
  subst e
  have := hcell 0 hn
  unfold World.cell? at this
  simp [hc] at this

/-- Take, whatever the box holds -/
theorem take_any {w : World} {B C room : Nat} {xs : List Int} (h : BoxAt w B C room xs) :
    Calls Try.prog 9 #[.pointer (some ⟨B, 0, none⟩)] w fun e w' => e = .returned (.tuple #[.int .i64 (xs.getD 0 0), .bool (decide (0 < xs.length))]) ∧ BoxAt w' B C room xs.tail ∧ w.grownBy w' (some C) := by
  cases xs with
  | nil => exact (take_none h).mono fun e w' ⟨he, hw⟩ => ⟨he, by rw [hw]; exact h, by rw [hw]; exact World.grownBy.refl _ _⟩
  | cons x r => exact (take_some h).mono fun e w' ⟨he, hx, hg⟩ => ⟨by rw [he]; simp, hx, hg⟩

set_option maxRecDepth 100000 in
set_option maxHeartbeats 1000000 in
theorem drain_any {w : World} {B C room : Nat} {xs : List Int} (h : BoxAt w B C room xs) (hl : xs.length ≤ 2048) :
    Calls Try.prog 13 #[.pointer (some ⟨B, 0, none⟩)] w fun e w' => ∃ a c, e = .returned (.slice a xs.length c) ∧ IntsAt w' a xs.length c xs ∧ BoxAt w' B C room [] ∧ w.grownBy w' (some C) := by
  obtain ⟨i0, hi, hz0, hz1, hz2⟩ := info_parts int_info
  have HX := Lib.hid h
  have HLT := Lib.hid (And.intro h.ltB h.ltC)
  clear h
  go_enter Try.func13, Try.ntmps13
  go_wp2_with fail
  refine (take_any HX.out).mono ?_
  rintro e w1 ⟨rfl, hx1, hg1⟩
  have HX1 := Lib.hid hx1
  have HG1 := Lib.hid hg1
  have HO1 := Lib.hid (World.ownsRow_nil w1 w.heap.size 3 1)
  clear hx1 hg1
  go_wp2_with fail
  go_loopw [3, 4, 5] (fun s3 s4 s5 wr => ∃ (done pend : List Int) (m cp : Nat) (a : Option Addr), s3 = .slice a m cp ∧ s4 = .int .i64 (pend.getD 0 0) ∧ s5 = .bool (decide (0 < pend.length)) ∧ Hid (done.length = m) ∧ Hid (xs = done ++ pend) ∧ Hid (BoxAt wr B C room pend.tail) ∧ Hid (wr.ownsRow w.heap.size 3 1 (.slice a m cp) m (iv done)) ∧ Hid (w.grownBy wr (some C))) (fun s3 _ _ _ => xs.length - lenOf s3)
  case atStart => exact ⟨[], xs, 0, 0, none, rfl, rfl, rfl, Lib.hid rfl, Lib.hid rfl, HX1, HO1, HG1⟩
  case round =>
    clear HX1 HO1 HG1
    obtain ⟨done, pend, m, cp, a, rfl, rfl, rfl, HM, HP, HXR, HO, HG⟩ := hrel
    rename World => wr
    have hsz := HG.out.size
    cases pend with
    | nil =>
      rw [show decide (0 < ([] : List Int).length) = false from by simp]
      have HPD := Lib.hid (show done = xs by have := HP.out; simpa using this.symm)
      obtain ⟨a9, c9, he9, hat, _⟩ := IntsAt.ofOwn HO.out
      simp only [Value.slice.injEq, true_and] at he9
      obtain ⟨rfl, rfl⟩ := he9
      have HAT := Lib.hid hat
      have hml : m = xs.length := by rw [← HM.out, HPD.out]
      subst hml
      clear hat
      go_wp2_with fail
      go_ret
      refine ⟨_, _, rfl, ?_, HXR.out, HG.out⟩
      have := HAT.out
      rw [HPD.out] at this
      exact this
    | cons x r =>
      rw [show decide (0 < (x :: r).length) = true from by simp, show (x :: r).getD 0 0 = x from rfl]
      have hdl : m + 1 + r.length = xs.length := by have := congrArg List.length HP.out; rw [List.length_append, List.length_cons, HM.out] at this; omega
      have HXA := Lib.hid (show BoxAt (wr.alloc (.cells #[.int .i64 x] 3)) B C room r from HXR.out.kept ((Below.refl _ _).alloc (Nat.le_refl _) _))
      have HOA := Lib.hid (HO.out.alloc (.cells #[.int .i64 x] 3))
      have HGA := Lib.hid (grown_below HG.out ((Below.refl _ _).alloc (Nat.le_refl _) (.cells #[.int .i64 x] 3)))
      go_wp2_with (at_builtin; refine wpList_append_own_at _ rfl (.tmp 17) (.tmp 19) 30 rfl w.heap.size 3 i0 (.int .i64 0) 1 8 Try.underlying30 hi hz0 hz1 hz2 rfl (by decide) _ _ _ rfl HOA.out ⟨wr.heap.size, 0, none⟩ 1 1 [.int .i64 x] rfl rfl (one_src _ _ _) (iv_one [x]) (by unfold maxLen; omega) (by omega) (by simp; omega) ?_)
      intro v5 w5 ho5 hg5 _ _
      obtain ⟨g5, c5, rfl⟩ := own_some2 ho5 (by omega)
      have hrow : ∀ g, (Value.slice a m cp).ownBlock = some g → w.heap.size ≤ g := fun g hg => (HOA.out.lt g hg).1
      have hltB := HLT.out.1
      have hltC := HLT.out.2
      have HX5 := Lib.hid (HXA.out.grown' hg5 (fun e => by have := hrow B e; omega) (fun e => by have := hrow C e; omega))
      have HG5 := Lib.hid (grown_over HGA.out hg5 (fun g e => .inl (hrow g e)))
      have HO5 := Lib.hid (show w5.ownsRow w.heap.size 3 1 (.slice (some ⟨g5, 0, none⟩) (m + 1) c5) (m + 1) (iv (done ++ [x])) by rw [iv_append]; exact ho5)
      clear ho5 hg5 hrow
      go_wp2_with fail
      refine (take_any HX5.out).mono ?_
      rintro e w6 ⟨rfl, hx6, hg6⟩
      have HX6 := Lib.hid hx6
      have HG6 := Lib.hid (grown_over HG5.out hg6 (fun g e => .inr e))
      have HO6 := Lib.hid (HO5.out.kept hg6 (.inr (fun e => by have := (HO5.out.lt g5 rfl).1; simp [Value.ownBlock] at e; omega)))
      clear hx6 hg6
      go_wp2_with fail
      go_roundw
      case rel => exact ⟨done ++ [x], r, m + 1, c5, _, rfl, rfl, rfl, Lib.hid (by rw [List.length_append, HM.out]; rfl), Lib.hid (by rw [HP.out]; simp), HX6, HO6, HG6⟩
      case measure => simp [lenOf] <;> omega
theorem drain_nil (w : World) :
    Calls Try.prog 13 #[.pointer none] w fun e w' => e = .returned (.slice none 0 0) ∧ w' = w := by
  have HT := Lib.hid (take_nil w)
  go_enter Try.func13, Try.ntmps13
  go_wp2_with fail
  refine HT.out.mono ?_
  rintro e w1 ⟨rfl, rfl⟩
  go_wp2_with fail
  go_loopw [3, 4, 5] (fun s3 s4 s5 wr => s3 = .slice none 0 0 ∧ s5 = .bool false ∧ wr = w1) (fun _ _ _ _ => 0)
  case atStart => exact ⟨rfl, rfl, rfl⟩
  case round =>
    obtain ⟨rfl, rfl, rfl⟩ := hrel
    go_wp2_with fail
    go_ret
    exact ⟨rfl, rfl⟩

theorem ints_ext {l m : List Int} (hl : l.length = m.length) (h : ∀ i, i < l.length → l.getD i 0 = m.getD i 0) : l = m := by
  refine List.ext_getElem hl fun i h1 h2 => ?_
  have := h i h1
  simpa [h1, h2] using this
set_option maxRecDepth 100000 in
set_option maxHeartbeats 1000000 in
theorem sameints_any {w : World} {a b : Option Addr} {n c n' c' : Nat} {l m : List Int} (h : IntsAt w a n c l) (h' : IntsAt w b n' c' m) :
    Calls Try.prog 16 #[.slice a n c, .slice b n' c'] w fun e w' => e = .returned (.bool (decide (l = m))) ∧ Below w.heap.size w w' := by
  have hcap := h.cap
  have hcm := h.capm
  have hcap' := h'.cap
  have hcm' := h'.capm
  have HH := Lib.hid h
  have HH' := Lib.hid h'
  have HL := Lib.hid h.len
  have HL' := Lib.hid h'.len
  clear h h'
  by_cases hn : n = n'
  · subst hn
    have z0 : ((n : Int) != (n : Int)) = false := by simp
    go_enter Try.func16, Try.ntmps16
    go_wp2_with fail
    go_loopw [13] (fun s13 wr => ∃ k : Nat, k ≤ n ∧ s13 = .int .i64 (k : Int) ∧ Hid (∀ i, i < k → l.getD i 0 = m.getD i 0) ∧ Hid (Below w.heap.size w wr)) (fun s13 _ => n - (intOf s13).toNat)
    case atStart => exact ⟨0, by omega, rfl, Lib.hid (fun i hi => absurd hi (Nat.not_lt_zero _)), Lib.hid (Below.refl _ _)⟩
    case round =>
      obtain ⟨k, hk, rfl, HU, HB⟩ := hrel
      rename World => wr
      by_cases hkn : k < n
      · obtain ⟨b1, off, rfl, hlt, hcell⟩ := (HH.out.kept HB.out).cells (by omega)
        have h1 := hcell k hkn
        obtain ⟨b2, off2, rfl, hlt2, hcell2⟩ := (HH'.out.kept HB.out).cells (by omega)
        have g1 := hcell2 k hkn
        obtain ⟨x, hx⟩ : ∃ x, x = l.getD k 0 := ⟨_, rfl⟩
        obtain ⟨y, hy⟩ : ∃ x, x = m.getD k 0 := ⟨_, rfl⟩
        rw [← hx] at h1
        rw [← hy] at g1
        have HX := Lib.hid hx
        have HY := Lib.hid hy
        clear hx hy hcell hcell2
        have hkni : (k : Int) < (n : Int) := by omega
        have hk0 : (0 : Int) ≤ (k : Int) := by omega
        by_cases he : x = y
        · have q1 : (x != y) = false := by simp [he]
          have HU2 := Lib.hid (show ∀ i, i < k + 1 → l.getD i 0 = m.getD i 0 from fun i hi => by
            rcases Nat.lt_or_ge i k with g | g
            · exact HU.out i g
            · obtain rfl : i = k := by omega
              rw [← HX.out, ← HY.out, he])
          clear he
          go_wp2_with fail
          go_region
          go_wp2_with fail
          go_roundw
          case rel => exact ⟨k + 1, by omega, by go_num, HU2, Lib.hid HB.out.drew⟩
          case measure => simp [intOf] <;> omega
        · have q1 : (x != y) = true := by simp [he]
          have HF := Lib.hid (show decide (l = m) = false by
            refine decide_eq_false fun e => he ?_
            rw [HX.out, HY.out, e])
          clear he
          go_wp2_with fail
          go_region
          go_wp2_with fail
          go_ret
          rw [HF.out]; exact ⟨rfl, HB.out.drew⟩
      · obtain rfl : k = n := by omega
        have HT := Lib.hid (show decide (l = m) = true from decide_eq_true (ints_ext (by rw [HL.out, HL'.out]) (by rw [HL.out]; exact HU.out)))
        clear hkn
        go_wp2_with fail
        go_ret
        rw [HT.out]; exact ⟨rfl, HB.out⟩
  · have z0 : ((n : Int) != (n' : Int)) = true := by rw [bne_iff_ne]; omega
    have HF := Lib.hid (show decide (l = m) = false from decide_eq_false fun e => hn (by rw [← HL.out, ← HL'.out, e]))
    clear hn
    go_enter Try.func16, Try.ntmps16
    go_wp2_with fail
    go_ret
    rw [HF.out]; exact ⟨rfl, Below.refl _ _⟩
end Go.Proofs.Ytpcohkhdbjimgaa
