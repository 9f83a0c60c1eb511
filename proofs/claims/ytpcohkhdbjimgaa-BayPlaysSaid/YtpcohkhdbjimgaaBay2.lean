/- Two boxes side by side: Put, Take, Len, Either; the law's lives; slices of integers as they come in. -/
import Derived.Test.YtpcohkhdbjimgaaBay
namespace Go.Proofs.Ytpcohkhdbjimgaa
open Go.RowKit Go.Conc
set_option linter.unusedVariables false

/-- what a walk is told of a slice of integers that came in -/
def IsRow (k : IntKind) (sz : Nat) (w : World) (a : Option Addr) (len cap : Nat) (zs : List Int) : Prop :=
  (a = none ∧ len = 0 ∧ cap = 0 ∧ zs = []) ∨
  ∃ x, a = some x ∧ len ≤ cap ∧ cap ≤ maxLen ∧ zs.length = cap ∧ (∀ i, i < zs.length → w.cell? (x.add i) = some (.int k (zs.getD i 0))) ∧ (∀ n ∈ zs, (Lit.int k n).wf = true) ∧ cap * sz ≤ 140737488351232
structure IntsAt (w : World) (a : Option Addr) (n c : Nat) (zs : List Int) : Prop where
  len : zs.length = n
  cap : n ≤ c
  capm : c ≤ 9223372036854775807
  nl : a = none → c = 0
  cells : 0 < n → ∃ b off, a = some ⟨b, off, none⟩ ∧ b < w.heap.size ∧ ∀ i, i < n → w.cell? ⟨b, off + i, none⟩ = some (.int .i64 (zs.getD i 0))
theorem IntsAt.keep {w w' : World} {a : Option Addr} {n c : Nat} {zs : List Int} (h : IntsAt w a n c zs) {B : Nat} (hb : Below B w w') (hB : w.heap.size ≤ B) : IntsAt w' a n c zs :=
  ⟨h.len, h.cap, h.capm, h.nl, fun hn => by
    obtain ⟨b, off, ha, hlt, hc⟩ := h.cells hn
    exact ⟨b, off, ha, Nat.lt_of_lt_of_le hlt hb.size, fun i hi => (hb.cell (p := ⟨b, off + i, none⟩) (Nat.lt_of_lt_of_le hlt hB)).trans (hc i hi)⟩⟩
theorem IntsAt.kept {w w' : World} {a : Option Addr} {n c : Nat} {zs : List Int} (h : IntsAt w a n c zs) (hb : Below w.heap.size w w') : IntsAt w' a n c zs := h.keep hb (Nat.le_refl _)
theorem IntsAt.empty (w : World) (a : Option Addr) (c : Nat) (hc : c ≤ 9223372036854775807) (ha : a = none → c = 0) : IntsAt w a 0 c [] :=
  ⟨rfl, Nat.zero_le _, hc, ha, fun h => absurd h (Nat.lt_irrefl 0)⟩
theorem IsRow.ints {s : Nat} {w : World} {a : Option Addr} {len cap : Nat} {zs : List Int} (h : IsRow .i64 s w a len cap zs) : IntsAt w a len cap (zs.take len) := by
  rcases h with ⟨rfl, rfl, rfl, rfl⟩ | ⟨x, rfl, hl, hm, hz, hcell, hwz, hr⟩
  · exact IntsAt.empty w none 0 (by omega) (fun _ => rfl)
  · refine ⟨by simp; omega, hl, by unfold maxLen at hm; exact hm, (fun e => by cases e), fun hp => ?_⟩
    obtain ⟨b, off, spot⟩ := x
    have hc := hcell 0 (by omega)
    have hspot : spot = none := by simpa [Addr.add] using World.cell?_spot hc
    subst hspot
    refine ⟨b, off, rfl, ?_, fun i hi => ?_⟩
    · have := World.block_lt_of_cell? w _ hc
      simpa [Addr.add] using this
    · have h1 := hcell i (by omega)
      have h4 : (⟨b, off, none⟩ : Addr).add i = ⟨b, off + i, none⟩ := by unfold Addr.add; split <;> simp_all
      rw [h4] at h1
      rw [h1]
      have h2 : i < zs.length := by omega
      simp [hi, h2]

theorem len_any {w : World} {B C room : Nat} {xs : List Int} (h : BoxAt w B C room xs) :
    Calls Try.prog 11 #[.pointer (some ⟨B, 0, none⟩)] w fun e w' => e = .returned (.int .i64 (xs.length : Int)) ∧ w' = w := by
  have c0 := h.c0
  obtain ⟨sn, rn, hch⟩ := h.ch
  have hlen := fun ty => run_len_chan (P := Try.prog) 62 ty Try.underlying62 hch
  have hs : (iv xs).toArray.size = xs.length := by simp [iv]
  rw [hs] at hlen
  clear h hch
  go_enter Try.func11, Try.ntmps11
  go_wp2_with fail
  go_ret
  exact ⟨rfl, rfl⟩

theorem lives_any (w : World) :
    Calls Try.prog 8 #[] w fun e w' => e = .returned (.bool true) ∧ Below w.heap.size w w' := by
  have HN := Lib.hid (new_yes 2 (by omega) (by omega) w)
  go_enter Try.func8, Try.ntmps8
  go_wp2_with fail
  refine HN.out.mono ?_
  rintro e w1 ⟨rfl, hb1, hw1⟩
  have HX1 := Lib.hid hb1
  have HB1 := Lib.hid hw1
  clear hb1 hw1
  go_wp2_with fail
  refine (put_room HX1.out 5 (by decide)).mono ?_
  rintro e w2 ⟨rfl, hx2, hg2⟩
  have HB2 := Lib.hid (HB1.out.grown hg2 HB1.out.size (fun k hk => by simp at hk; omega))
  have HX2 := Lib.hid hx2
  clear hx2 hg2
  go_wp2_with fail
  refine (put_room HX2.out 6 (by decide)).mono ?_
  rintro e w3 ⟨rfl, hx3, hg3⟩
  have HB3 := Lib.hid (HB2.out.grown hg3 HB2.out.size (fun k hk => by simp at hk; omega))
  have HX3 := Lib.hid hx3
  clear hx3 hg3
  go_wp2_with fail
  refine (put_full HX3.out 7 (by decide)).mono ?_
  rintro e w4 ⟨rfl, rfl⟩
  go_wp2_with fail
  refine (len_any HX3.out).mono ?_
  rintro e w5 ⟨rfl, rfl⟩
  go_wp2_with fail
  go_ret
  exact ⟨rfl, HB3.out⟩

/-- a box's pointer, or none -/
def ptr (p : Option Nat) : Option Addr := p.map fun B => ⟨B, 0, none⟩
def BxAt (w : World) (base room : Nat) (p : Option Nat) (C : Nat) (xs : List Int) : Prop :=
  match p with
  | none => xs = []
  | some B => BoxAt w B C room xs ∧ base ≤ C
/-- two boxes apart from each other -/
structure Two (w : World) (base room : Nat) (p : Option Nat) (C : Nat) (q : Option Nat) (D : Nat) (xs ys : List Int) : Prop where
  one : BxAt w base room p C xs
  two : BxAt w base room q D ys
  apart : ∀ B E, p = some B → q = some E → C ≠ E ∧ C ≠ D ∧ D ≠ B
theorem Two.symm {w : World} {base room : Nat} {p q : Option Nat} {C D : Nat} {xs ys : List Int} (h : Two w base room p C q D xs ys) : Two w base room q D p C ys xs :=
  ⟨h.two, h.one, fun B E h1 h2 => by obtain ⟨a, b, c⟩ := h.apart E B h2 h1; exact ⟨c, b.symm, a⟩⟩
theorem Two.kept {w w' : World} {base room : Nat} {p q : Option Nat} {C D : Nat} {xs ys : List Int} (h : Two w base room p C q D xs ys) (hb : Below w.heap.size w w') : Two w' base room p C q D xs ys := by
  refine ⟨?_, ?_, h.apart⟩
  · cases p with
    | none => exact h.one
    | some B => exact ⟨h.one.1.kept hb, h.one.2⟩
  · cases q with
    | none => exact h.two
    | some B => exact ⟨h.two.1.kept hb, h.two.2⟩
theorem Two.turned {w w' : World} {base room B : Nat} {q : Option Nat} {C D : Nat} {xs ys zs : List Int} (h : Two w base room (some B) C q D xs ys) (hn : BoxAt w' B C room zs) (hg : w.grownBy w' (some C)) : Two w' base room (some B) C q D zs ys := by
  refine ⟨⟨hn, h.one.2⟩, ?_, h.apart⟩
  cases q with
  | none => exact h.two
  | some E =>
    obtain ⟨a, b, c⟩ := h.apart B E rfl rfl
    exact ⟨h.two.1.grown hg a b, h.two.2⟩
theorem two_put {w : World} {base room B : Nat} {q : Option Nat} {C D : Nat} {xs ys : List Int} (h : Two w base room (some B) C q D xs ys) (x : Int) (hl : xs.length < room) :
    Calls Try.prog 10 #[.pointer (some ⟨B, 0, none⟩), .int .i64 x] w fun e w' => e = .returned (.bool true) ∧ Two w' base room (some B) C q D (xs ++ [x]) ys ∧ w.grownBy w' (some C) ∧ base ≤ C :=
  (put_room h.one.1 x hl).mono fun e w' ⟨he, hx, hg⟩ => ⟨he, h.turned hx hg, hg, h.one.2⟩
/-- the first thing of the first box -/
theorem two_take {w : World} {base room : Nat} {p q : Option Nat} {C D : Nat} {x : Int} {xs ys : List Int} (h : Two w base room p C q D (x :: xs) ys) :
    Calls Try.prog 9 #[.pointer (ptr p)] w fun e w' => e = .returned (.tuple #[.int .i64 x, .bool true]) ∧ Two w' base room p C q D xs ys ∧ w.grownBy w' (some C) ∧ base ≤ C := by
  cases p with
  | none => exact absurd h.one (by intro e; cases e)
  | some B => exact (take_some h.one.1).mono fun e w' ⟨he, hx, hg⟩ => ⟨he, h.turned hx hg, hg, h.one.2⟩
theorem two_none {w : World} {base room : Nat} {p q : Option Nat} {C D : Nat} {ys : List Int} (h : Two w base room p C q D [] ys) :
    Calls Try.prog 9 #[.pointer (ptr p)] w fun e w' => e = .returned (.tuple #[.int .i64 0, .bool false]) ∧ w' = w := by
  cases p with
  | none => exact take_nil w
  | some B => exact take_none h.one.1

theorem either_one {w : World} {base room : Nat} {p q : Option Nat} {C D : Nat} {x : Int} {xs ys : List Int} (h : Two w base room p C q D (x :: xs) ys) :
    Calls Try.prog 17 #[.pointer (ptr p), .pointer (ptr q)] w fun e w' => e = .returned (.tuple #[.int .i64 x, .int .i64 1]) ∧ Two w' base room p C q D xs ys ∧ w.grownBy w' (some C) ∧ base ≤ C := by
  have HT := Lib.hid (two_take h)
  clear h
  go_enter Try.func17, Try.ntmps17
  go_wp2_with fail
  refine HT.out.mono ?_
  rintro e w1 ⟨rfl, h1⟩
  have H1 := Lib.hid h1
  clear h1
  go_wp2_with fail
  go_ret2
  exact ⟨rfl, H1.out⟩
theorem either_two {w : World} {base room : Nat} {p q : Option Nat} {C D : Nat} {y : Int} {ys : List Int} (h : Two w base room p C q D [] (y :: ys)) :
    Calls Try.prog 17 #[.pointer (ptr p), .pointer (ptr q)] w fun e w' => e = .returned (.tuple #[.int .i64 y, .int .i64 2]) ∧ Two w' base room p C q D [] ys ∧ w.grownBy w' (some D) ∧ base ≤ D := by
  have HT := Lib.hid (two_none h)
  have HT2 := Lib.hid (two_take h.symm)
  clear h
  go_enter Try.func17, Try.ntmps17
  go_wp2_with fail
  refine HT.out.mono ?_
  rintro e w1 ⟨rfl, rfl⟩
  go_wp2_with fail
  refine HT2.out.mono ?_
  rintro e w1 ⟨rfl, h1⟩
  have H1 := Lib.hid h1
  clear h1
  go_wp2_with fail
  go_ret2
  exact ⟨rfl, H1.out.1.symm, H1.out.2⟩
theorem either_no {w : World} {base room : Nat} {p q : Option Nat} {C D : Nat} (h : Two w base room p C q D [] []) :
    Calls Try.prog 17 #[.pointer (ptr p), .pointer (ptr q)] w fun e w' => e = .returned (.tuple #[.int .i64 0, .int .i64 0]) ∧ w' = w := by
  have HT := Lib.hid (two_none h)
  have HT2 := Lib.hid (two_none h.symm)
  clear h
  go_enter Try.func17, Try.ntmps17
  go_wp2_with fail
  refine HT.out.mono ?_
  rintro e w1 ⟨rfl, rfl⟩
  go_wp2_with fail
  refine HT2.out.mono ?_
  rintro e w1 ⟨rfl, rfl⟩
  go_wp2_with fail
  go_ret2
  exact ⟨rfl, rfl⟩
end Go.Proofs.Ytpcohkhdbjimgaa
