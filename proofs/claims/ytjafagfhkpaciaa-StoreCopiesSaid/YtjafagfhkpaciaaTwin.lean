/- Twin and bytes.Clone, walked; small words beside them. -/
import Derived.Test.YtjafagfhkpaciaaKit
import Derived.WalkSpells
import Derived.WalkSmall
import Derived.Deep.QuietTactic
import Derived.BigQuiet
import Derived.Deep.RegionHeld3
import Derived.Laws.BitsAllLaws
namespace Go.Proofs.Ytjafagfhkpaciaa
open Go.RowKit
set_option linter.unusedVariables false

theorem u32_of_wf' {n : Int} (h : (Lit.int .u32 n).wf = true) : ∃ m : Nat, n = (m : Int) ∧ m < 4294967296 := by
  have : 0 ≤ n ∧ n ≤ 4294967295 := by simpa [Lit.wf, IntKind.min, IntKind.max, IntKind.signed, IntKind.bits] using h
  exact ⟨n.toNat, by omega, by omega⟩
theorem u64_of_wf {n : Int} (h : (Lit.int .u64 n).wf = true) : ∃ m : Nat, n = (m : Int) ∧ m < 18446744073709551616 := by
  have : 0 ≤ n ∧ n ≤ 18446744073709551615 := by simpa [Lit.wf, IntKind.min, IntKind.max, IntKind.signed, IntKind.bits] using h
  exact ⟨n.toNat, by omega, by omega⟩

theorem i64_of_wf {n : Int} (h : (Lit.int .i64 n).wf = true) : -9223372036854775808 ≤ n ∧ n ≤ 9223372036854775807 := by
  simpa [Lit.wf, IntKind.min, IntKind.max, IntKind.signed, IntKind.bits] using h

theorem BytesAt.drew {w : World} {a : Option Addr} {n c : Nat} {xs : List Nat} (h : BytesAt w a n c xs) : BytesAt w.drew a n c xs :=
  ⟨h.len, h.cap, h.byte, h.reach, h.capm, h.nl, h.cells⟩

theorem BytesAt.drewN {w : World} {a : Option Addr} {n c : Nat} {xs : List Nat} (h : BytesAt w a n c xs) (k : Nat) : BytesAt (w.drewN k) a n c xs :=
  h.kept ⟨rfl, rfl, rfl, Nat.le_refl _, fun _ _ => rfl⟩

theorem grown_drewN (w : World) (k : Nat) (r : Option Nat) : w.grownBy (w.drewN k) r := ⟨rfl, rfl, rfl, Nat.le_refl _, fun _ _ _ => rfl⟩
theorem _root_.Go.World.grownBy.trans' {a b c : World} {r : Option Nat} (h : a.grownBy b r) (k : b.grownBy c r) : a.grownBy c r :=
  ⟨k.os.trans h.os, k.tape.trans h.tape, k.output.trans h.output, Nat.le_trans h.size k.size, fun i hi hr => (k.block i (Nat.lt_of_lt_of_le hi h.size) hr).trans (h.block i hi hr)⟩

/-- a row of integers that came in -/
structure RowAt (k : IntKind) (w : World) (a : Option Addr) (n c : Nat) (zs : List Int) : Prop where
  cap : n ≤ c
  capm : c ≤ 9223372036854775807
  nl : a = none → c = 0
  cells : 0 < n → ∃ b off, a = some ⟨b, off, none⟩ ∧ b < w.heap.size ∧ ∀ i, i < n → w.cell? ⟨b, off + i, none⟩ = some (.int k (zs.getD i 0)) ∧ (Lit.int k (zs.getD i 0)).wf = true

theorem IsRow.at_ {k : IntKind} {s : Nat} {w : World} {a : Option Addr} {len cap : Nat} {zs : List Int} (h : IsRow k s w a len cap zs) : RowAt k w a len cap zs := by
  rcases h with ⟨rfl, rfl, rfl, rfl⟩ | ⟨x, rfl, hl, hm, hz, hcell, hwz, hr⟩
  · exact ⟨Nat.le_refl _, by omega, fun _ => rfl, fun h => absurd h (Nat.lt_irrefl 0)⟩
  · refine ⟨hl, by unfold maxLen at hm; exact hm, (fun e => by cases e), fun hp => ?_⟩
    obtain ⟨b, off, spot⟩ := x
    have hc := hcell 0 (by omega)
    have hspot : spot = none := by simpa [Addr.add] using World.cell?_spot hc
    subst hspot
    refine ⟨b, off, rfl, ?_, fun i hi => ?_⟩
    · have := World.block_lt_of_cell? w _ hc
      simpa [Addr.add] using this
    · have h1 := hcell i (by omega)
      have h4 : (⟨b, off, none⟩ : Addr).add i = ⟨b, off + i, none⟩ := by unfold Addr.add; split <;> simp_all
      rw [h4] at h1
      have h2 : i < zs.length := by omega
      refine ⟨h1, hwz _ ?_⟩
      have : zs.getD i 0 = zs[i] := by simp [h2]
      rw [this]
      exact List.getElem_mem h2

theorem BytesAt.ofOwn {w : World} {base n : Nat} {v : Value} {xs : List Nat} (h : w.ownsRow base 5 1 v n (bv xs)) (hb : ∀ x ∈ xs, x < 256) (hr : n ≤ 140737488351232) :
    ∃ a c, v = .slice a n c ∧ BytesAt w a n c xs ∧ (∀ b off s, a = some ⟨b, off, s⟩ → base ≤ b) := by
  rcases Nat.eq_zero_or_pos n with h0 | hp
  · subst h0
    have hx : xs = [] := by
      have := h.1
      simp only [Nat.zero_mul, bv_length] at this
      exact List.eq_nil_of_length_eq_zero this
    subst hx
    rcases h.2 with ⟨h1, _⟩ | ⟨g, cap, cur, rfl, hg, hh, hn, hcap, hsz, htake⟩
    · subst h1
      exact ⟨none, 0, rfl, BytesAt.empty _ _ _ (by omega) (fun _ => rfl), fun _ _ _ e => by cases e⟩
    · exact ⟨some ⟨g, 0, none⟩, cap, rfl, BytesAt.empty _ _ _ (by unfold maxLen at hcap; exact hcap) (fun e => by cases e), fun b off s e => by cases e; exact hg⟩
  · obtain ⟨g, c, rfl, hg, hlt, hba⟩ := BytesAt.own h hb hp hr
    exact ⟨some ⟨g, 0, none⟩, c, rfl, hba, fun b off s e => by cases e; exact hg⟩




end Go.Proofs.Ytjafagfhkpaciaa
