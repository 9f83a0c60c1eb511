/- Insertion (slices.insertionSortCmpFunc) over rows. Written by genins.py and toent.py. -/
import Derived.Test.YteihbbmbdkkbbaaERot
import Derived.Test.YteihbbmbdkkbbaaEEntAt
import Derived.Deep.RegionHeld3
namespace Go.Proofs.Yteihbbmbdkkbbaa
open Go.ChangeShapes Go.WideShapes Go.Deep Go.RowKit Stab
set_option linter.unusedVariables false

def ltE (x y : EntV) : Bool := decide (cmpEnt x y < 0)
def vals (t : Nat → EntV × Nat) : Nat → EntV := fun k => (t k).1
theorem Nines.below {w w' : World} {g n : Nat} {f : Nat → EntV} (h : Nines w g n f) (hg : g < w.heap.size) (hb : Below w.heap.size w w') : Nines w' g n f :=
  ⟨fun i hi j v hv => (hb.cell (p := ⟨g, i * 9 + j, none⟩) hg).trans (h.at' i hi j v hv), fun i hi j hj => ⟨by rw [hb.cell (p := ⟨g, i * 9 + j, none⟩) hg]; exact (h.free i hi j hj).1, by rw [hb.frozen (p := ⟨g, i * 9 + j, none⟩) hg]; exact (h.free i hi j hj).2⟩⟩
theorem vals_swp (t : Nat → EntV × Nat) (p q : Nat) : vals (swp t p q) = swp (vals t) p q := by
  funext k; unfold vals swp; repeat' split
  all_goals rfl
/-- of the elder and the younger: what of l up to j is not above the one at i -/
theorem ins_low {t : Nat → EntV × Nat} (wk : Weak ltE) {a j i : Nat} (hs : Srt (Tag ltE) t a i) (hj : a < j) (hji : j ≤ i) (h : Tag ltE (t (j - 1)) (t i)) : ∀ k, a ≤ k → k < j → Tag ltE (t k) (t i) := fun k hk hkj => by
  by_cases e : k = j - 1
  · rw [e]; exact h
  · exact wk.tag_tr _ _ _ (hs k (j - 1) hk (by omega) (by omega)) h

theorem ins_step (u : Nat → EntV × Nat) {q j0 i : Nat} (hq : q + 1 = j0) (h : j0 ≤ i) : swp (vals (rot u j0 i (i + 1))) j0 q = vals (rot u q i (i + 1)) := by
  subst hq
  rw [← vals_swp, rot_left u q i h]
theorem mem_ins {α : Type} {u t : Nat → α} {a i j : Nat} (hm : ∀ x, Mem u a i x ↔ Mem t a i x) (hk : ∀ k, k < a ∨ i ≤ k → u k = t k) (hai : a ≤ i) (haj : a ≤ j) (hji : j ≤ i) : ∀ x, Mem (rot u j i (i + 1)) a (i + 1) x ↔ Mem t a (i + 1) x := fun x => by
  rw [mem_cut (rot u j i (i + 1)) a j (i + 1) haj (by omega), mem_congr (f := u) (g := rot u j i (i + 1)) (a := a) (b := j) (fun k h1 h2 => by unfold rot; rw [if_neg (by omega)]), mem_rot u j i (i + 1) hji (by omega), ← mem_cut u a j (i + 1) haj (by omega), mem_cut u a i (i + 1) hai (by omega), mem_cut t a i (i + 1) hai (by omega), hm x, mem_congr (f := t) (g := u) (a := i) (b := i + 1) (fun k h1 h2 => hk k (.inr h1))]

set_option maxRecDepth 100000 in
set_option maxHeartbeats 4000000 in
theorem ins_any (wk : Weak ltE) (hcmp : ∀ (x y : EntV) (w : World), Calls Try.prog 39 #[.agg #[.string x.key, .int .i64 x.win, .string x.part, .int .i64 x.fst, .int .i64 x.lst, .int .i64 x.rows, .int .i64 x.size, .int .u32 x.sum, .int .i64 x.born], .agg #[.string y.key, .int .i64 y.win, .string y.part, .int .i64 y.fst, .int .i64 y.lst, .int .i64 y.rows, .int .i64 y.size, .int .u32 y.sum, .int .i64 y.born]] w fun e w' => e = .returned (.int .i64 (cmpEnt x y)) ∧ Below w.heap.size w w') {w : World} {g n c : Nat} {t : Nat → EntV × Nat} {a b : Nat} (h : Nines w g n (vals t)) (hg : g < w.heap.size) (hab : a < b) (hb : b ≤ n) (hc : n ≤ c) (hcx : c ≤ 9223372036854775807) (hcm : n ≤ 9223372036854775806) (ht : ∀ i j, a ≤ i → i < j → j < b → (t i).2 < (t j).2) :
    Calls Try.prog 59 #[.slice (some ⟨g, 0, none⟩) n c, .int .i64 (a : Int), .int .i64 (b : Int), .func (.func 39) #[] #[]] w fun e w' => e = .returned undef ∧ (∃ u, Nines w' g n (vals u) ∧ Srt (Tag ltE) u a b ∧ (∀ x, Mem u a b x ↔ Mem t a b x) ∧ ∀ k, k < a ∨ b ≤ k → u k = t k) ∧ Turns1 g w w' := by
  have H := Lib.hid h
  have HTG := Lib.hid ht
  have HCMP := Lib.hid hcmp
  clear h ht hcmp
  go_enter Try.func59, Try.ntmps59
  go_wp2_with fail
  go_loopw [8, 9] (fun s8 s9 wr => ∃ (i : Nat) (u : Nat → EntV × Nat), a + 1 ≤ i ∧ i ≤ b ∧ s8 = .int .i64 (i : Int) ∧ Hid (Nines wr g n (vals u)) ∧ Hid (Srt (Tag ltE) u a i) ∧ Hid (∀ x, Mem u a i x ↔ Mem t a i x) ∧ Hid (∀ k, k < a ∨ i ≤ k → u k = t k) ∧ Hid (Turns1 g w wr)) (fun s8 _ _ => b - (intOf s8).toNat)
  case atStart => exact ⟨a + 1, t, by omega, by omega, by go_num, H, Lib.hid (fun i j hi hij hj => by omega), Lib.hid (fun x => Iff.rfl), Lib.hid (fun _ _ => rfl), Lib.hid (Turns1.refl g w)⟩
  case round =>
    obtain ⟨i, u, hai, hib, rfl, HN, HS, HM, HK, HT⟩ := hrel
    rename World => wr
    by_cases hlt : i < b
    · have hlti : (i : Int) < (b : Int) := by omega
      go_wp2_with fail
      go_loopw [9] (fun s9 wq => ∃ j : Nat, a ≤ j ∧ j ≤ i ∧ s9 = .int .i64 (j : Int) ∧ Hid (Nines wq g n (vals (rot u j i (i + 1)))) ∧ Hid (∀ k, j ≤ k → k < i → Tag ltE (u i) (u k)) ∧ Hid (Turns1 g w wq)) (fun s9 _ => (intOf s9).toNat)
      case atStart => exact ⟨i, by omega, by omega, rfl, by rw [rot_none' u i (i + 1) (by omega)]; exact HN, Lib.hid (fun k h1 h2 => by omega), HT⟩
      case round =>
        obtain ⟨j0, haj, hji, rfl, HQ, HL, HU⟩ := hrel
        rename World => wq
        by_cases hja : a < j0
        · have hjai : (a : Int) < (j0 : Int) := by omega
          have hjn : (j0 : Int) < (n : Int) := by omega
          obtain ⟨q, hq⟩ : ∃ q, q = j0 - 1 := ⟨_, rfl⟩
          have wj : IntKind.i64.wrap ((j0 : Int) - 1) = (q : Int) := by rw [IntWalk.i64_in _ (by omega)]; omega
          have wjn : (q : Int) < (n : Int) := by omega
          have hjq1 : ¬ j0 = q := by omega
          have hjq2 : ¬ q = j0 := by omega
          have e1 : rot u j0 i (i + 1) j0 = u i := by unfold rot; rw [if_pos (by omega), if_pos (by omega)]; exact at_eq u (by omega)
          have e2 : rot u j0 i (i + 1) q = u q := by unfold rot; rw [if_neg (by omega)]
          obtain ⟨x, hx⟩ : ∃ x, x = vals (rot u j0 i (i + 1)) j0 := ⟨_, rfl⟩
          obtain ⟨y, hy⟩ : ∃ y, y = vals (rot u j0 i (i + 1)) q := ⟨_, rfl⟩
          have hxu : x = (u i).1 := by rw [hx]; unfold vals; rw [e1]
          have hyu : y = (u q).1 := by rw [hy]; unfold vals; rw [e2]
          have Hx := Lib.hid hx
          have Hy := Lib.hid hy
          clear hx hy e1 e2
          have hltg : g < wq.heap.size := Nat.lt_of_lt_of_le hg HU.out.size
          have cx0 : wq.cell? ⟨g, (j0) * 9, none⟩ = some (.string x.key) := HQ.out.at' _ (by omega) 0 _ (by rw [← Hx.out]; rfl)
          have cx1 : wq.cell? ⟨g, (j0) * 9 + 1, none⟩ = some (.int .i64 x.win) := HQ.out.at' _ (by omega) 1 _ (by rw [← Hx.out]; rfl)
          have cx2 : wq.cell? ⟨g, (j0) * 9 + 2, none⟩ = some (.string x.part) := HQ.out.at' _ (by omega) 2 _ (by rw [← Hx.out]; rfl)
          have cx3 : wq.cell? ⟨g, (j0) * 9 + 3, none⟩ = some (.int .i64 x.fst) := HQ.out.at' _ (by omega) 3 _ (by rw [← Hx.out]; rfl)
          have cx4 : wq.cell? ⟨g, (j0) * 9 + 4, none⟩ = some (.int .i64 x.lst) := HQ.out.at' _ (by omega) 4 _ (by rw [← Hx.out]; rfl)
          have cx5 : wq.cell? ⟨g, (j0) * 9 + 5, none⟩ = some (.int .i64 x.rows) := HQ.out.at' _ (by omega) 5 _ (by rw [← Hx.out]; rfl)
          have cx6 : wq.cell? ⟨g, (j0) * 9 + 6, none⟩ = some (.int .i64 x.size) := HQ.out.at' _ (by omega) 6 _ (by rw [← Hx.out]; rfl)
          have cx7 : wq.cell? ⟨g, (j0) * 9 + 7, none⟩ = some (.int .u32 x.sum) := HQ.out.at' _ (by omega) 7 _ (by rw [← Hx.out]; rfl)
          have cx8 : wq.cell? ⟨g, (j0) * 9 + 8, none⟩ = some (.int .i64 x.born) := HQ.out.at' _ (by omega) 8 _ (by rw [← Hx.out]; rfl)
          have cy0 : wq.cell? ⟨g, (q) * 9, none⟩ = some (.string y.key) := HQ.out.at' _ (by omega) 0 _ (by rw [← Hy.out]; rfl)
          have cy1 : wq.cell? ⟨g, (q) * 9 + 1, none⟩ = some (.int .i64 y.win) := HQ.out.at' _ (by omega) 1 _ (by rw [← Hy.out]; rfl)
          have cy2 : wq.cell? ⟨g, (q) * 9 + 2, none⟩ = some (.string y.part) := HQ.out.at' _ (by omega) 2 _ (by rw [← Hy.out]; rfl)
          have cy3 : wq.cell? ⟨g, (q) * 9 + 3, none⟩ = some (.int .i64 y.fst) := HQ.out.at' _ (by omega) 3 _ (by rw [← Hy.out]; rfl)
          have cy4 : wq.cell? ⟨g, (q) * 9 + 4, none⟩ = some (.int .i64 y.lst) := HQ.out.at' _ (by omega) 4 _ (by rw [← Hy.out]; rfl)
          have cy5 : wq.cell? ⟨g, (q) * 9 + 5, none⟩ = some (.int .i64 y.rows) := HQ.out.at' _ (by omega) 5 _ (by rw [← Hy.out]; rfl)
          have cy6 : wq.cell? ⟨g, (q) * 9 + 6, none⟩ = some (.int .i64 y.size) := HQ.out.at' _ (by omega) 6 _ (by rw [← Hy.out]; rfl)
          have cy7 : wq.cell? ⟨g, (q) * 9 + 7, none⟩ = some (.int .u32 y.sum) := HQ.out.at' _ (by omega) 7 _ (by rw [← Hy.out]; rfl)
          have cy8 : wq.cell? ⟨g, (q) * 9 + 8, none⟩ = some (.int .i64 y.born) := HQ.out.at' _ (by omega) 8 _ (by rw [← Hy.out]; rfl)
          cases hlt2 : ltE x y with
          | true =>
            have hneg : cmpEnt x y < 0 := by unfold ltE at hlt2; exact of_decide_eq_true hlt2
            have HTAG := Lib.hid (show Tag ltE (u i) (u q) from .inl (by rw [← hxu, ← hyu]; exact hlt2))
            clear hlt2
            have HXU := Lib.hid hxu
            have HYU := Lib.hid hyu
            have HQJ := Lib.hid hq
            clear hxu hyu hq
            go_wp2_with fail
            go_region_held3 (fun w' => w'.cell? ⟨g, (j0) * 9, none⟩ = some (.string x.key) ∧ w'.cell? ⟨g, (j0) * 9 + 1, none⟩ = some (.int .i64 x.win) ∧ w'.cell? ⟨g, (j0) * 9 + 2, none⟩ = some (.string x.part) ∧ w'.cell? ⟨g, (j0) * 9 + 3, none⟩ = some (.int .i64 x.fst) ∧ w'.cell? ⟨g, (j0) * 9 + 4, none⟩ = some (.int .i64 x.lst) ∧ w'.cell? ⟨g, (j0) * 9 + 5, none⟩ = some (.int .i64 x.rows) ∧ w'.cell? ⟨g, (j0) * 9 + 6, none⟩ = some (.int .i64 x.size) ∧ w'.cell? ⟨g, (j0) * 9 + 7, none⟩ = some (.int .u32 x.sum) ∧ w'.cell? ⟨g, (j0) * 9 + 8, none⟩ = some (.int .i64 x.born) ∧ w'.cell? ⟨g, (q) * 9, none⟩ = some (.string y.key) ∧ w'.cell? ⟨g, (q) * 9 + 1, none⟩ = some (.int .i64 y.win) ∧ w'.cell? ⟨g, (q) * 9 + 2, none⟩ = some (.string y.part) ∧ w'.cell? ⟨g, (q) * 9 + 3, none⟩ = some (.int .i64 y.fst) ∧ w'.cell? ⟨g, (q) * 9 + 4, none⟩ = some (.int .i64 y.lst) ∧ w'.cell? ⟨g, (q) * 9 + 5, none⟩ = some (.int .i64 y.rows) ∧ w'.cell? ⟨g, (q) * 9 + 6, none⟩ = some (.int .i64 y.size) ∧ w'.cell? ⟨g, (q) * 9 + 7, none⟩ = some (.int .u32 y.sum) ∧ w'.cell? ⟨g, (q) * 9 + 8, none⟩ = some (.int .i64 y.born)) (first | go_keep | exact ⟨(hbq.cell (p := ⟨g, (j0) * 9, none⟩) hltg).trans cx0, (hbq.cell (p := ⟨g, (j0) * 9 + 1, none⟩) hltg).trans cx1, (hbq.cell (p := ⟨g, (j0) * 9 + 2, none⟩) hltg).trans cx2, (hbq.cell (p := ⟨g, (j0) * 9 + 3, none⟩) hltg).trans cx3, (hbq.cell (p := ⟨g, (j0) * 9 + 4, none⟩) hltg).trans cx4, (hbq.cell (p := ⟨g, (j0) * 9 + 5, none⟩) hltg).trans cx5, (hbq.cell (p := ⟨g, (j0) * 9 + 6, none⟩) hltg).trans cx6, (hbq.cell (p := ⟨g, (j0) * 9 + 7, none⟩) hltg).trans cx7, (hbq.cell (p := ⟨g, (j0) * 9 + 8, none⟩) hltg).trans cx8, (hbq.cell (p := ⟨g, (q) * 9, none⟩) hltg).trans cy0, (hbq.cell (p := ⟨g, (q) * 9 + 1, none⟩) hltg).trans cy1, (hbq.cell (p := ⟨g, (q) * 9 + 2, none⟩) hltg).trans cy2, (hbq.cell (p := ⟨g, (q) * 9 + 3, none⟩) hltg).trans cy3, (hbq.cell (p := ⟨g, (q) * 9 + 4, none⟩) hltg).trans cy4, (hbq.cell (p := ⟨g, (q) * 9 + 5, none⟩) hltg).trans cy5, (hbq.cell (p := ⟨g, (q) * 9 + 6, none⟩) hltg).trans cy6, (hbq.cell (p := ⟨g, (q) * 9 + 7, none⟩) hltg).trans cy7, (hbq.cell (p := ⟨g, (q) * 9 + 8, none⟩) hltg).trans cy8⟩) (first | (go_at_call 39; refine (HCMP.out x y _).mono ?_; rintro r w3 ⟨rfl, hbq⟩))
            have HN3 := Lib.hid (HQ.out.drew.below hltg hbq)
            have HU3 := Lib.hid (HU.out.drew.below hbq)
            clear hbq cx0 cx1 cx2 cx3 cx4 cx5 cx6 cx7 cx8 cy0 cy1 cy2 cy3 cy4 cy5 cy6 cy7 cy8
            have cx0 : w3.cell? ⟨g, (j0) * 9, none⟩ = some (.string x.key) := HN3.out.at' _ (by omega) 0 _ (by rw [← Hx.out]; rfl)
            have cx1 : w3.cell? ⟨g, (j0) * 9 + 1, none⟩ = some (.int .i64 x.win) := HN3.out.at' _ (by omega) 1 _ (by rw [← Hx.out]; rfl)
            have cx2 : w3.cell? ⟨g, (j0) * 9 + 2, none⟩ = some (.string x.part) := HN3.out.at' _ (by omega) 2 _ (by rw [← Hx.out]; rfl)
            have cx3 : w3.cell? ⟨g, (j0) * 9 + 3, none⟩ = some (.int .i64 x.fst) := HN3.out.at' _ (by omega) 3 _ (by rw [← Hx.out]; rfl)
            have cx4 : w3.cell? ⟨g, (j0) * 9 + 4, none⟩ = some (.int .i64 x.lst) := HN3.out.at' _ (by omega) 4 _ (by rw [← Hx.out]; rfl)
            have cx5 : w3.cell? ⟨g, (j0) * 9 + 5, none⟩ = some (.int .i64 x.rows) := HN3.out.at' _ (by omega) 5 _ (by rw [← Hx.out]; rfl)
            have cx6 : w3.cell? ⟨g, (j0) * 9 + 6, none⟩ = some (.int .i64 x.size) := HN3.out.at' _ (by omega) 6 _ (by rw [← Hx.out]; rfl)
            have cx7 : w3.cell? ⟨g, (j0) * 9 + 7, none⟩ = some (.int .u32 x.sum) := HN3.out.at' _ (by omega) 7 _ (by rw [← Hx.out]; rfl)
            have cx8 : w3.cell? ⟨g, (j0) * 9 + 8, none⟩ = some (.int .i64 x.born) := HN3.out.at' _ (by omega) 8 _ (by rw [← Hx.out]; rfl)
            have zx0 : w3.frozen? ⟨g, (j0) * 9, none⟩ = false := (HN3.out.free _ (by omega) 0 (by omega)).2
            have zx1 : w3.frozen? ⟨g, (j0) * 9 + 1, none⟩ = false := (HN3.out.free _ (by omega) 1 (by omega)).2
            have zx2 : w3.frozen? ⟨g, (j0) * 9 + 2, none⟩ = false := (HN3.out.free _ (by omega) 2 (by omega)).2
            have zx3 : w3.frozen? ⟨g, (j0) * 9 + 3, none⟩ = false := (HN3.out.free _ (by omega) 3 (by omega)).2
            have zx4 : w3.frozen? ⟨g, (j0) * 9 + 4, none⟩ = false := (HN3.out.free _ (by omega) 4 (by omega)).2
            have zx5 : w3.frozen? ⟨g, (j0) * 9 + 5, none⟩ = false := (HN3.out.free _ (by omega) 5 (by omega)).2
            have zx6 : w3.frozen? ⟨g, (j0) * 9 + 6, none⟩ = false := (HN3.out.free _ (by omega) 6 (by omega)).2
            have zx7 : w3.frozen? ⟨g, (j0) * 9 + 7, none⟩ = false := (HN3.out.free _ (by omega) 7 (by omega)).2
            have zx8 : w3.frozen? ⟨g, (j0) * 9 + 8, none⟩ = false := (HN3.out.free _ (by omega) 8 (by omega)).2
            have cy0 : w3.cell? ⟨g, (q) * 9, none⟩ = some (.string y.key) := HN3.out.at' _ (by omega) 0 _ (by rw [← Hy.out]; rfl)
            have cy1 : w3.cell? ⟨g, (q) * 9 + 1, none⟩ = some (.int .i64 y.win) := HN3.out.at' _ (by omega) 1 _ (by rw [← Hy.out]; rfl)
            have cy2 : w3.cell? ⟨g, (q) * 9 + 2, none⟩ = some (.string y.part) := HN3.out.at' _ (by omega) 2 _ (by rw [← Hy.out]; rfl)
            have cy3 : w3.cell? ⟨g, (q) * 9 + 3, none⟩ = some (.int .i64 y.fst) := HN3.out.at' _ (by omega) 3 _ (by rw [← Hy.out]; rfl)
            have cy4 : w3.cell? ⟨g, (q) * 9 + 4, none⟩ = some (.int .i64 y.lst) := HN3.out.at' _ (by omega) 4 _ (by rw [← Hy.out]; rfl)
            have cy5 : w3.cell? ⟨g, (q) * 9 + 5, none⟩ = some (.int .i64 y.rows) := HN3.out.at' _ (by omega) 5 _ (by rw [← Hy.out]; rfl)
            have cy6 : w3.cell? ⟨g, (q) * 9 + 6, none⟩ = some (.int .i64 y.size) := HN3.out.at' _ (by omega) 6 _ (by rw [← Hy.out]; rfl)
            have cy7 : w3.cell? ⟨g, (q) * 9 + 7, none⟩ = some (.int .u32 y.sum) := HN3.out.at' _ (by omega) 7 _ (by rw [← Hy.out]; rfl)
            have cy8 : w3.cell? ⟨g, (q) * 9 + 8, none⟩ = some (.int .i64 y.born) := HN3.out.at' _ (by omega) 8 _ (by rw [← Hy.out]; rfl)
            have zy0 : w3.frozen? ⟨g, (q) * 9, none⟩ = false := (HN3.out.free _ (by omega) 0 (by omega)).2
            have zy1 : w3.frozen? ⟨g, (q) * 9 + 1, none⟩ = false := (HN3.out.free _ (by omega) 1 (by omega)).2
            have zy2 : w3.frozen? ⟨g, (q) * 9 + 2, none⟩ = false := (HN3.out.free _ (by omega) 2 (by omega)).2
            have zy3 : w3.frozen? ⟨g, (q) * 9 + 3, none⟩ = false := (HN3.out.free _ (by omega) 3 (by omega)).2
            have zy4 : w3.frozen? ⟨g, (q) * 9 + 4, none⟩ = false := (HN3.out.free _ (by omega) 4 (by omega)).2
            have zy5 : w3.frozen? ⟨g, (q) * 9 + 5, none⟩ = false := (HN3.out.free _ (by omega) 5 (by omega)).2
            have zy6 : w3.frozen? ⟨g, (q) * 9 + 6, none⟩ = false := (HN3.out.free _ (by omega) 6 (by omega)).2
            have zy7 : w3.frozen? ⟨g, (q) * 9 + 7, none⟩ = false := (HN3.out.free _ (by omega) 7 (by omega)).2
            have zy8 : w3.frozen? ⟨g, (q) * 9 + 8, none⟩ = false := (HN3.out.free _ (by omega) 8 (by omega)).2
            go_wp2_with fail
            go_region
            have HN4 := Lib.hid (HN3.out.swap j0 q (by omega) (by have := HQJ.out; omega) x y Hx.out Hy.out).drew
            have HU4 := Lib.hid (((HU3.out.sets y.cells (j0 * 9)).sets x.cells (q * 9)).drew)
            rw [ins_step u (by have := HQJ.out; omega) hji] at HN4
            have HL4 := Lib.hid (show ∀ k, q ≤ k → k < i → Tag ltE (u i) (u k) from fun k h1 h2 => by
              by_cases e : k = q
              · rw [e]; exact HTAG.out
              · exact HL.out k (by have := HQJ.out; omega) h2)
            have hqj : a ≤ q ∧ q ≤ i ∧ q < j0 := by have := HQJ.out; omega
            go_wp2_with fail
            go_roundw
            case rel => exact ⟨q, hqj.1, hqj.2.1, by go_num, HN4, HL4, HU4⟩
            case measure => simp [intOf]; omega
          | false =>
            have hneg : ¬ cmpEnt x y < 0 := by unfold ltE at hlt2; exact of_decide_eq_false hlt2
            have hlow := ins_low wk HS.out hja hji (by
              rw [← hq]
              obtain ⟨k, hk1, hk2, hk3⟩ := (HM.out (u q)).1 ⟨q, by omega, by omega, rfl⟩
              refine .inr ⟨by rw [← hxu, ← hyu]; exact hlt2, ?_⟩
              rw [← hk3, HK.out i (.inr (Nat.le_refl _))]
              exact HTG.out k i hk1 hk2 hlt)
            have HSRT := Lib.hid (HS.out.insert (f := u) haj hji hlow HL.out)
            clear hlt2 hxu hyu hq hlow
            go_wp2_with fail
            go_region_held3 (fun w' => w'.cell? ⟨g, (j0) * 9, none⟩ = some (.string x.key) ∧ w'.cell? ⟨g, (j0) * 9 + 1, none⟩ = some (.int .i64 x.win) ∧ w'.cell? ⟨g, (j0) * 9 + 2, none⟩ = some (.string x.part) ∧ w'.cell? ⟨g, (j0) * 9 + 3, none⟩ = some (.int .i64 x.fst) ∧ w'.cell? ⟨g, (j0) * 9 + 4, none⟩ = some (.int .i64 x.lst) ∧ w'.cell? ⟨g, (j0) * 9 + 5, none⟩ = some (.int .i64 x.rows) ∧ w'.cell? ⟨g, (j0) * 9 + 6, none⟩ = some (.int .i64 x.size) ∧ w'.cell? ⟨g, (j0) * 9 + 7, none⟩ = some (.int .u32 x.sum) ∧ w'.cell? ⟨g, (j0) * 9 + 8, none⟩ = some (.int .i64 x.born) ∧ w'.cell? ⟨g, (q) * 9, none⟩ = some (.string y.key) ∧ w'.cell? ⟨g, (q) * 9 + 1, none⟩ = some (.int .i64 y.win) ∧ w'.cell? ⟨g, (q) * 9 + 2, none⟩ = some (.string y.part) ∧ w'.cell? ⟨g, (q) * 9 + 3, none⟩ = some (.int .i64 y.fst) ∧ w'.cell? ⟨g, (q) * 9 + 4, none⟩ = some (.int .i64 y.lst) ∧ w'.cell? ⟨g, (q) * 9 + 5, none⟩ = some (.int .i64 y.rows) ∧ w'.cell? ⟨g, (q) * 9 + 6, none⟩ = some (.int .i64 y.size) ∧ w'.cell? ⟨g, (q) * 9 + 7, none⟩ = some (.int .u32 y.sum) ∧ w'.cell? ⟨g, (q) * 9 + 8, none⟩ = some (.int .i64 y.born)) (first | go_keep | exact ⟨(hbq.cell (p := ⟨g, (j0) * 9, none⟩) hltg).trans cx0, (hbq.cell (p := ⟨g, (j0) * 9 + 1, none⟩) hltg).trans cx1, (hbq.cell (p := ⟨g, (j0) * 9 + 2, none⟩) hltg).trans cx2, (hbq.cell (p := ⟨g, (j0) * 9 + 3, none⟩) hltg).trans cx3, (hbq.cell (p := ⟨g, (j0) * 9 + 4, none⟩) hltg).trans cx4, (hbq.cell (p := ⟨g, (j0) * 9 + 5, none⟩) hltg).trans cx5, (hbq.cell (p := ⟨g, (j0) * 9 + 6, none⟩) hltg).trans cx6, (hbq.cell (p := ⟨g, (j0) * 9 + 7, none⟩) hltg).trans cx7, (hbq.cell (p := ⟨g, (j0) * 9 + 8, none⟩) hltg).trans cx8, (hbq.cell (p := ⟨g, (q) * 9, none⟩) hltg).trans cy0, (hbq.cell (p := ⟨g, (q) * 9 + 1, none⟩) hltg).trans cy1, (hbq.cell (p := ⟨g, (q) * 9 + 2, none⟩) hltg).trans cy2, (hbq.cell (p := ⟨g, (q) * 9 + 3, none⟩) hltg).trans cy3, (hbq.cell (p := ⟨g, (q) * 9 + 4, none⟩) hltg).trans cy4, (hbq.cell (p := ⟨g, (q) * 9 + 5, none⟩) hltg).trans cy5, (hbq.cell (p := ⟨g, (q) * 9 + 6, none⟩) hltg).trans cy6, (hbq.cell (p := ⟨g, (q) * 9 + 7, none⟩) hltg).trans cy7, (hbq.cell (p := ⟨g, (q) * 9 + 8, none⟩) hltg).trans cy8⟩) (first | (go_at_call 39; refine (HCMP.out x y _).mono ?_; rintro r w3 ⟨rfl, hbq⟩))
            have HN3 := Lib.hid (HQ.out.drew.below hltg hbq)
            have HU3 := Lib.hid (HU.out.drew.below hbq)
            clear hbq cx0 cx1 cx2 cx3 cx4 cx5 cx6 cx7 cx8 cy0 cy1 cy2 cy3 cy4 cy5 cy6 cy7 cy8
            have HMEM := Lib.hid (mem_ins HM.out HK.out (by omega) haj hji)
            have HKP := Lib.hid (fun k (hk : k < a ∨ i + 1 ≤ k) => (show rot u j0 i (i + 1) k = u k from by unfold rot; rw [if_neg (by omega)]).trans (HK.out k (by omega)))
            go_wp2_with fail
            go_roundw
            case rel => exact ⟨i + 1, rot u j0 i (i + 1), by omega, by omega, by go_num, HN3, HSRT, HMEM, HKP, HU3⟩
            case measure => simp [intOf]; omega
        · have hjan : ¬ (a : Int) < (j0 : Int) := by omega
          have hlow : ∀ k, a ≤ k → k < j0 → Tag ltE (u k) (u i) := fun k h1 h2 => by omega
          have HSRT := Lib.hid (HS.out.insert (f := u) haj hji hlow HL.out)
          go_wp2_with fail
          go_region
          have HN3 := Lib.hid HQ.out.drew
          have HU3 := Lib.hid HU.out.drew
          have HMEM := Lib.hid (mem_ins HM.out HK.out (by omega) haj hji)
          have HKP := Lib.hid (fun k (hk : k < a ∨ i + 1 ≤ k) => (show rot u j0 i (i + 1) k = u k from by unfold rot; rw [if_neg (by omega)]).trans (HK.out k (by omega)))
          go_wp2_with fail
          go_roundw
          case rel => exact ⟨i + 1, rot u j0 i (i + 1), by omega, by omega, by go_num, HN3, HSRT, HMEM, HKP, HU3⟩
          case measure => simp [intOf]; omega
    · obtain rfl : i = b := by omega
      go_wp2_with fail
      first | go_end0 | refine bodyPost_ret (results_none rfl _ _ _) rfl ?_
      exact ⟨rfl, ⟨u, HN.out, HS.out, HM.out, HK.out⟩, HT.out⟩
end Go.Proofs.Yteihbbmbdkkbbaa
