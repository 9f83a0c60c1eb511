/- Insertion (slices.insertionSortCmpFunc) over rows. Written by genins.py. -/
import Derived.Test.YtjbljplgkbnpmaaRot
import Derived.Test.YtjbljplgkbnpmaaRowCmp
import Derived.Deep.RegionHeld3
namespace Go.Proofs.Ytjbljplgkbnpmaa
open Go.ChangeShapes Go.WideShapes Go.Deep Go.RowKit Stab
set_option linter.unusedVariables false

def ltR (x y : RowV) : Bool := decide (cmpRow x y < 0)
def vals (t : Nat → RowV × Nat) : Nat → RowV := fun k => (t k).1
theorem Nines.below {w w' : World} {g n : Nat} {f : Nat → RowV} (h : Nines w g n f) (hg : g < w.heap.size) (hb : Below w.heap.size w w') : Nines w' g n f :=
  ⟨fun i hi j v hv => (hb.cell (p := ⟨g, i * 9 + j, none⟩) hg).trans (h.at' i hi j v hv), fun i hi j hj => ⟨by rw [hb.cell (p := ⟨g, i * 9 + j, none⟩) hg]; exact (h.free i hi j hj).1, by rw [hb.frozen (p := ⟨g, i * 9 + j, none⟩) hg]; exact (h.free i hi j hj).2⟩⟩
theorem vals_swp (t : Nat → RowV × Nat) (p q : Nat) : vals (swp t p q) = swp (vals t) p q := by
  funext k; unfold vals swp; repeat' split
  all_goals rfl
/-- of the elder and the younger: what of l up to j is not above the one at i -/
theorem ins_low {t : Nat → RowV × Nat} (wk : Weak ltR) {a j i : Nat} (hs : Srt (Tag ltR) t a i) (hj : a < j) (hji : j ≤ i) (h : Tag ltR (t (j - 1)) (t i)) : ∀ k, a ≤ k → k < j → Tag ltR (t k) (t i) := fun k hk hkj => by
  by_cases e : k = j - 1
  · rw [e]; exact h
  · exact wk.tag_tr _ _ _ (hs k (j - 1) hk (by omega) (by omega)) h

theorem ins_step (u : Nat → RowV × Nat) {q j0 i : Nat} (hq : q + 1 = j0) (h : j0 ≤ i) : swp (vals (rot u j0 i (i + 1))) j0 q = vals (rot u q i (i + 1)) := by
  subst hq
  rw [← vals_swp, rot_left u q i h]
theorem mem_ins {α : Type} {u t : Nat → α} {a i j : Nat} (hm : ∀ x, Mem u a i x ↔ Mem t a i x) (hk : ∀ k, k < a ∨ i ≤ k → u k = t k) (hai : a ≤ i) (haj : a ≤ j) (hji : j ≤ i) : ∀ x, Mem (rot u j i (i + 1)) a (i + 1) x ↔ Mem t a (i + 1) x := fun x => by
  rw [mem_cut (rot u j i (i + 1)) a j (i + 1) haj (by omega), mem_congr (f := u) (g := rot u j i (i + 1)) (a := a) (b := j) (fun k h1 h2 => by unfold rot; rw [if_neg (by omega)]), mem_rot u j i (i + 1) hji (by omega), ← mem_cut u a j (i + 1) haj (by omega), mem_cut u a i (i + 1) hai (by omega), mem_cut t a i (i + 1) hai (by omega), hm x, mem_congr (f := t) (g := u) (a := i) (b := i + 1) (fun k h1 h2 => hk k (.inr h1))]

set_option maxRecDepth 100000 in
set_option maxHeartbeats 4000000 in
theorem ins_any (wk : Weak ltR) (hcmp : ∀ (x y : RowV) (w : World), Calls Try.prog 43 #[.agg #[.int .i64 x.r.kind, .int .i64 x.r.time, .slice x.r.la x.r.ln x.r.lc, .string x.r.text, .int .i64 x.r.value, .bool x.r.null, .int .i64 x.who, .int .i64 x.sq, .int .i64 x.pl], .agg #[.int .i64 y.r.kind, .int .i64 y.r.time, .slice y.r.la y.r.ln y.r.lc, .string y.r.text, .int .i64 y.r.value, .bool y.r.null, .int .i64 y.who, .int .i64 y.sq, .int .i64 y.pl]] w fun e w' => e = .returned (.int .i64 (cmpRow x y)) ∧ Below w.heap.size w w') {w : World} {g n c : Nat} {t : Nat → RowV × Nat} {a b : Nat} (h : Nines w g n (vals t)) (hg : g < w.heap.size) (hab : a < b) (hb : b ≤ n) (hc : n ≤ c) (hcm : c ≤ 9223372036854775806) (ht : ∀ i j, a ≤ i → i < j → j < b → (t i).2 < (t j).2) :
    Calls Try.prog 111 #[.slice (some ⟨g, 0, none⟩) n c, .int .i64 (a : Int), .int .i64 (b : Int), .func (.func 43) #[] #[]] w fun e w' => e = .returned undef ∧ (∃ u, Nines w' g n (vals u) ∧ Srt (Tag ltR) u a b ∧ (∀ x, Mem u a b x ↔ Mem t a b x) ∧ ∀ k, k < a ∨ b ≤ k → u k = t k) ∧ Turns1 g w w' := by
  have H := Lib.hid h
  have HTG := Lib.hid ht
  have HCMP := Lib.hid hcmp
  clear h ht hcmp
  go_enter Try.func111, Try.ntmps111
  go_wp2_with fail
  go_loopw [8, 9] (fun s8 s9 wr => ∃ (i : Nat) (u : Nat → RowV × Nat), a + 1 ≤ i ∧ i ≤ b ∧ s8 = .int .i64 (i : Int) ∧ Hid (Nines wr g n (vals u)) ∧ Hid (Srt (Tag ltR) u a i) ∧ Hid (∀ x, Mem u a i x ↔ Mem t a i x) ∧ Hid (∀ k, k < a ∨ i ≤ k → u k = t k) ∧ Hid (Turns1 g w wr)) (fun s8 _ _ => b - (intOf s8).toNat)
  case atStart => exact ⟨a + 1, t, by omega, by omega, by go_num, H, Lib.hid (fun i j hi hij hj => by omega), Lib.hid (fun x => Iff.rfl), Lib.hid (fun _ _ => rfl), Lib.hid (Turns1.refl g w)⟩
  case round =>
    obtain ⟨i, u, hai, hib, rfl, HN, HS, HM, HK, HT⟩ := hrel
    rename World => wr
    by_cases hlt : i < b
    · have hlti : (i : Int) < (b : Int) := by omega
      go_wp2_with fail
      go_loopw [9] (fun s9 wq => ∃ j : Nat, a ≤ j ∧ j ≤ i ∧ s9 = .int .i64 (j : Int) ∧ Hid (Nines wq g n (vals (rot u j i (i + 1)))) ∧ Hid (∀ k, j ≤ k → k < i → Tag ltR (u i) (u k)) ∧ Hid (Turns1 g w wq)) (fun s9 _ => (intOf s9).toNat)
      case atStart => exact ⟨i, by omega, by omega, rfl, by rw [rot_none' u i (i + 1) (by omega)]; exact HN, Lib.hid (fun k h1 h2 => by omega), HT⟩
      case round =>
        obtain ⟨j0, haj, hji, rfl, HQ, HL, HU⟩ := hrel
        rename World => wq
        by_cases hja : a < j0
        · have hjai : (a : Int) < (j0 : Int) := by omega
          have hjn : (j0 : Int) < (n : Int) := by omega
          obtain ⟨q, hq⟩ : ∃ q, q = j0 - 1 := ⟨_, rfl⟩
          have wj : IntKind.i64.wrap ((j0 : Int) - 1) = (q : Int) := by rw [IntWalk.i64_in _ (by omega)]; omega
          have wjn : (q : Int) < (n : Int) := by omega
          have hjq1 : ¬ j0 = q := by omega
          have hjq2 : ¬ q = j0 := by omega
          have e1 : rot u j0 i (i + 1) j0 = u i := by unfold rot; rw [if_pos (by omega), if_pos (by omega)]; exact at_eq u (by omega)
          have e2 : rot u j0 i (i + 1) q = u q := by unfold rot; rw [if_neg (by omega)]
          obtain ⟨x, hx⟩ : ∃ x, x = vals (rot u j0 i (i + 1)) j0 := ⟨_, rfl⟩
          obtain ⟨y, hy⟩ : ∃ y, y = vals (rot u j0 i (i + 1)) q := ⟨_, rfl⟩
          have hxu : x = (u i).1 := by rw [hx]; unfold vals; rw [e1]
          have hyu : y = (u q).1 := by rw [hy]; unfold vals; rw [e2]
          have Hx := Lib.hid hx
          have Hy := Lib.hid hy
          clear hx hy e1 e2
          have hltg : g < wq.heap.size := Nat.lt_of_lt_of_le hg HU.out.size
          have cx0 : wq.cell? ⟨g, (j0) * 9, none⟩ = some (.int .i64 x.r.kind) := HQ.out.at' _ (by omega) 0 _ (by rw [← Hx.out]; rfl)
          have cx1 : wq.cell? ⟨g, (j0) * 9 + 1, none⟩ = some (.int .i64 x.r.time) := HQ.out.at' _ (by omega) 1 _ (by rw [← Hx.out]; rfl)
          have cx2 : wq.cell? ⟨g, (j0) * 9 + 2, none⟩ = some (.slice x.r.la x.r.ln x.r.lc) := HQ.out.at' _ (by omega) 2 _ (by rw [← Hx.out]; rfl)
          have cx3 : wq.cell? ⟨g, (j0) * 9 + 3, none⟩ = some (.string x.r.text) := HQ.out.at' _ (by omega) 3 _ (by rw [← Hx.out]; rfl)
          have cx4 : wq.cell? ⟨g, (j0) * 9 + 4, none⟩ = some (.int .i64 x.r.value) := HQ.out.at' _ (by omega) 4 _ (by rw [← Hx.out]; rfl)
          have cx5 : wq.cell? ⟨g, (j0) * 9 + 5, none⟩ = some (.bool x.r.null) := HQ.out.at' _ (by omega) 5 _ (by rw [← Hx.out]; rfl)
          have cx6 : wq.cell? ⟨g, (j0) * 9 + 6, none⟩ = some (.int .i64 x.who) := HQ.out.at' _ (by omega) 6 _ (by rw [← Hx.out]; rfl)
          have cx7 : wq.cell? ⟨g, (j0) * 9 + 7, none⟩ = some (.int .i64 x.sq) := HQ.out.at' _ (by omega) 7 _ (by rw [← Hx.out]; rfl)
          have cx8 : wq.cell? ⟨g, (j0) * 9 + 8, none⟩ = some (.int .i64 x.pl) := HQ.out.at' _ (by omega) 8 _ (by rw [← Hx.out]; rfl)
          have cy0 : wq.cell? ⟨g, (q) * 9, none⟩ = some (.int .i64 y.r.kind) := HQ.out.at' _ (by omega) 0 _ (by rw [← Hy.out]; rfl)
          have cy1 : wq.cell? ⟨g, (q) * 9 + 1, none⟩ = some (.int .i64 y.r.time) := HQ.out.at' _ (by omega) 1 _ (by rw [← Hy.out]; rfl)
          have cy2 : wq.cell? ⟨g, (q) * 9 + 2, none⟩ = some (.slice y.r.la y.r.ln y.r.lc) := HQ.out.at' _ (by omega) 2 _ (by rw [← Hy.out]; rfl)
          have cy3 : wq.cell? ⟨g, (q) * 9 + 3, none⟩ = some (.string y.r.text) := HQ.out.at' _ (by omega) 3 _ (by rw [← Hy.out]; rfl)
          have cy4 : wq.cell? ⟨g, (q) * 9 + 4, none⟩ = some (.int .i64 y.r.value) := HQ.out.at' _ (by omega) 4 _ (by rw [← Hy.out]; rfl)
          have cy5 : wq.cell? ⟨g, (q) * 9 + 5, none⟩ = some (.bool y.r.null) := HQ.out.at' _ (by omega) 5 _ (by rw [← Hy.out]; rfl)
          have cy6 : wq.cell? ⟨g, (q) * 9 + 6, none⟩ = some (.int .i64 y.who) := HQ.out.at' _ (by omega) 6 _ (by rw [← Hy.out]; rfl)
          have cy7 : wq.cell? ⟨g, (q) * 9 + 7, none⟩ = some (.int .i64 y.sq) := HQ.out.at' _ (by omega) 7 _ (by rw [← Hy.out]; rfl)
          have cy8 : wq.cell? ⟨g, (q) * 9 + 8, none⟩ = some (.int .i64 y.pl) := HQ.out.at' _ (by omega) 8 _ (by rw [← Hy.out]; rfl)
          cases hlt2 : ltR x y with
          | true =>
            have hneg : cmpRow x y < 0 := by unfold ltR at hlt2; exact of_decide_eq_true hlt2
            have HTAG := Lib.hid (show Tag ltR (u i) (u q) from .inl (by rw [← hxu, ← hyu]; exact hlt2))
            clear hlt2
            have HXU := Lib.hid hxu
            have HYU := Lib.hid hyu
            have HQJ := Lib.hid hq
            clear hxu hyu hq
            go_wp2_with fail
            go_region_held3 (fun w' => w'.cell? ⟨g, (j0) * 9, none⟩ = some (.int .i64 x.r.kind) ∧ w'.cell? ⟨g, (j0) * 9 + 1, none⟩ = some (.int .i64 x.r.time) ∧ w'.cell? ⟨g, (j0) * 9 + 2, none⟩ = some (.slice x.r.la x.r.ln x.r.lc) ∧ w'.cell? ⟨g, (j0) * 9 + 3, none⟩ = some (.string x.r.text) ∧ w'.cell? ⟨g, (j0) * 9 + 4, none⟩ = some (.int .i64 x.r.value) ∧ w'.cell? ⟨g, (j0) * 9 + 5, none⟩ = some (.bool x.r.null) ∧ w'.cell? ⟨g, (j0) * 9 + 6, none⟩ = some (.int .i64 x.who) ∧ w'.cell? ⟨g, (j0) * 9 + 7, none⟩ = some (.int .i64 x.sq) ∧ w'.cell? ⟨g, (j0) * 9 + 8, none⟩ = some (.int .i64 x.pl) ∧ w'.cell? ⟨g, (q) * 9, none⟩ = some (.int .i64 y.r.kind) ∧ w'.cell? ⟨g, (q) * 9 + 1, none⟩ = some (.int .i64 y.r.time) ∧ w'.cell? ⟨g, (q) * 9 + 2, none⟩ = some (.slice y.r.la y.r.ln y.r.lc) ∧ w'.cell? ⟨g, (q) * 9 + 3, none⟩ = some (.string y.r.text) ∧ w'.cell? ⟨g, (q) * 9 + 4, none⟩ = some (.int .i64 y.r.value) ∧ w'.cell? ⟨g, (q) * 9 + 5, none⟩ = some (.bool y.r.null) ∧ w'.cell? ⟨g, (q) * 9 + 6, none⟩ = some (.int .i64 y.who) ∧ w'.cell? ⟨g, (q) * 9 + 7, none⟩ = some (.int .i64 y.sq) ∧ w'.cell? ⟨g, (q) * 9 + 8, none⟩ = some (.int .i64 y.pl)) (first | go_keep | exact ⟨(hbq.cell (p := ⟨g, (j0) * 9, none⟩) hltg).trans cx0, (hbq.cell (p := ⟨g, (j0) * 9 + 1, none⟩) hltg).trans cx1, (hbq.cell (p := ⟨g, (j0) * 9 + 2, none⟩) hltg).trans cx2, (hbq.cell (p := ⟨g, (j0) * 9 + 3, none⟩) hltg).trans cx3, (hbq.cell (p := ⟨g, (j0) * 9 + 4, none⟩) hltg).trans cx4, (hbq.cell (p := ⟨g, (j0) * 9 + 5, none⟩) hltg).trans cx5, (hbq.cell (p := ⟨g, (j0) * 9 + 6, none⟩) hltg).trans cx6, (hbq.cell (p := ⟨g, (j0) * 9 + 7, none⟩) hltg).trans cx7, (hbq.cell (p := ⟨g, (j0) * 9 + 8, none⟩) hltg).trans cx8, (hbq.cell (p := ⟨g, (q) * 9, none⟩) hltg).trans cy0, (hbq.cell (p := ⟨g, (q) * 9 + 1, none⟩) hltg).trans cy1, (hbq.cell (p := ⟨g, (q) * 9 + 2, none⟩) hltg).trans cy2, (hbq.cell (p := ⟨g, (q) * 9 + 3, none⟩) hltg).trans cy3, (hbq.cell (p := ⟨g, (q) * 9 + 4, none⟩) hltg).trans cy4, (hbq.cell (p := ⟨g, (q) * 9 + 5, none⟩) hltg).trans cy5, (hbq.cell (p := ⟨g, (q) * 9 + 6, none⟩) hltg).trans cy6, (hbq.cell (p := ⟨g, (q) * 9 + 7, none⟩) hltg).trans cy7, (hbq.cell (p := ⟨g, (q) * 9 + 8, none⟩) hltg).trans cy8⟩) (first | (go_at_call 43; refine (HCMP.out x y _).mono ?_; rintro r w3 ⟨rfl, hbq⟩))
            have HN3 := Lib.hid (HQ.out.drew.below hltg hbq)
            have HU3 := Lib.hid (HU.out.drew.below hbq)
            clear hbq cx0 cx1 cx2 cx3 cx4 cx5 cx6 cx7 cx8 cy0 cy1 cy2 cy3 cy4 cy5 cy6 cy7 cy8
            have cx0 : w3.cell? ⟨g, (j0) * 9, none⟩ = some (.int .i64 x.r.kind) := HN3.out.at' _ (by omega) 0 _ (by rw [← Hx.out]; rfl)
            have cx1 : w3.cell? ⟨g, (j0) * 9 + 1, none⟩ = some (.int .i64 x.r.time) := HN3.out.at' _ (by omega) 1 _ (by rw [← Hx.out]; rfl)
            have cx2 : w3.cell? ⟨g, (j0) * 9 + 2, none⟩ = some (.slice x.r.la x.r.ln x.r.lc) := HN3.out.at' _ (by omega) 2 _ (by rw [← Hx.out]; rfl)
            have cx3 : w3.cell? ⟨g, (j0) * 9 + 3, none⟩ = some (.string x.r.text) := HN3.out.at' _ (by omega) 3 _ (by rw [← Hx.out]; rfl)
            have cx4 : w3.cell? ⟨g, (j0) * 9 + 4, none⟩ = some (.int .i64 x.r.value) := HN3.out.at' _ (by omega) 4 _ (by rw [← Hx.out]; rfl)
            have cx5 : w3.cell? ⟨g, (j0) * 9 + 5, none⟩ = some (.bool x.r.null) := HN3.out.at' _ (by omega) 5 _ (by rw [← Hx.out]; rfl)
            have cx6 : w3.cell? ⟨g, (j0) * 9 + 6, none⟩ = some (.int .i64 x.who) := HN3.out.at' _ (by omega) 6 _ (by rw [← Hx.out]; rfl)
            have cx7 : w3.cell? ⟨g, (j0) * 9 + 7, none⟩ = some (.int .i64 x.sq) := HN3.out.at' _ (by omega) 7 _ (by rw [← Hx.out]; rfl)
            have cx8 : w3.cell? ⟨g, (j0) * 9 + 8, none⟩ = some (.int .i64 x.pl) := HN3.out.at' _ (by omega) 8 _ (by rw [← Hx.out]; rfl)
            have zx0 : w3.frozen? ⟨g, (j0) * 9, none⟩ = false := (HN3.out.free _ (by omega) 0 (by omega)).2
            have zx1 : w3.frozen? ⟨g, (j0) * 9 + 1, none⟩ = false := (HN3.out.free _ (by omega) 1 (by omega)).2
            have zx2 : w3.frozen? ⟨g, (j0) * 9 + 2, none⟩ = false := (HN3.out.free _ (by omega) 2 (by omega)).2
            have zx3 : w3.frozen? ⟨g, (j0) * 9 + 3, none⟩ = false := (HN3.out.free _ (by omega) 3 (by omega)).2
            have zx4 : w3.frozen? ⟨g, (j0) * 9 + 4, none⟩ = false := (HN3.out.free _ (by omega) 4 (by omega)).2
            have zx5 : w3.frozen? ⟨g, (j0) * 9 + 5, none⟩ = false := (HN3.out.free _ (by omega) 5 (by omega)).2
            have zx6 : w3.frozen? ⟨g, (j0) * 9 + 6, none⟩ = false := (HN3.out.free _ (by omega) 6 (by omega)).2
            have zx7 : w3.frozen? ⟨g, (j0) * 9 + 7, none⟩ = false := (HN3.out.free _ (by omega) 7 (by omega)).2
            have zx8 : w3.frozen? ⟨g, (j0) * 9 + 8, none⟩ = false := (HN3.out.free _ (by omega) 8 (by omega)).2
            have cy0 : w3.cell? ⟨g, (q) * 9, none⟩ = some (.int .i64 y.r.kind) := HN3.out.at' _ (by omega) 0 _ (by rw [← Hy.out]; rfl)
            have cy1 : w3.cell? ⟨g, (q) * 9 + 1, none⟩ = some (.int .i64 y.r.time) := HN3.out.at' _ (by omega) 1 _ (by rw [← Hy.out]; rfl)
            have cy2 : w3.cell? ⟨g, (q) * 9 + 2, none⟩ = some (.slice y.r.la y.r.ln y.r.lc) := HN3.out.at' _ (by omega) 2 _ (by rw [← Hy.out]; rfl)
            have cy3 : w3.cell? ⟨g, (q) * 9 + 3, none⟩ = some (.string y.r.text) := HN3.out.at' _ (by omega) 3 _ (by rw [← Hy.out]; rfl)
            have cy4 : w3.cell? ⟨g, (q) * 9 + 4, none⟩ = some (.int .i64 y.r.value) := HN3.out.at' _ (by omega) 4 _ (by rw [← Hy.out]; rfl)
            have cy5 : w3.cell? ⟨g, (q) * 9 + 5, none⟩ = some (.bool y.r.null) := HN3.out.at' _ (by omega) 5 _ (by rw [← Hy.out]; rfl)
            have cy6 : w3.cell? ⟨g, (q) * 9 + 6, none⟩ = some (.int .i64 y.who) := HN3.out.at' _ (by omega) 6 _ (by rw [← Hy.out]; rfl)
            have cy7 : w3.cell? ⟨g, (q) * 9 + 7, none⟩ = some (.int .i64 y.sq) := HN3.out.at' _ (by omega) 7 _ (by rw [← Hy.out]; rfl)
            have cy8 : w3.cell? ⟨g, (q) * 9 + 8, none⟩ = some (.int .i64 y.pl) := HN3.out.at' _ (by omega) 8 _ (by rw [← Hy.out]; rfl)
            have zy0 : w3.frozen? ⟨g, (q) * 9, none⟩ = false := (HN3.out.free _ (by omega) 0 (by omega)).2
            have zy1 : w3.frozen? ⟨g, (q) * 9 + 1, none⟩ = false := (HN3.out.free _ (by omega) 1 (by omega)).2
            have zy2 : w3.frozen? ⟨g, (q) * 9 + 2, none⟩ = false := (HN3.out.free _ (by omega) 2 (by omega)).2
            have zy3 : w3.frozen? ⟨g, (q) * 9 + 3, none⟩ = false := (HN3.out.free _ (by omega) 3 (by omega)).2
            have zy4 : w3.frozen? ⟨g, (q) * 9 + 4, none⟩ = false := (HN3.out.free _ (by omega) 4 (by omega)).2
            have zy5 : w3.frozen? ⟨g, (q) * 9 + 5, none⟩ = false := (HN3.out.free _ (by omega) 5 (by omega)).2
            have zy6 : w3.frozen? ⟨g, (q) * 9 + 6, none⟩ = false := (HN3.out.free _ (by omega) 6 (by omega)).2
            have zy7 : w3.frozen? ⟨g, (q) * 9 + 7, none⟩ = false := (HN3.out.free _ (by omega) 7 (by omega)).2
            have zy8 : w3.frozen? ⟨g, (q) * 9 + 8, none⟩ = false := (HN3.out.free _ (by omega) 8 (by omega)).2
            go_wp2_with fail
            go_region
            have HN4 := Lib.hid (HN3.out.swap j0 q (by omega) (by have := HQJ.out; omega) x y Hx.out Hy.out).drew
            have HU4 := Lib.hid (((HU3.out.sets y.cells (j0 * 9)).sets x.cells (q * 9)).drew)
            rw [ins_step u (by have := HQJ.out; omega) hji] at HN4
            have HL4 := Lib.hid (show ∀ k, q ≤ k → k < i → Tag ltR (u i) (u k) from fun k h1 h2 => by
              by_cases e : k = q
              · rw [e]; exact HTAG.out
              · exact HL.out k (by have := HQJ.out; omega) h2)
            have hqj : a ≤ q ∧ q ≤ i ∧ q < j0 := by have := HQJ.out; omega
            go_wp2_with fail
            go_roundw
            case rel => exact ⟨q, hqj.1, hqj.2.1, by go_num, HN4, HL4, HU4⟩
            case measure => simp [intOf]; omega
          | false =>
            have hneg : ¬ cmpRow x y < 0 := by unfold ltR at hlt2; exact of_decide_eq_false hlt2
            have hlow := ins_low wk HS.out hja hji (by
              rw [← hq]
              obtain ⟨k, hk1, hk2, hk3⟩ := (HM.out (u q)).1 ⟨q, by omega, by omega, rfl⟩
              refine .inr ⟨by rw [← hxu, ← hyu]; exact hlt2, ?_⟩
              rw [← hk3, HK.out i (.inr (Nat.le_refl _))]
              exact HTG.out k i hk1 hk2 hlt)
            have HSRT := Lib.hid (HS.out.insert (f := u) haj hji hlow HL.out)
            clear hlt2 hxu hyu hq hlow
            go_wp2_with fail
            go_region_held3 (fun w' => w'.cell? ⟨g, (j0) * 9, none⟩ = some (.int .i64 x.r.kind) ∧ w'.cell? ⟨g, (j0) * 9 + 1, none⟩ = some (.int .i64 x.r.time) ∧ w'.cell? ⟨g, (j0) * 9 + 2, none⟩ = some (.slice x.r.la x.r.ln x.r.lc) ∧ w'.cell? ⟨g, (j0) * 9 + 3, none⟩ = some (.string x.r.text) ∧ w'.cell? ⟨g, (j0) * 9 + 4, none⟩ = some (.int .i64 x.r.value) ∧ w'.cell? ⟨g, (j0) * 9 + 5, none⟩ = some (.bool x.r.null) ∧ w'.cell? ⟨g, (j0) * 9 + 6, none⟩ = some (.int .i64 x.who) ∧ w'.cell? ⟨g, (j0) * 9 + 7, none⟩ = some (.int .i64 x.sq) ∧ w'.cell? ⟨g, (j0) * 9 + 8, none⟩ = some (.int .i64 x.pl) ∧ w'.cell? ⟨g, (q) * 9, none⟩ = some (.int .i64 y.r.kind) ∧ w'.cell? ⟨g, (q) * 9 + 1, none⟩ = some (.int .i64 y.r.time) ∧ w'.cell? ⟨g, (q) * 9 + 2, none⟩ = some (.slice y.r.la y.r.ln y.r.lc) ∧ w'.cell? ⟨g, (q) * 9 + 3, none⟩ = some (.string y.r.text) ∧ w'.cell? ⟨g, (q) * 9 + 4, none⟩ = some (.int .i64 y.r.value) ∧ w'.cell? ⟨g, (q) * 9 + 5, none⟩ = some (.bool y.r.null) ∧ w'.cell? ⟨g, (q) * 9 + 6, none⟩ = some (.int .i64 y.who) ∧ w'.cell? ⟨g, (q) * 9 + 7, none⟩ = some (.int .i64 y.sq) ∧ w'.cell? ⟨g, (q) * 9 + 8, none⟩ = some (.int .i64 y.pl)) (first | go_keep | exact ⟨(hbq.cell (p := ⟨g, (j0) * 9, none⟩) hltg).trans cx0, (hbq.cell (p := ⟨g, (j0) * 9 + 1, none⟩) hltg).trans cx1, (hbq.cell (p := ⟨g, (j0) * 9 + 2, none⟩) hltg).trans cx2, (hbq.cell (p := ⟨g, (j0) * 9 + 3, none⟩) hltg).trans cx3, (hbq.cell (p := ⟨g, (j0) * 9 + 4, none⟩) hltg).trans cx4, (hbq.cell (p := ⟨g, (j0) * 9 + 5, none⟩) hltg).trans cx5, (hbq.cell (p := ⟨g, (j0) * 9 + 6, none⟩) hltg).trans cx6, (hbq.cell (p := ⟨g, (j0) * 9 + 7, none⟩) hltg).trans cx7, (hbq.cell (p := ⟨g, (j0) * 9 + 8, none⟩) hltg).trans cx8, (hbq.cell (p := ⟨g, (q) * 9, none⟩) hltg).trans cy0, (hbq.cell (p := ⟨g, (q) * 9 + 1, none⟩) hltg).trans cy1, (hbq.cell (p := ⟨g, (q) * 9 + 2, none⟩) hltg).trans cy2, (hbq.cell (p := ⟨g, (q) * 9 + 3, none⟩) hltg).trans cy3, (hbq.cell (p := ⟨g, (q) * 9 + 4, none⟩) hltg).trans cy4, (hbq.cell (p := ⟨g, (q) * 9 + 5, none⟩) hltg).trans cy5, (hbq.cell (p := ⟨g, (q) * 9 + 6, none⟩) hltg).trans cy6, (hbq.cell (p := ⟨g, (q) * 9 + 7, none⟩) hltg).trans cy7, (hbq.cell (p := ⟨g, (q) * 9 + 8, none⟩) hltg).trans cy8⟩) (first | (go_at_call 43; refine (HCMP.out x y _).mono ?_; rintro r w3 ⟨rfl, hbq⟩))
            have HN3 := Lib.hid (HQ.out.drew.below hltg hbq)
            have HU3 := Lib.hid (HU.out.drew.below hbq)
            clear hbq cx0 cx1 cx2 cx3 cx4 cx5 cx6 cx7 cx8 cy0 cy1 cy2 cy3 cy4 cy5 cy6 cy7 cy8
            have HMEM := Lib.hid (mem_ins HM.out HK.out (by omega) haj hji)
            have HKP := Lib.hid (fun k (hk : k < a ∨ i + 1 ≤ k) => (show rot u j0 i (i + 1) k = u k from by unfold rot; rw [if_neg (by omega)]).trans (HK.out k (by omega)))
            go_wp2_with fail
            go_roundw
            case rel => exact ⟨i + 1, rot u j0 i (i + 1), by omega, by omega, by go_num, HN3, HSRT, HMEM, HKP, HU3⟩
            case measure => simp [intOf]; omega
        · have hjan : ¬ (a : Int) < (j0 : Int) := by omega
          have hlow : ∀ k, a ≤ k → k < j0 → Tag ltR (u k) (u i) := fun k h1 h2 => by omega
          have HSRT := Lib.hid (HS.out.insert (f := u) haj hji hlow HL.out)
          go_wp2_with fail
          go_region
          have HN3 := Lib.hid HQ.out.drew
          have HU3 := Lib.hid HU.out.drew
          have HMEM := Lib.hid (mem_ins HM.out HK.out (by omega) haj hji)
          have HKP := Lib.hid (fun k (hk : k < a ∨ i + 1 ≤ k) => (show rot u j0 i (i + 1) k = u k from by unfold rot; rw [if_neg (by omega)]).trans (HK.out k (by omega)))
          go_wp2_with fail
          go_roundw
          case rel => exact ⟨i + 1, rot u j0 i (i + 1), by omega, by omega, by go_num, HN3, HSRT, HMEM, HKP, HU3⟩
          case measure => simp [intOf]; omega
    · obtain rfl : i = b := by omega
      go_wp2_with fail
      first | go_end0 | refine bodyPost_ret (results_none rfl _ _ _) rfl ?_
      exact ⟨rfl, ⟨u, HN.out, HS.out, HM.out, HK.out⟩, HT.out⟩
end Go.Proofs.Ytjbljplgkbnpmaa
