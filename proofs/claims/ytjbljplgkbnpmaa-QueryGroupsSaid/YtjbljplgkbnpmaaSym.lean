/- symMerge (slices.symMergeCmpFunc) over rows, all. Written by gensym.py. -/
import Derived.Test.YtjbljplgkbnpmaaSymLast
namespace Go.Proofs.Ytjbljplgkbnpmaa
open Go.ChangeShapes Go.WideShapes Go.Deep Go.RowKit Stab
set_option linter.unusedVariables false

theorem vals_rot (t : Nat → RowV × Nat) (s m e : Nat) : rot (vals t) s m e = vals (rot t s m e) := by
  funext k; unfold vals rot; repeat' split
  all_goals rfl
/-- what is known behind the turn: four stretches in order, the first two below the other two -/
structure Cut4 (t v : Nat → RowV × Nat) (a s mid e b : Nat) : Prop where
  one : Srt (Tag ltR) v a s
  two : Srt (Tag ltR) v s mid
  three : Srt (Tag ltR) v mid e
  four : Srt (Tag ltR) v e b
  low : ∀ x y, Mem v a mid x → Mem v mid b y → Tag ltR x y
  mem : ∀ x, Mem v a b x ↔ Mem t a b x
  out : ∀ k, k < a ∨ b ≤ k → v k = t k
  young1 : ∀ i j, a ≤ i → i < s → s ≤ j → j < mid → (v i).2 < (v j).2
  young2 : ∀ i j, mid ≤ i → i < e → e ≤ j → j < b → (v i).2 < (v j).2
theorem cut4 {t : Nat → RowV × Nat} {a m b s mid e : Nat} (h1 : Srt (Tag ltR) t a m) (h2 : Srt (Tag ltR) t m b) (has : a ≤ s) (hsm : s ≤ m) (hme : m ≤ e) (heb : e ≤ b) (hmid : s + (e - m) = mid)
    (hlo : a < s → e < b → Tag ltR (t (s - 1)) (t e)) (hhi : s < m → m < e → Tag ltR (t (e - 1)) (t s)) (hy : ∀ i j, a ≤ i → i < m → m ≤ j → j < b → (t i).2 < (t j).2) : Cut4 t (rot t s m e) a s mid e b := by
  subst hmid
  obtain ⟨k1, k2, k3, k4, k5⟩ := h1.cut weak_ltR.tag_tr h2 has hsm hme heb hlo hhi
  have below : ∀ i, i < s → rot t s m e i = t i := fun i h => by unfold rot; rw [if_neg (by omega)]
  have above : ∀ i, e ≤ i → rot t s m e i = t i := fun i h => by unfold rot; rw [if_neg (by omega)]
  have one : ∀ i, s ≤ i → i < s + (e - m) → rot t s m e i = t (i + (m - s)) := fun i h h' => by unfold rot; rw [if_pos (by omega), if_pos h']
  have two : ∀ i, s + (e - m) ≤ i → i < e → rot t s m e i = t (i - (e - m)) := fun i h h' => by unfold rot; rw [if_pos (by omega), if_neg (by omega)]
  refine ⟨k1, k2, k3, k4, k5, mem_more (mem_rot t s m e hsm hme) (fun k h => by unfold rot; rw [if_neg (by omega)]) has (by omega) heb, fun k h => by unfold rot; rw [if_neg (by omega)], ?_, ?_⟩
  · intro i j hi his hj hjm
    rw [below i his, one j hj hjm]
    exact hy _ _ hi (by omega) (by omega) (by omega)
  · intro i j hi hie hj hjb
    rw [two i hi hie, above j hj]
    exact hy _ _ (by omega) (by omega) (by omega) hjb
def Half (v u : Nat → RowV × Nat) (a b : Nat) : Prop := Srt (Tag ltR) u a b ∧ (∀ x, Mem u a b x ↔ Mem v a b x) ∧ ∀ k, k < a ∨ b ≤ k → u k = v k
theorem Half.refl {v : Nat → RowV × Nat} {a b : Nat} (h : Srt (Tag ltR) v a b) : Half v v a b := ⟨h, fun _ => Iff.rfl, fun _ _ => rfl⟩
theorem Cut4.done {t v u1 u2 : Nat → RowV × Nat} {a s mid e b : Nat} (h : Cut4 t v a s mid e b) (h1 : Half v u1 a mid) (h2 : Half u1 u2 mid b) (ham : a ≤ mid) (hmb : mid ≤ b) : Srt (Tag ltR) u2 a b ∧ (∀ x, Mem u2 a b x ↔ Mem t a b x) ∧ ∀ k, k < a ∨ b ≤ k → u2 k = t k := by
  obtain ⟨s1, m1, o1⟩ := h1
  obtain ⟨s2, m2, o2⟩ := h2
  have e1 : ∀ x, Mem u2 a mid x ↔ Mem v a mid x := fun x => by rw [mem_congr (f := u1) (g := u2) (fun k _ hk => o2 k (.inl hk)), m1 x]
  have e2 : ∀ x, Mem u2 mid b x ↔ Mem v mid b x := fun x => by rw [m2 x, mem_congr (f := v) (g := u1) (fun k hk _ => o1 k (.inr hk))]
  refine ⟨Srt.join (m := mid) (s1.congr (fun i _ hi => o2 i (.inl hi))) s2 (fun x y hx hy => h.low x y ((e1 x).1 hx) ((e2 y).1 hy)), fun x => ?_, fun k hk => ?_⟩
  · rw [mem_cut u2 a mid b ham hmb, e1 x, e2 x, ← mem_cut v a mid b ham hmb, h.mem x]
  · rw [o2 k (by omega), o1 k (by omega), h.out k hk]

set_option maxRecDepth 100000 in
set_option maxHeartbeats 16000000 in
theorem sym_all : ∀ (d : Nat) (w : World) (g n c : Nat) (t : Nat → RowV × Nat) (a m b : Nat), b - a ≤ d → Nines w g n (vals t) → g < w.heap.size → a < m → m < b → b ≤ n → n ≤ c → c ≤ 4611686018427387900 → Srt (Tag ltR) t a m → Srt (Tag ltR) t m b → (∀ i j, a ≤ i → i < m → m ≤ j → j < b → (t i).2 < (t j).2) →
    Calls Try.prog 112 #[.slice (some ⟨g, 0, none⟩) n c, .int .i64 (a : Int), .int .i64 (m : Int), .int .i64 (b : Int), .func (.func 43) #[] #[]] w fun e w' => e = .returned undef ∧ (∃ u, Nines w' g n (vals u) ∧ Srt (Tag ltR) u a b ∧ (∀ x, Mem u a b x ↔ Mem t a b x) ∧ ∀ k, k < a ∨ b ≤ k → u k = t k) ∧ Turns1 g w w' := by
  intro d
  induction d with
  | zero => intro w g n c t a m b hd h hg ham hmb; omega
  | succ d ih =>
  intro w g n c t a m b hd h hg ham hmb hb hc hcm hs1 hs2 hy
  by_cases hm1 : m = a + 1
  · exact sym_one h hg hm1 hmb hb hc hcm hs2 (fun j h1 h2 => hy a j (Nat.le_refl _) ham h1 h2)
  by_cases hb1 : b = m + 1
  · exact sym_last h hg (by omega) hb1 hb hc hcm hs1 (fun j h1 h2 => hy j m h1 h2 (Nat.le_refl _) hmb)
  have H := Lib.hid h
  have HS1 := Lib.hid hs1
  have HS2 := Lib.hid hs2
  have HTG := Lib.hid hy
  have IH := Lib.hid ih
  clear h hs1 hs2 hy ih
  obtain ⟨mid, hmid⟩ : ∃ mid : Nat, 2 * mid ≤ a + b ∧ a + b ≤ 2 * mid + 1 := ⟨(a + b) / 2, by omega⟩
  obtain ⟨nn, hnn⟩ : ∃ nn : Nat, nn ≤ mid + m ∧ mid + m ≤ nn := ⟨mid + m, by omega⟩
  have wm : IntKind.i64.wrap ((m : Int) - (a : Int)) = ((m - a : Nat) : Int) := by rw [IntWalk.i64_in _ (by omega)]; omega
  have wm1 : (((m - a : Nat) : Int) == 1) = false := by rw [beq_eq_false_iff_ne]; omega
  have wb : IntKind.i64.wrap ((b : Int) - (m : Int)) = ((b - m : Nat) : Int) := by rw [IntWalk.i64_in _ (by omega)]; omega
  have wb1 : (((b - m : Nat) : Int) == 1) = false := by rw [beq_eq_false_iff_ne]; omega
  have wmid : ((a : Int) + (b : Int)) / 2 = (mid : Int) := by omega
  have wnn : IntKind.i64.wrap ((mid : Int) + (m : Int)) = (nn : Int) := by rw [IntWalk.i64_in _ (by omega)]; omega
  obtain ⟨p, hp⟩ : ∃ p : Nat, p + 1 ≤ nn ∧ nn ≤ p + 1 := ⟨nn - 1, by omega⟩
  have wp : IntKind.i64.wrap ((nn : Int) - 1) = (p : Int) := by rw [IntWalk.i64_in _ (by omega)]; omega
  by_cases hmm : mid < m
  · obtain ⟨s0, hs0⟩ : ∃ s0 : Nat, s0 + b ≤ nn ∧ nn ≤ s0 + b := ⟨nn - b, by omega⟩
    obtain ⟨r0, hr0⟩ : ∃ r0 : Nat, r0 ≤ mid ∧ mid ≤ r0 := ⟨mid, by omega⟩
    have w20 : IntKind.i64.wrap ((nn : Int) - (b : Int)) = (s0 : Int) := by rw [IntWalk.i64_in _ (by omega)]; omega
    have hmmi : (mid : Int) < (m : Int) := by omega
    have hbd : a ≤ s0 ∧ nn ≤ s0 + b ∧ s0 ≤ r0 ∧ r0 ≤ mid ∧ r0 ≤ m := by omega
    go_enter Try.func112, Try.ntmps112
    go_wp2_with fail
    go_loopw [20, 21, 23] (fun s20 s21 s23 wq => ∃ (s r : Nat), s0 ≤ s ∧ s ≤ r ∧ r ≤ r0 ∧ s20 = .int .i64 (s : Int) ∧ s21 = .int .i64 (r : Int) ∧ Hid (Nines wq g n (vals t)) ∧ Hid (s0 < s → Tag ltR (t (s - 1)) (t (nn - s))) ∧ Hid (r < r0 → Tag ltR (t (nn - 1 - r)) (t r)) ∧ Hid (Turns1 g w wq)) (fun s20 s21 _ _ => (intOf s21).toNat - (intOf s20).toNat)
    case atStart => exact ⟨s0, r0, by omega, by omega, by omega, by first | rfl | exact congrArg (Value.int .i64) (by omega), by first | rfl | exact congrArg (Value.int .i64) (by omega), H, Lib.hid (fun h => by omega), Lib.hid (fun h => by omega), Lib.hid (Turns1.refl g w)⟩
    case round =>
      obtain ⟨s, r, hs0s, hsr, hrr0, rfl, rfl, HQ, HI, HJ, HU⟩ := hrel
      rename World => wq
      by_cases hlt : s < r
      · have hlti : (s : Int) < (r : Int) := by omega
        obtain ⟨k, hk⟩ : ∃ k : Nat, 2 * k ≤ s + r ∧ s + r ≤ 2 * k + 1 := ⟨(s + r) / 2, by omega⟩
        have wk : ((s : Int) + (r : Int)) / 2 = (k : Int) := by omega
        obtain ⟨e, he⟩ : ∃ e : Nat, e + k ≤ p ∧ p ≤ e + k := ⟨p - k, by omega⟩
        have we : IntKind.i64.wrap ((p : Int) - (k : Int)) = (e : Int) := by rw [IntWalk.i64_in _ (by omega)]; omega
        have hkr : s ≤ k ∧ k < r := by omega
        have her : m ≤ e ∧ e < b := by omega
        have hkn : (k : Int) < (n : Int) := by omega
        have hen : (e : Int) < (n : Int) := by omega
        obtain ⟨x, hx⟩ : ∃ x, x = vals t e := ⟨_, rfl⟩
        obtain ⟨y, hy⟩ : ∃ y, y = vals t k := ⟨_, rfl⟩
        have Hx := Lib.hid hx
        have Hy := Lib.hid hy
        clear hx hy
        have hltg : g < wq.heap.size := Nat.lt_of_lt_of_le hg HU.out.size
        have cx0 : wq.cell? ⟨g, (e) * 9, none⟩ = some (.int .i64 x.r.kind) := HQ.out.at' _ (by omega) 0 _ (by rw [← Hx.out]; rfl)
        have cx1 : wq.cell? ⟨g, (e) * 9 + 1, none⟩ = some (.int .i64 x.r.time) := HQ.out.at' _ (by omega) 1 _ (by rw [← Hx.out]; rfl)
        have cx2 : wq.cell? ⟨g, (e) * 9 + 2, none⟩ = some (.slice x.r.la x.r.ln x.r.lc) := HQ.out.at' _ (by omega) 2 _ (by rw [← Hx.out]; rfl)
        have cx3 : wq.cell? ⟨g, (e) * 9 + 3, none⟩ = some (.string x.r.text) := HQ.out.at' _ (by omega) 3 _ (by rw [← Hx.out]; rfl)
        have cx4 : wq.cell? ⟨g, (e) * 9 + 4, none⟩ = some (.int .i64 x.r.value) := HQ.out.at' _ (by omega) 4 _ (by rw [← Hx.out]; rfl)
        have cx5 : wq.cell? ⟨g, (e) * 9 + 5, none⟩ = some (.bool x.r.null) := HQ.out.at' _ (by omega) 5 _ (by rw [← Hx.out]; rfl)
        have cx6 : wq.cell? ⟨g, (e) * 9 + 6, none⟩ = some (.int .i64 x.who) := HQ.out.at' _ (by omega) 6 _ (by rw [← Hx.out]; rfl)
        have cx7 : wq.cell? ⟨g, (e) * 9 + 7, none⟩ = some (.int .i64 x.sq) := HQ.out.at' _ (by omega) 7 _ (by rw [← Hx.out]; rfl)
        have cx8 : wq.cell? ⟨g, (e) * 9 + 8, none⟩ = some (.int .i64 x.pl) := HQ.out.at' _ (by omega) 8 _ (by rw [← Hx.out]; rfl)
        have cy0 : wq.cell? ⟨g, (k) * 9, none⟩ = some (.int .i64 y.r.kind) := HQ.out.at' _ (by omega) 0 _ (by rw [← Hy.out]; rfl)
        have cy1 : wq.cell? ⟨g, (k) * 9 + 1, none⟩ = some (.int .i64 y.r.time) := HQ.out.at' _ (by omega) 1 _ (by rw [← Hy.out]; rfl)
        have cy2 : wq.cell? ⟨g, (k) * 9 + 2, none⟩ = some (.slice y.r.la y.r.ln y.r.lc) := HQ.out.at' _ (by omega) 2 _ (by rw [← Hy.out]; rfl)
        have cy3 : wq.cell? ⟨g, (k) * 9 + 3, none⟩ = some (.string y.r.text) := HQ.out.at' _ (by omega) 3 _ (by rw [← Hy.out]; rfl)
        have cy4 : wq.cell? ⟨g, (k) * 9 + 4, none⟩ = some (.int .i64 y.r.value) := HQ.out.at' _ (by omega) 4 _ (by rw [← Hy.out]; rfl)
        have cy5 : wq.cell? ⟨g, (k) * 9 + 5, none⟩ = some (.bool y.r.null) := HQ.out.at' _ (by omega) 5 _ (by rw [← Hy.out]; rfl)
        have cy6 : wq.cell? ⟨g, (k) * 9 + 6, none⟩ = some (.int .i64 y.who) := HQ.out.at' _ (by omega) 6 _ (by rw [← Hy.out]; rfl)
        have cy7 : wq.cell? ⟨g, (k) * 9 + 7, none⟩ = some (.int .i64 y.sq) := HQ.out.at' _ (by omega) 7 _ (by rw [← Hy.out]; rfl)
        have cy8 : wq.cell? ⟨g, (k) * 9 + 8, none⟩ = some (.int .i64 y.pl) := HQ.out.at' _ (by omega) 8 _ (by rw [← Hy.out]; rfl)
        cases hlt2 : ltR x y with
        | true =>
          have hneg : cmpRow x y < 0 := ltR_true hlt2
          have hnb : (!decide (cmpRow x y < 0)) = false := by rw [decide_eq_true hneg]; rfl
          have HTAG := Lib.hid (show Tag ltR (t (nn - 1 - k)) (t k) from .inl (by have h1 := Hx.out; have h2 := Hy.out; unfold vals at h1 h2; rw [show nn - 1 - k = e by omega, ← h1, ← h2]; exact hlt2))
          clear hlt2
          go_wp2_with fail
          go_region_held3 (fun w' => w'.cell? ⟨g, (e) * 9, none⟩ = some (.int .i64 x.r.kind) ∧ w'.cell? ⟨g, (e) * 9 + 1, none⟩ = some (.int .i64 x.r.time) ∧ w'.cell? ⟨g, (e) * 9 + 2, none⟩ = some (.slice x.r.la x.r.ln x.r.lc) ∧ w'.cell? ⟨g, (e) * 9 + 3, none⟩ = some (.string x.r.text) ∧ w'.cell? ⟨g, (e) * 9 + 4, none⟩ = some (.int .i64 x.r.value) ∧ w'.cell? ⟨g, (e) * 9 + 5, none⟩ = some (.bool x.r.null) ∧ w'.cell? ⟨g, (e) * 9 + 6, none⟩ = some (.int .i64 x.who) ∧ w'.cell? ⟨g, (e) * 9 + 7, none⟩ = some (.int .i64 x.sq) ∧ w'.cell? ⟨g, (e) * 9 + 8, none⟩ = some (.int .i64 x.pl) ∧ w'.cell? ⟨g, (k) * 9, none⟩ = some (.int .i64 y.r.kind) ∧ w'.cell? ⟨g, (k) * 9 + 1, none⟩ = some (.int .i64 y.r.time) ∧ w'.cell? ⟨g, (k) * 9 + 2, none⟩ = some (.slice y.r.la y.r.ln y.r.lc) ∧ w'.cell? ⟨g, (k) * 9 + 3, none⟩ = some (.string y.r.text) ∧ w'.cell? ⟨g, (k) * 9 + 4, none⟩ = some (.int .i64 y.r.value) ∧ w'.cell? ⟨g, (k) * 9 + 5, none⟩ = some (.bool y.r.null) ∧ w'.cell? ⟨g, (k) * 9 + 6, none⟩ = some (.int .i64 y.who) ∧ w'.cell? ⟨g, (k) * 9 + 7, none⟩ = some (.int .i64 y.sq) ∧ w'.cell? ⟨g, (k) * 9 + 8, none⟩ = some (.int .i64 y.pl)) (first | go_keep | exact ⟨(hbq.cell (p := ⟨g, (e) * 9, none⟩) hltg).trans cx0, (hbq.cell (p := ⟨g, (e) * 9 + 1, none⟩) hltg).trans cx1, (hbq.cell (p := ⟨g, (e) * 9 + 2, none⟩) hltg).trans cx2, (hbq.cell (p := ⟨g, (e) * 9 + 3, none⟩) hltg).trans cx3, (hbq.cell (p := ⟨g, (e) * 9 + 4, none⟩) hltg).trans cx4, (hbq.cell (p := ⟨g, (e) * 9 + 5, none⟩) hltg).trans cx5, (hbq.cell (p := ⟨g, (e) * 9 + 6, none⟩) hltg).trans cx6, (hbq.cell (p := ⟨g, (e) * 9 + 7, none⟩) hltg).trans cx7, (hbq.cell (p := ⟨g, (e) * 9 + 8, none⟩) hltg).trans cx8, (hbq.cell (p := ⟨g, (k) * 9, none⟩) hltg).trans cy0, (hbq.cell (p := ⟨g, (k) * 9 + 1, none⟩) hltg).trans cy1, (hbq.cell (p := ⟨g, (k) * 9 + 2, none⟩) hltg).trans cy2, (hbq.cell (p := ⟨g, (k) * 9 + 3, none⟩) hltg).trans cy3, (hbq.cell (p := ⟨g, (k) * 9 + 4, none⟩) hltg).trans cy4, (hbq.cell (p := ⟨g, (k) * 9 + 5, none⟩) hltg).trans cy5, (hbq.cell (p := ⟨g, (k) * 9 + 6, none⟩) hltg).trans cy6, (hbq.cell (p := ⟨g, (k) * 9 + 7, none⟩) hltg).trans cy7, (hbq.cell (p := ⟨g, (k) * 9 + 8, none⟩) hltg).trans cy8⟩) (first | (go_at_call 43; refine (compare_any x y _).mono ?_; rintro r w3 ⟨rfl, hbq⟩))
          have HN3 := Lib.hid (HQ.out.drew.below hltg hbq)
          have HU3 := Lib.hid (HU.out.drew.below hbq)
          clear hbq cx0 cx1 cx2 cx3 cx4 cx5 cx6 cx7 cx8 cy0 cy1 cy2 cy3 cy4 cy5 cy6 cy7 cy8
          go_wp2_with fail
          go_roundw
          case rel => exact ⟨s, k, by omega, by omega, by omega, rfl, by go_num, HN3, HI, Lib.hid (fun _ => HTAG.out), HU3⟩
          case measure => simp [intOf]; omega
        | false =>
          have hneg : ¬ cmpRow x y < 0 := ltR_false hlt2
          have hnb : (!decide (cmpRow x y < 0)) = true := by rw [decide_eq_false hneg]; rfl
          have HTAG := Lib.hid (show Tag ltR (t (k + 1 - 1)) (t (nn - (k + 1))) from .inr ⟨by have h1 := Hx.out; have h2 := Hy.out; unfold vals at h1 h2; rw [show nn - (k + 1) = e by omega, Nat.add_sub_cancel, ← h1, ← h2]; exact hlt2, by rw [Nat.add_sub_cancel]; exact HTG.out k _ (by omega) (by omega) (by omega) (by omega)⟩)
          clear hlt2
          go_wp2_with fail
          go_region_held3 (fun w' => w'.cell? ⟨g, (e) * 9, none⟩ = some (.int .i64 x.r.kind) ∧ w'.cell? ⟨g, (e) * 9 + 1, none⟩ = some (.int .i64 x.r.time) ∧ w'.cell? ⟨g, (e) * 9 + 2, none⟩ = some (.slice x.r.la x.r.ln x.r.lc) ∧ w'.cell? ⟨g, (e) * 9 + 3, none⟩ = some (.string x.r.text) ∧ w'.cell? ⟨g, (e) * 9 + 4, none⟩ = some (.int .i64 x.r.value) ∧ w'.cell? ⟨g, (e) * 9 + 5, none⟩ = some (.bool x.r.null) ∧ w'.cell? ⟨g, (e) * 9 + 6, none⟩ = some (.int .i64 x.who) ∧ w'.cell? ⟨g, (e) * 9 + 7, none⟩ = some (.int .i64 x.sq) ∧ w'.cell? ⟨g, (e) * 9 + 8, none⟩ = some (.int .i64 x.pl) ∧ w'.cell? ⟨g, (k) * 9, none⟩ = some (.int .i64 y.r.kind) ∧ w'.cell? ⟨g, (k) * 9 + 1, none⟩ = some (.int .i64 y.r.time) ∧ w'.cell? ⟨g, (k) * 9 + 2, none⟩ = some (.slice y.r.la y.r.ln y.r.lc) ∧ w'.cell? ⟨g, (k) * 9 + 3, none⟩ = some (.string y.r.text) ∧ w'.cell? ⟨g, (k) * 9 + 4, none⟩ = some (.int .i64 y.r.value) ∧ w'.cell? ⟨g, (k) * 9 + 5, none⟩ = some (.bool y.r.null) ∧ w'.cell? ⟨g, (k) * 9 + 6, none⟩ = some (.int .i64 y.who) ∧ w'.cell? ⟨g, (k) * 9 + 7, none⟩ = some (.int .i64 y.sq) ∧ w'.cell? ⟨g, (k) * 9 + 8, none⟩ = some (.int .i64 y.pl)) (first | go_keep | exact ⟨(hbq.cell (p := ⟨g, (e) * 9, none⟩) hltg).trans cx0, (hbq.cell (p := ⟨g, (e) * 9 + 1, none⟩) hltg).trans cx1, (hbq.cell (p := ⟨g, (e) * 9 + 2, none⟩) hltg).trans cx2, (hbq.cell (p := ⟨g, (e) * 9 + 3, none⟩) hltg).trans cx3, (hbq.cell (p := ⟨g, (e) * 9 + 4, none⟩) hltg).trans cx4, (hbq.cell (p := ⟨g, (e) * 9 + 5, none⟩) hltg).trans cx5, (hbq.cell (p := ⟨g, (e) * 9 + 6, none⟩) hltg).trans cx6, (hbq.cell (p := ⟨g, (e) * 9 + 7, none⟩) hltg).trans cx7, (hbq.cell (p := ⟨g, (e) * 9 + 8, none⟩) hltg).trans cx8, (hbq.cell (p := ⟨g, (k) * 9, none⟩) hltg).trans cy0, (hbq.cell (p := ⟨g, (k) * 9 + 1, none⟩) hltg).trans cy1, (hbq.cell (p := ⟨g, (k) * 9 + 2, none⟩) hltg).trans cy2, (hbq.cell (p := ⟨g, (k) * 9 + 3, none⟩) hltg).trans cy3, (hbq.cell (p := ⟨g, (k) * 9 + 4, none⟩) hltg).trans cy4, (hbq.cell (p := ⟨g, (k) * 9 + 5, none⟩) hltg).trans cy5, (hbq.cell (p := ⟨g, (k) * 9 + 6, none⟩) hltg).trans cy6, (hbq.cell (p := ⟨g, (k) * 9 + 7, none⟩) hltg).trans cy7, (hbq.cell (p := ⟨g, (k) * 9 + 8, none⟩) hltg).trans cy8⟩) (first | (go_at_call 43; refine (compare_any x y _).mono ?_; rintro r w3 ⟨rfl, hbq⟩))
          have HN3 := Lib.hid (HQ.out.drew.below hltg hbq)
          have HU3 := Lib.hid (HU.out.drew.below hbq)
          clear hbq cx0 cx1 cx2 cx3 cx4 cx5 cx6 cx7 cx8 cy0 cy1 cy2 cy3 cy4 cy5 cy6 cy7 cy8
          go_wp2_with fail
          go_roundw
          case rel => exact ⟨k + 1, r, by omega, by omega, by omega, by go_num, rfl, HN3, Lib.hid (fun _ => HTAG.out), HJ, HU3⟩
          case measure => simp [intOf]; omega
      · obtain rfl : s = r := by omega
        obtain ⟨en, hen⟩ : ∃ en : Nat, en + s ≤ nn ∧ nn ≤ en + s := ⟨nn - s, by omega⟩
        have wen : IntKind.i64.wrap ((nn : Int) - (s : Int)) = (en : Int) := by rw [IntWalk.i64_in _ (by omega)]; omega
        have hr : a ≤ s ∧ s ≤ m ∧ s ≤ mid ∧ m ≤ en ∧ mid ≤ en ∧ en ≤ b ∧ s + (en - m) = mid := by omega
        have HC := Lib.hid (cut4 HS1.out HS2.out hr.1 hr.2.1 hr.2.2.2.1 hr.2.2.2.2.2.1 hr.2.2.2.2.2.2 (fun h1 h2 => by have h := HI.out (by omega); rw [show nn - s = en by omega] at h; exact h) (fun h1 h2 => by have h := HJ.out (by omega); rw [show en - 1 = nn - 1 - s by omega]; exact h) HTG.out)
        have hab2 : a < mid ∧ mid < b := by omega
        have hbe : en ≤ n := by omega
        clear HI HJ
        by_cases hsm : s < m
        · have hsmi : (s : Int) < (m : Int) := by omega
          have hmei2 : (mid : Int) < (en : Int) := by omega
          by_cases hme : m < en
          · have hmei : (m : Int) < (en : Int) := by omega
            have hsmid : (s : Int) < (mid : Int) := by omega
            by_cases has : a < s
            · have hasi : (a : Int) < (s : Int) := by omega
              by_cases heb : en < b
              · have hebi : (en : Int) < (b : Int) := by omega
                go_wp2_with fail
                refine (rot_any (f := vals t) HQ.out hsm hme hbe hc (by omega)).mono ?_
                rintro r w4 ⟨rfl, hn4, ht4⟩
                rw [vals_rot] at hn4
                have HN4 := Lib.hid hn4
                have HU4 := Lib.hid (HU.out.trans ht4)
                clear hn4 ht4
                go_wp2_with fail
                refine (IH.out w4 g n c (rot t s m en) a s mid (by omega) HN4.out (Nat.lt_of_lt_of_le hg HU4.out.size) (by omega) (by omega) (by omega) hc hcm HC.out.one HC.out.two HC.out.young1).mono ?_
                rintro r w5 ⟨rfl, ⟨v1, hn5, hv5⟩, ht5⟩
                have HN5 := Lib.hid hn5
                have HV5 : Hid (Half (rot t s m en) v1 a mid) := Lib.hid hv5
                have HU5 := Lib.hid (HU4.out.trans ht5)
                clear hn5 hv5 ht5
                go_wp2_with fail
                refine (IH.out w5 g n c v1 mid en b (by omega) HN5.out (Nat.lt_of_lt_of_le hg HU5.out.size) (by omega) (by omega) (by omega) hc hcm (HC.out.three.congr (fun k h1 h2 => HV5.out.2.2 k (.inr h1))) (HC.out.four.congr (fun k h1 h2 => HV5.out.2.2 k (.inr (by omega)))) (fun i j h1 h2 h3 h4 => by rw [HV5.out.2.2 i (.inr h1), HV5.out.2.2 j (.inr (by omega))]; exact HC.out.young2 i j h1 h2 h3 h4)).mono ?_
                rintro r w6 ⟨rfl, ⟨v2, hn6, hv6⟩, ht6⟩
                have HN6 := Lib.hid hn6
                have HV6 : Hid (Half v1 v2 mid b) := Lib.hid hv6
                have HU6 := Lib.hid (HU5.out.trans ht6)
                clear hn6 hv6 ht6
                go_wp2_with fail
                first | go_ret | go_end0 | refine bodyPost_ret (results_none rfl _ _ _) rfl ?_
                have hd := HC.out.done HV5.out HV6.out (by omega) (by omega)
                exact ⟨rfl, ⟨_, HN6.out, hd.1, by first | exact hd.2.1 | exact fun x y => hd.2.1 (x, y), hd.2.2⟩, HU6.out⟩
              · have hebi : ¬ (en : Int) < (b : Int) := by omega
                go_wp2_with fail
                refine (rot_any (f := vals t) HQ.out hsm hme hbe hc (by omega)).mono ?_
                rintro r w4 ⟨rfl, hn4, ht4⟩
                rw [vals_rot] at hn4
                have HN4 := Lib.hid hn4
                have HU4 := Lib.hid (HU.out.trans ht4)
                clear hn4 ht4
                go_wp2_with fail
                refine (IH.out w4 g n c (rot t s m en) a s mid (by omega) HN4.out (Nat.lt_of_lt_of_le hg HU4.out.size) (by omega) (by omega) (by omega) hc hcm HC.out.one HC.out.two HC.out.young1).mono ?_
                rintro r w5 ⟨rfl, ⟨v1, hn5, hv5⟩, ht5⟩
                have HN5 := Lib.hid hn5
                have HV5 : Hid (Half (rot t s m en) v1 a mid) := Lib.hid hv5
                have HU5 := Lib.hid (HU4.out.trans ht5)
                clear hn5 hv5 ht5
                go_wp2_with fail
                have HV6 : Hid (Half v1 v1 mid b) := Lib.hid (Half.refl (by
                  first
                    | exact (by have h := HC.out.four.congr (g := v1) (fun k h1 h2 => HV5.out.2.2 k (.inr (by omega))); rw [show en = mid by omega] at h; exact h)
                    | exact (by have h := HC.out.three.congr (g := v1) (fun k h1 h2 => HV5.out.2.2 k (.inr h1)); rw [show en = b by omega] at h; exact h)))
                have HN6 := HN5
                have HU6 := HU5
                first | go_ret | go_end0 | refine bodyPost_ret (results_none rfl _ _ _) rfl ?_
                have hd := HC.out.done HV5.out HV6.out (by omega) (by omega)
                exact ⟨rfl, ⟨_, HN6.out, hd.1, by first | exact hd.2.1 | exact fun x y => hd.2.1 (x, y), hd.2.2⟩, HU6.out⟩
            · have hasi : ¬ (a : Int) < (s : Int) := by omega
              by_cases heb : en < b
              · have hebi : (en : Int) < (b : Int) := by omega
                go_wp2_with fail
                refine (rot_any (f := vals t) HQ.out hsm hme hbe hc (by omega)).mono ?_
                rintro r w4 ⟨rfl, hn4, ht4⟩
                rw [vals_rot] at hn4
                have HN4 := Lib.hid hn4
                have HU4 := Lib.hid (HU.out.trans ht4)
                clear hn4 ht4
                go_wp2_with fail
                obtain ⟨v1, hv1⟩ : ∃ v1, v1 = rot t s m en := ⟨_, rfl⟩
                have HV5 : Hid (Half (rot t s m en) v1 a mid) := Lib.hid (by
                  rw [hv1]
                  first
                    | exact Half.refl (by have h := HC.out.two; rw [show s = a by omega] at h ⊢; exact h)
                    | exact Half.refl (by have h := HC.out.one; rw [show s = mid by omega] at h ⊢; exact h))
                have HN5 := HN4
                rw [← hv1] at HN5
                have HU5 := HU4
                refine (IH.out w4 g n c v1 mid en b (by omega) HN5.out (Nat.lt_of_lt_of_le hg HU5.out.size) (by omega) (by omega) (by omega) hc hcm (HC.out.three.congr (fun k h1 h2 => HV5.out.2.2 k (.inr h1))) (HC.out.four.congr (fun k h1 h2 => HV5.out.2.2 k (.inr (by omega)))) (fun i j h1 h2 h3 h4 => by rw [HV5.out.2.2 i (.inr h1), HV5.out.2.2 j (.inr (by omega))]; exact HC.out.young2 i j h1 h2 h3 h4)).mono ?_
                rintro r w6 ⟨rfl, ⟨v2, hn6, hv6⟩, ht6⟩
                have HN6 := Lib.hid hn6
                have HV6 : Hid (Half v1 v2 mid b) := Lib.hid hv6
                have HU6 := Lib.hid (HU5.out.trans ht6)
                clear hn6 hv6 ht6
                go_wp2_with fail
                first | go_ret | go_end0 | refine bodyPost_ret (results_none rfl _ _ _) rfl ?_
                have hd := HC.out.done HV5.out HV6.out (by omega) (by omega)
                exact ⟨rfl, ⟨_, HN6.out, hd.1, by first | exact hd.2.1 | exact fun x y => hd.2.1 (x, y), hd.2.2⟩, HU6.out⟩
              · have hebi : ¬ (en : Int) < (b : Int) := by omega
                go_wp2_with fail
                refine (rot_any (f := vals t) HQ.out hsm hme hbe hc (by omega)).mono ?_
                rintro r w4 ⟨rfl, hn4, ht4⟩
                rw [vals_rot] at hn4
                have HN4 := Lib.hid hn4
                have HU4 := Lib.hid (HU.out.trans ht4)
                clear hn4 ht4
                go_wp2_with fail
                obtain ⟨v1, hv1⟩ : ∃ v1, v1 = rot t s m en := ⟨_, rfl⟩
                have HV5 : Hid (Half (rot t s m en) v1 a mid) := Lib.hid (by
                  rw [hv1]
                  first
                    | exact Half.refl (by have h := HC.out.two; rw [show s = a by omega] at h ⊢; exact h)
                    | exact Half.refl (by have h := HC.out.one; rw [show s = mid by omega] at h ⊢; exact h))
                have HN5 := HN4
                rw [← hv1] at HN5
                have HU5 := HU4
                have HV6 : Hid (Half v1 v1 mid b) := Lib.hid (Half.refl (by
                  first
                    | exact (by have h := HC.out.four.congr (g := v1) (fun k h1 h2 => HV5.out.2.2 k (.inr (by omega))); rw [show en = mid by omega] at h; exact h)
                    | exact (by have h := HC.out.three.congr (g := v1) (fun k h1 h2 => HV5.out.2.2 k (.inr h1)); rw [show en = b by omega] at h; exact h)))
                have HN6 := HN5
                have HU6 := HU5
                first | go_ret | go_end0 | refine bodyPost_ret (results_none rfl _ _ _) rfl ?_
                have hd := HC.out.done HV5.out HV6.out (by omega) (by omega)
                exact ⟨rfl, ⟨_, HN6.out, hd.1, by first | exact hd.2.1 | exact fun x y => hd.2.1 (x, y), hd.2.2⟩, HU6.out⟩
          · have hmei : ¬ (m : Int) < (en : Int) := by omega
            have hsmid : ¬ (s : Int) < (mid : Int) := by omega
            by_cases has : a < s
            · have hasi : (a : Int) < (s : Int) := by omega
              by_cases heb : en < b
              · have hebi : (en : Int) < (b : Int) := by omega
                go_wp2_with fail
                have hv : rot t s m en = t := by first | rw [show s = m by omega, rot_none' t m en (by omega)] | rw [show en = m by omega, rot_none t s m]
                have HN4 : Hid (Nines wq g n (vals (rot t s m en))) := by rw [hv]; exact HQ
                have HU4 := HU
                obtain ⟨v1, hv1⟩ : ∃ v1, v1 = rot t s m en := ⟨_, rfl⟩
                have HV5 : Hid (Half (rot t s m en) v1 a mid) := Lib.hid (by
                  rw [hv1]
                  first
                    | exact Half.refl (by have h := HC.out.two; rw [show s = a by omega] at h ⊢; exact h)
                    | exact Half.refl (by have h := HC.out.one; rw [show s = mid by omega] at h ⊢; exact h))
                have HN5 := HN4
                rw [← hv1] at HN5
                have HU5 := HU4
                refine (IH.out wq g n c v1 mid en b (by omega) HN5.out (Nat.lt_of_lt_of_le hg HU5.out.size) (by omega) (by omega) (by omega) hc hcm (HC.out.three.congr (fun k h1 h2 => HV5.out.2.2 k (.inr h1))) (HC.out.four.congr (fun k h1 h2 => HV5.out.2.2 k (.inr (by omega)))) (fun i j h1 h2 h3 h4 => by rw [HV5.out.2.2 i (.inr h1), HV5.out.2.2 j (.inr (by omega))]; exact HC.out.young2 i j h1 h2 h3 h4)).mono ?_
                rintro r w6 ⟨rfl, ⟨v2, hn6, hv6⟩, ht6⟩
                have HN6 := Lib.hid hn6
                have HV6 : Hid (Half v1 v2 mid b) := Lib.hid hv6
                have HU6 := Lib.hid (HU5.out.trans ht6)
                clear hn6 hv6 ht6
                go_wp2_with fail
                first | go_ret | go_end0 | refine bodyPost_ret (results_none rfl _ _ _) rfl ?_
                have hd := HC.out.done HV5.out HV6.out (by omega) (by omega)
                exact ⟨rfl, ⟨_, HN6.out, hd.1, by first | exact hd.2.1 | exact fun x y => hd.2.1 (x, y), hd.2.2⟩, HU6.out⟩
              · have hebi : ¬ (en : Int) < (b : Int) := by omega
                exfalso; omega
            · have hasi : ¬ (a : Int) < (s : Int) := by omega
              by_cases heb : en < b
              · have hebi : (en : Int) < (b : Int) := by omega
                exfalso; omega
              · have hebi : ¬ (en : Int) < (b : Int) := by omega
                exfalso; omega
        · have hsmi : ¬ (s : Int) < (m : Int) := by omega
          have hmei2 : ¬ (mid : Int) < (en : Int) := by omega
          by_cases hme : m < en
          · have hmei : (m : Int) < (en : Int) := by omega
            have hsmid : (s : Int) < (mid : Int) := by omega
            by_cases has : a < s
            · have hasi : (a : Int) < (s : Int) := by omega
              by_cases heb : en < b
              · have hebi : (en : Int) < (b : Int) := by omega
                exfalso; omega
              · have hebi : ¬ (en : Int) < (b : Int) := by omega
                exfalso; omega
            · have hasi : ¬ (a : Int) < (s : Int) := by omega
              by_cases heb : en < b
              · have hebi : (en : Int) < (b : Int) := by omega
                exfalso; omega
              · have hebi : ¬ (en : Int) < (b : Int) := by omega
                exfalso; omega
          · have hmei : ¬ (m : Int) < (en : Int) := by omega
            have hsmid : ¬ (s : Int) < (mid : Int) := by omega
            by_cases has : a < s
            · have hasi : (a : Int) < (s : Int) := by omega
              by_cases heb : en < b
              · have hebi : (en : Int) < (b : Int) := by omega
                exfalso; omega
              · have hebi : ¬ (en : Int) < (b : Int) := by omega
                exfalso; omega
            · have hasi : ¬ (a : Int) < (s : Int) := by omega
              by_cases heb : en < b
              · have hebi : (en : Int) < (b : Int) := by omega
                exfalso; omega
              · have hebi : ¬ (en : Int) < (b : Int) := by omega
                exfalso; omega
    
  · obtain ⟨s0, hs0⟩ : ∃ s0 : Nat, s0 ≤ a ∧ a ≤ s0 := ⟨a, by omega⟩
    obtain ⟨r0, hr0⟩ : ∃ r0 : Nat, r0 ≤ m ∧ m ≤ r0 := ⟨m, by omega⟩
    have hmmi : ¬ (mid : Int) < (m : Int) := by omega
    have hbd : a ≤ s0 ∧ nn ≤ s0 + b ∧ s0 ≤ r0 ∧ r0 ≤ mid ∧ r0 ≤ m := by omega
    go_enter Try.func112, Try.ntmps112
    go_wp2_with fail
    go_loopw [20, 21, 23] (fun s20 s21 s23 wq => ∃ (s r : Nat), s0 ≤ s ∧ s ≤ r ∧ r ≤ r0 ∧ s20 = .int .i64 (s : Int) ∧ s21 = .int .i64 (r : Int) ∧ Hid (Nines wq g n (vals t)) ∧ Hid (s0 < s → Tag ltR (t (s - 1)) (t (nn - s))) ∧ Hid (r < r0 → Tag ltR (t (nn - 1 - r)) (t r)) ∧ Hid (Turns1 g w wq)) (fun s20 s21 _ _ => (intOf s21).toNat - (intOf s20).toNat)
    case atStart => exact ⟨s0, r0, by omega, by omega, by omega, by first | rfl | exact congrArg (Value.int .i64) (by omega), by first | rfl | exact congrArg (Value.int .i64) (by omega), H, Lib.hid (fun h => by omega), Lib.hid (fun h => by omega), Lib.hid (Turns1.refl g w)⟩
    case round =>
      obtain ⟨s, r, hs0s, hsr, hrr0, rfl, rfl, HQ, HI, HJ, HU⟩ := hrel
      rename World => wq
      by_cases hlt : s < r
      · have hlti : (s : Int) < (r : Int) := by omega
        obtain ⟨k, hk⟩ : ∃ k : Nat, 2 * k ≤ s + r ∧ s + r ≤ 2 * k + 1 := ⟨(s + r) / 2, by omega⟩
        have wk : ((s : Int) + (r : Int)) / 2 = (k : Int) := by omega
        obtain ⟨e, he⟩ : ∃ e : Nat, e + k ≤ p ∧ p ≤ e + k := ⟨p - k, by omega⟩
        have we : IntKind.i64.wrap ((p : Int) - (k : Int)) = (e : Int) := by rw [IntWalk.i64_in _ (by omega)]; omega
        have hkr : s ≤ k ∧ k < r := by omega
        have her : m ≤ e ∧ e < b := by omega
        have hkn : (k : Int) < (n : Int) := by omega
        have hen : (e : Int) < (n : Int) := by omega
        obtain ⟨x, hx⟩ : ∃ x, x = vals t e := ⟨_, rfl⟩
        obtain ⟨y, hy⟩ : ∃ y, y = vals t k := ⟨_, rfl⟩
        have Hx := Lib.hid hx
        have Hy := Lib.hid hy
        clear hx hy
        have hltg : g < wq.heap.size := Nat.lt_of_lt_of_le hg HU.out.size
        have cx0 : wq.cell? ⟨g, (e) * 9, none⟩ = some (.int .i64 x.r.kind) := HQ.out.at' _ (by omega) 0 _ (by rw [← Hx.out]; rfl)
        have cx1 : wq.cell? ⟨g, (e) * 9 + 1, none⟩ = some (.int .i64 x.r.time) := HQ.out.at' _ (by omega) 1 _ (by rw [← Hx.out]; rfl)
        have cx2 : wq.cell? ⟨g, (e) * 9 + 2, none⟩ = some (.slice x.r.la x.r.ln x.r.lc) := HQ.out.at' _ (by omega) 2 _ (by rw [← Hx.out]; rfl)
        have cx3 : wq.cell? ⟨g, (e) * 9 + 3, none⟩ = some (.string x.r.text) := HQ.out.at' _ (by omega) 3 _ (by rw [← Hx.out]; rfl)
        have cx4 : wq.cell? ⟨g, (e) * 9 + 4, none⟩ = some (.int .i64 x.r.value) := HQ.out.at' _ (by omega) 4 _ (by rw [← Hx.out]; rfl)
        have cx5 : wq.cell? ⟨g, (e) * 9 + 5, none⟩ = some (.bool x.r.null) := HQ.out.at' _ (by omega) 5 _ (by rw [← Hx.out]; rfl)
        have cx6 : wq.cell? ⟨g, (e) * 9 + 6, none⟩ = some (.int .i64 x.who) := HQ.out.at' _ (by omega) 6 _ (by rw [← Hx.out]; rfl)
        have cx7 : wq.cell? ⟨g, (e) * 9 + 7, none⟩ = some (.int .i64 x.sq) := HQ.out.at' _ (by omega) 7 _ (by rw [← Hx.out]; rfl)
        have cx8 : wq.cell? ⟨g, (e) * 9 + 8, none⟩ = some (.int .i64 x.pl) := HQ.out.at' _ (by omega) 8 _ (by rw [← Hx.out]; rfl)
        have cy0 : wq.cell? ⟨g, (k) * 9, none⟩ = some (.int .i64 y.r.kind) := HQ.out.at' _ (by omega) 0 _ (by rw [← Hy.out]; rfl)
        have cy1 : wq.cell? ⟨g, (k) * 9 + 1, none⟩ = some (.int .i64 y.r.time) := HQ.out.at' _ (by omega) 1 _ (by rw [← Hy.out]; rfl)
        have cy2 : wq.cell? ⟨g, (k) * 9 + 2, none⟩ = some (.slice y.r.la y.r.ln y.r.lc) := HQ.out.at' _ (by omega) 2 _ (by rw [← Hy.out]; rfl)
        have cy3 : wq.cell? ⟨g, (k) * 9 + 3, none⟩ = some (.string y.r.text) := HQ.out.at' _ (by omega) 3 _ (by rw [← Hy.out]; rfl)
        have cy4 : wq.cell? ⟨g, (k) * 9 + 4, none⟩ = some (.int .i64 y.r.value) := HQ.out.at' _ (by omega) 4 _ (by rw [← Hy.out]; rfl)
        have cy5 : wq.cell? ⟨g, (k) * 9 + 5, none⟩ = some (.bool y.r.null) := HQ.out.at' _ (by omega) 5 _ (by rw [← Hy.out]; rfl)
        have cy6 : wq.cell? ⟨g, (k) * 9 + 6, none⟩ = some (.int .i64 y.who) := HQ.out.at' _ (by omega) 6 _ (by rw [← Hy.out]; rfl)
        have cy7 : wq.cell? ⟨g, (k) * 9 + 7, none⟩ = some (.int .i64 y.sq) := HQ.out.at' _ (by omega) 7 _ (by rw [← Hy.out]; rfl)
        have cy8 : wq.cell? ⟨g, (k) * 9 + 8, none⟩ = some (.int .i64 y.pl) := HQ.out.at' _ (by omega) 8 _ (by rw [← Hy.out]; rfl)
        cases hlt2 : ltR x y with
        | true =>
          have hneg : cmpRow x y < 0 := ltR_true hlt2
          have hnb : (!decide (cmpRow x y < 0)) = false := by rw [decide_eq_true hneg]; rfl
          have HTAG := Lib.hid (show Tag ltR (t (nn - 1 - k)) (t k) from .inl (by have h1 := Hx.out; have h2 := Hy.out; unfold vals at h1 h2; rw [show nn - 1 - k = e by omega, ← h1, ← h2]; exact hlt2))
          clear hlt2
          go_wp2_with fail
          go_region_held3 (fun w' => w'.cell? ⟨g, (e) * 9, none⟩ = some (.int .i64 x.r.kind) ∧ w'.cell? ⟨g, (e) * 9 + 1, none⟩ = some (.int .i64 x.r.time) ∧ w'.cell? ⟨g, (e) * 9 + 2, none⟩ = some (.slice x.r.la x.r.ln x.r.lc) ∧ w'.cell? ⟨g, (e) * 9 + 3, none⟩ = some (.string x.r.text) ∧ w'.cell? ⟨g, (e) * 9 + 4, none⟩ = some (.int .i64 x.r.value) ∧ w'.cell? ⟨g, (e) * 9 + 5, none⟩ = some (.bool x.r.null) ∧ w'.cell? ⟨g, (e) * 9 + 6, none⟩ = some (.int .i64 x.who) ∧ w'.cell? ⟨g, (e) * 9 + 7, none⟩ = some (.int .i64 x.sq) ∧ w'.cell? ⟨g, (e) * 9 + 8, none⟩ = some (.int .i64 x.pl) ∧ w'.cell? ⟨g, (k) * 9, none⟩ = some (.int .i64 y.r.kind) ∧ w'.cell? ⟨g, (k) * 9 + 1, none⟩ = some (.int .i64 y.r.time) ∧ w'.cell? ⟨g, (k) * 9 + 2, none⟩ = some (.slice y.r.la y.r.ln y.r.lc) ∧ w'.cell? ⟨g, (k) * 9 + 3, none⟩ = some (.string y.r.text) ∧ w'.cell? ⟨g, (k) * 9 + 4, none⟩ = some (.int .i64 y.r.value) ∧ w'.cell? ⟨g, (k) * 9 + 5, none⟩ = some (.bool y.r.null) ∧ w'.cell? ⟨g, (k) * 9 + 6, none⟩ = some (.int .i64 y.who) ∧ w'.cell? ⟨g, (k) * 9 + 7, none⟩ = some (.int .i64 y.sq) ∧ w'.cell? ⟨g, (k) * 9 + 8, none⟩ = some (.int .i64 y.pl)) (first | go_keep | exact ⟨(hbq.cell (p := ⟨g, (e) * 9, none⟩) hltg).trans cx0, (hbq.cell (p := ⟨g, (e) * 9 + 1, none⟩) hltg).trans cx1, (hbq.cell (p := ⟨g, (e) * 9 + 2, none⟩) hltg).trans cx2, (hbq.cell (p := ⟨g, (e) * 9 + 3, none⟩) hltg).trans cx3, (hbq.cell (p := ⟨g, (e) * 9 + 4, none⟩) hltg).trans cx4, (hbq.cell (p := ⟨g, (e) * 9 + 5, none⟩) hltg).trans cx5, (hbq.cell (p := ⟨g, (e) * 9 + 6, none⟩) hltg).trans cx6, (hbq.cell (p := ⟨g, (e) * 9 + 7, none⟩) hltg).trans cx7, (hbq.cell (p := ⟨g, (e) * 9 + 8, none⟩) hltg).trans cx8, (hbq.cell (p := ⟨g, (k) * 9, none⟩) hltg).trans cy0, (hbq.cell (p := ⟨g, (k) * 9 + 1, none⟩) hltg).trans cy1, (hbq.cell (p := ⟨g, (k) * 9 + 2, none⟩) hltg).trans cy2, (hbq.cell (p := ⟨g, (k) * 9 + 3, none⟩) hltg).trans cy3, (hbq.cell (p := ⟨g, (k) * 9 + 4, none⟩) hltg).trans cy4, (hbq.cell (p := ⟨g, (k) * 9 + 5, none⟩) hltg).trans cy5, (hbq.cell (p := ⟨g, (k) * 9 + 6, none⟩) hltg).trans cy6, (hbq.cell (p := ⟨g, (k) * 9 + 7, none⟩) hltg).trans cy7, (hbq.cell (p := ⟨g, (k) * 9 + 8, none⟩) hltg).trans cy8⟩) (first | (go_at_call 43; refine (compare_any x y _).mono ?_; rintro r w3 ⟨rfl, hbq⟩))
          have HN3 := Lib.hid (HQ.out.drew.below hltg hbq)
          have HU3 := Lib.hid (HU.out.drew.below hbq)
          clear hbq cx0 cx1 cx2 cx3 cx4 cx5 cx6 cx7 cx8 cy0 cy1 cy2 cy3 cy4 cy5 cy6 cy7 cy8
          go_wp2_with fail
          go_roundw
          case rel => exact ⟨s, k, by omega, by omega, by omega, rfl, by go_num, HN3, HI, Lib.hid (fun _ => HTAG.out), HU3⟩
          case measure => simp [intOf]; omega
        | false =>
          have hneg : ¬ cmpRow x y < 0 := ltR_false hlt2
          have hnb : (!decide (cmpRow x y < 0)) = true := by rw [decide_eq_false hneg]; rfl
          have HTAG := Lib.hid (show Tag ltR (t (k + 1 - 1)) (t (nn - (k + 1))) from .inr ⟨by have h1 := Hx.out; have h2 := Hy.out; unfold vals at h1 h2; rw [show nn - (k + 1) = e by omega, Nat.add_sub_cancel, ← h1, ← h2]; exact hlt2, by rw [Nat.add_sub_cancel]; exact HTG.out k _ (by omega) (by omega) (by omega) (by omega)⟩)
          clear hlt2
          go_wp2_with fail
          go_region_held3 (fun w' => w'.cell? ⟨g, (e) * 9, none⟩ = some (.int .i64 x.r.kind) ∧ w'.cell? ⟨g, (e) * 9 + 1, none⟩ = some (.int .i64 x.r.time) ∧ w'.cell? ⟨g, (e) * 9 + 2, none⟩ = some (.slice x.r.la x.r.ln x.r.lc) ∧ w'.cell? ⟨g, (e) * 9 + 3, none⟩ = some (.string x.r.text) ∧ w'.cell? ⟨g, (e) * 9 + 4, none⟩ = some (.int .i64 x.r.value) ∧ w'.cell? ⟨g, (e) * 9 + 5, none⟩ = some (.bool x.r.null) ∧ w'.cell? ⟨g, (e) * 9 + 6, none⟩ = some (.int .i64 x.who) ∧ w'.cell? ⟨g, (e) * 9 + 7, none⟩ = some (.int .i64 x.sq) ∧ w'.cell? ⟨g, (e) * 9 + 8, none⟩ = some (.int .i64 x.pl) ∧ w'.cell? ⟨g, (k) * 9, none⟩ = some (.int .i64 y.r.kind) ∧ w'.cell? ⟨g, (k) * 9 + 1, none⟩ = some (.int .i64 y.r.time) ∧ w'.cell? ⟨g, (k) * 9 + 2, none⟩ = some (.slice y.r.la y.r.ln y.r.lc) ∧ w'.cell? ⟨g, (k) * 9 + 3, none⟩ = some (.string y.r.text) ∧ w'.cell? ⟨g, (k) * 9 + 4, none⟩ = some (.int .i64 y.r.value) ∧ w'.cell? ⟨g, (k) * 9 + 5, none⟩ = some (.bool y.r.null) ∧ w'.cell? ⟨g, (k) * 9 + 6, none⟩ = some (.int .i64 y.who) ∧ w'.cell? ⟨g, (k) * 9 + 7, none⟩ = some (.int .i64 y.sq) ∧ w'.cell? ⟨g, (k) * 9 + 8, none⟩ = some (.int .i64 y.pl)) (first | go_keep | exact ⟨(hbq.cell (p := ⟨g, (e) * 9, none⟩) hltg).trans cx0, (hbq.cell (p := ⟨g, (e) * 9 + 1, none⟩) hltg).trans cx1, (hbq.cell (p := ⟨g, (e) * 9 + 2, none⟩) hltg).trans cx2, (hbq.cell (p := ⟨g, (e) * 9 + 3, none⟩) hltg).trans cx3, (hbq.cell (p := ⟨g, (e) * 9 + 4, none⟩) hltg).trans cx4, (hbq.cell (p := ⟨g, (e) * 9 + 5, none⟩) hltg).trans cx5, (hbq.cell (p := ⟨g, (e) * 9 + 6, none⟩) hltg).trans cx6, (hbq.cell (p := ⟨g, (e) * 9 + 7, none⟩) hltg).trans cx7, (hbq.cell (p := ⟨g, (e) * 9 + 8, none⟩) hltg).trans cx8, (hbq.cell (p := ⟨g, (k) * 9, none⟩) hltg).trans cy0, (hbq.cell (p := ⟨g, (k) * 9 + 1, none⟩) hltg).trans cy1, (hbq.cell (p := ⟨g, (k) * 9 + 2, none⟩) hltg).trans cy2, (hbq.cell (p := ⟨g, (k) * 9 + 3, none⟩) hltg).trans cy3, (hbq.cell (p := ⟨g, (k) * 9 + 4, none⟩) hltg).trans cy4, (hbq.cell (p := ⟨g, (k) * 9 + 5, none⟩) hltg).trans cy5, (hbq.cell (p := ⟨g, (k) * 9 + 6, none⟩) hltg).trans cy6, (hbq.cell (p := ⟨g, (k) * 9 + 7, none⟩) hltg).trans cy7, (hbq.cell (p := ⟨g, (k) * 9 + 8, none⟩) hltg).trans cy8⟩) (first | (go_at_call 43; refine (compare_any x y _).mono ?_; rintro r w3 ⟨rfl, hbq⟩))
          have HN3 := Lib.hid (HQ.out.drew.below hltg hbq)
          have HU3 := Lib.hid (HU.out.drew.below hbq)
          clear hbq cx0 cx1 cx2 cx3 cx4 cx5 cx6 cx7 cx8 cy0 cy1 cy2 cy3 cy4 cy5 cy6 cy7 cy8
          go_wp2_with fail
          go_roundw
          case rel => exact ⟨k + 1, r, by omega, by omega, by omega, by go_num, rfl, HN3, Lib.hid (fun _ => HTAG.out), HJ, HU3⟩
          case measure => simp [intOf]; omega
      · obtain rfl : s = r := by omega
        obtain ⟨en, hen⟩ : ∃ en : Nat, en + s ≤ nn ∧ nn ≤ en + s := ⟨nn - s, by omega⟩
        have wen : IntKind.i64.wrap ((nn : Int) - (s : Int)) = (en : Int) := by rw [IntWalk.i64_in _ (by omega)]; omega
        have hr : a ≤ s ∧ s ≤ m ∧ s ≤ mid ∧ m ≤ en ∧ mid ≤ en ∧ en ≤ b ∧ s + (en - m) = mid := by omega
        have HC := Lib.hid (cut4 HS1.out HS2.out hr.1 hr.2.1 hr.2.2.2.1 hr.2.2.2.2.2.1 hr.2.2.2.2.2.2 (fun h1 h2 => by have h := HI.out (by omega); rw [show nn - s = en by omega] at h; exact h) (fun h1 h2 => by have h := HJ.out (by omega); rw [show en - 1 = nn - 1 - s by omega]; exact h) HTG.out)
        have hab2 : a < mid ∧ mid < b := by omega
        have hbe : en ≤ n := by omega
        clear HI HJ
        by_cases hsm : s < m
        · have hsmi : (s : Int) < (m : Int) := by omega
          have hmei2 : (mid : Int) < (en : Int) := by omega
          by_cases hme : m < en
          · have hmei : (m : Int) < (en : Int) := by omega
            have hsmid : (s : Int) < (mid : Int) := by omega
            by_cases has : a < s
            · have hasi : (a : Int) < (s : Int) := by omega
              by_cases heb : en < b
              · have hebi : (en : Int) < (b : Int) := by omega
                go_wp2_with fail
                refine (rot_any (f := vals t) HQ.out hsm hme hbe hc (by omega)).mono ?_
                rintro r w4 ⟨rfl, hn4, ht4⟩
                rw [vals_rot] at hn4
                have HN4 := Lib.hid hn4
                have HU4 := Lib.hid (HU.out.trans ht4)
                clear hn4 ht4
                go_wp2_with fail
                refine (IH.out w4 g n c (rot t s m en) a s mid (by omega) HN4.out (Nat.lt_of_lt_of_le hg HU4.out.size) (by omega) (by omega) (by omega) hc hcm HC.out.one HC.out.two HC.out.young1).mono ?_
                rintro r w5 ⟨rfl, ⟨v1, hn5, hv5⟩, ht5⟩
                have HN5 := Lib.hid hn5
                have HV5 : Hid (Half (rot t s m en) v1 a mid) := Lib.hid hv5
                have HU5 := Lib.hid (HU4.out.trans ht5)
                clear hn5 hv5 ht5
                go_wp2_with fail
                refine (IH.out w5 g n c v1 mid en b (by omega) HN5.out (Nat.lt_of_lt_of_le hg HU5.out.size) (by omega) (by omega) (by omega) hc hcm (HC.out.three.congr (fun k h1 h2 => HV5.out.2.2 k (.inr h1))) (HC.out.four.congr (fun k h1 h2 => HV5.out.2.2 k (.inr (by omega)))) (fun i j h1 h2 h3 h4 => by rw [HV5.out.2.2 i (.inr h1), HV5.out.2.2 j (.inr (by omega))]; exact HC.out.young2 i j h1 h2 h3 h4)).mono ?_
                rintro r w6 ⟨rfl, ⟨v2, hn6, hv6⟩, ht6⟩
                have HN6 := Lib.hid hn6
                have HV6 : Hid (Half v1 v2 mid b) := Lib.hid hv6
                have HU6 := Lib.hid (HU5.out.trans ht6)
                clear hn6 hv6 ht6
                go_wp2_with fail
                first | go_ret | go_end0 | refine bodyPost_ret (results_none rfl _ _ _) rfl ?_
                have hd := HC.out.done HV5.out HV6.out (by omega) (by omega)
                exact ⟨rfl, ⟨_, HN6.out, hd.1, by first | exact hd.2.1 | exact fun x y => hd.2.1 (x, y), hd.2.2⟩, HU6.out⟩
              · have hebi : ¬ (en : Int) < (b : Int) := by omega
                go_wp2_with fail
                refine (rot_any (f := vals t) HQ.out hsm hme hbe hc (by omega)).mono ?_
                rintro r w4 ⟨rfl, hn4, ht4⟩
                rw [vals_rot] at hn4
                have HN4 := Lib.hid hn4
                have HU4 := Lib.hid (HU.out.trans ht4)
                clear hn4 ht4
                go_wp2_with fail
                refine (IH.out w4 g n c (rot t s m en) a s mid (by omega) HN4.out (Nat.lt_of_lt_of_le hg HU4.out.size) (by omega) (by omega) (by omega) hc hcm HC.out.one HC.out.two HC.out.young1).mono ?_
                rintro r w5 ⟨rfl, ⟨v1, hn5, hv5⟩, ht5⟩
                have HN5 := Lib.hid hn5
                have HV5 : Hid (Half (rot t s m en) v1 a mid) := Lib.hid hv5
                have HU5 := Lib.hid (HU4.out.trans ht5)
                clear hn5 hv5 ht5
                go_wp2_with fail
                have HV6 : Hid (Half v1 v1 mid b) := Lib.hid (Half.refl (by
                  first
                    | exact (by have h := HC.out.four.congr (g := v1) (fun k h1 h2 => HV5.out.2.2 k (.inr (by omega))); rw [show en = mid by omega] at h; exact h)
                    | exact (by have h := HC.out.three.congr (g := v1) (fun k h1 h2 => HV5.out.2.2 k (.inr h1)); rw [show en = b by omega] at h; exact h)))
                have HN6 := HN5
                have HU6 := HU5
                first | go_ret | go_end0 | refine bodyPost_ret (results_none rfl _ _ _) rfl ?_
                have hd := HC.out.done HV5.out HV6.out (by omega) (by omega)
                exact ⟨rfl, ⟨_, HN6.out, hd.1, by first | exact hd.2.1 | exact fun x y => hd.2.1 (x, y), hd.2.2⟩, HU6.out⟩
            · have hasi : ¬ (a : Int) < (s : Int) := by omega
              by_cases heb : en < b
              · have hebi : (en : Int) < (b : Int) := by omega
                go_wp2_with fail
                refine (rot_any (f := vals t) HQ.out hsm hme hbe hc (by omega)).mono ?_
                rintro r w4 ⟨rfl, hn4, ht4⟩
                rw [vals_rot] at hn4
                have HN4 := Lib.hid hn4
                have HU4 := Lib.hid (HU.out.trans ht4)
                clear hn4 ht4
                go_wp2_with fail
                obtain ⟨v1, hv1⟩ : ∃ v1, v1 = rot t s m en := ⟨_, rfl⟩
                have HV5 : Hid (Half (rot t s m en) v1 a mid) := Lib.hid (by
                  rw [hv1]
                  first
                    | exact Half.refl (by have h := HC.out.two; rw [show s = a by omega] at h ⊢; exact h)
                    | exact Half.refl (by have h := HC.out.one; rw [show s = mid by omega] at h ⊢; exact h))
                have HN5 := HN4
                rw [← hv1] at HN5
                have HU5 := HU4
                refine (IH.out w4 g n c v1 mid en b (by omega) HN5.out (Nat.lt_of_lt_of_le hg HU5.out.size) (by omega) (by omega) (by omega) hc hcm (HC.out.three.congr (fun k h1 h2 => HV5.out.2.2 k (.inr h1))) (HC.out.four.congr (fun k h1 h2 => HV5.out.2.2 k (.inr (by omega)))) (fun i j h1 h2 h3 h4 => by rw [HV5.out.2.2 i (.inr h1), HV5.out.2.2 j (.inr (by omega))]; exact HC.out.young2 i j h1 h2 h3 h4)).mono ?_
                rintro r w6 ⟨rfl, ⟨v2, hn6, hv6⟩, ht6⟩
                have HN6 := Lib.hid hn6
                have HV6 : Hid (Half v1 v2 mid b) := Lib.hid hv6
                have HU6 := Lib.hid (HU5.out.trans ht6)
                clear hn6 hv6 ht6
                go_wp2_with fail
                first | go_ret | go_end0 | refine bodyPost_ret (results_none rfl _ _ _) rfl ?_
                have hd := HC.out.done HV5.out HV6.out (by omega) (by omega)
                exact ⟨rfl, ⟨_, HN6.out, hd.1, by first | exact hd.2.1 | exact fun x y => hd.2.1 (x, y), hd.2.2⟩, HU6.out⟩
              · have hebi : ¬ (en : Int) < (b : Int) := by omega
                go_wp2_with fail
                refine (rot_any (f := vals t) HQ.out hsm hme hbe hc (by omega)).mono ?_
                rintro r w4 ⟨rfl, hn4, ht4⟩
                rw [vals_rot] at hn4
                have HN4 := Lib.hid hn4
                have HU4 := Lib.hid (HU.out.trans ht4)
                clear hn4 ht4
                go_wp2_with fail
                obtain ⟨v1, hv1⟩ : ∃ v1, v1 = rot t s m en := ⟨_, rfl⟩
                have HV5 : Hid (Half (rot t s m en) v1 a mid) := Lib.hid (by
                  rw [hv1]
                  first
                    | exact Half.refl (by have h := HC.out.two; rw [show s = a by omega] at h ⊢; exact h)
                    | exact Half.refl (by have h := HC.out.one; rw [show s = mid by omega] at h ⊢; exact h))
                have HN5 := HN4
                rw [← hv1] at HN5
                have HU5 := HU4
                have HV6 : Hid (Half v1 v1 mid b) := Lib.hid (Half.refl (by
                  first
                    | exact (by have h := HC.out.four.congr (g := v1) (fun k h1 h2 => HV5.out.2.2 k (.inr (by omega))); rw [show en = mid by omega] at h; exact h)
                    | exact (by have h := HC.out.three.congr (g := v1) (fun k h1 h2 => HV5.out.2.2 k (.inr h1)); rw [show en = b by omega] at h; exact h)))
                have HN6 := HN5
                have HU6 := HU5
                first | go_ret | go_end0 | refine bodyPost_ret (results_none rfl _ _ _) rfl ?_
                have hd := HC.out.done HV5.out HV6.out (by omega) (by omega)
                exact ⟨rfl, ⟨_, HN6.out, hd.1, by first | exact hd.2.1 | exact fun x y => hd.2.1 (x, y), hd.2.2⟩, HU6.out⟩
          · have hmei : ¬ (m : Int) < (en : Int) := by omega
            have hsmid : ¬ (s : Int) < (mid : Int) := by omega
            by_cases has : a < s
            · have hasi : (a : Int) < (s : Int) := by omega
              by_cases heb : en < b
              · have hebi : (en : Int) < (b : Int) := by omega
                exfalso; omega
              · have hebi : ¬ (en : Int) < (b : Int) := by omega
                exfalso; omega
            · have hasi : ¬ (a : Int) < (s : Int) := by omega
              by_cases heb : en < b
              · have hebi : (en : Int) < (b : Int) := by omega
                exfalso; omega
              · have hebi : ¬ (en : Int) < (b : Int) := by omega
                exfalso; omega
        · have hsmi : ¬ (s : Int) < (m : Int) := by omega
          have hmei2 : ¬ (mid : Int) < (en : Int) := by omega
          by_cases hme : m < en
          · have hmei : (m : Int) < (en : Int) := by omega
            have hsmid : (s : Int) < (mid : Int) := by omega
            by_cases has : a < s
            · have hasi : (a : Int) < (s : Int) := by omega
              by_cases heb : en < b
              · have hebi : (en : Int) < (b : Int) := by omega
                go_wp2_with fail
                have hv : rot t s m en = t := by first | rw [show s = m by omega, rot_none' t m en (by omega)] | rw [show en = m by omega, rot_none t s m]
                have HN4 : Hid (Nines wq g n (vals (rot t s m en))) := by rw [hv]; exact HQ
                have HU4 := HU
                refine (IH.out wq g n c (rot t s m en) a s mid (by omega) HN4.out (Nat.lt_of_lt_of_le hg HU4.out.size) (by omega) (by omega) (by omega) hc hcm HC.out.one HC.out.two HC.out.young1).mono ?_
                rintro r w5 ⟨rfl, ⟨v1, hn5, hv5⟩, ht5⟩
                have HN5 := Lib.hid hn5
                have HV5 : Hid (Half (rot t s m en) v1 a mid) := Lib.hid hv5
                have HU5 := Lib.hid (HU4.out.trans ht5)
                clear hn5 hv5 ht5
                go_wp2_with fail
                have HV6 : Hid (Half v1 v1 mid b) := Lib.hid (Half.refl (by
                  first
                    | exact (by have h := HC.out.four.congr (g := v1) (fun k h1 h2 => HV5.out.2.2 k (.inr (by omega))); rw [show en = mid by omega] at h; exact h)
                    | exact (by have h := HC.out.three.congr (g := v1) (fun k h1 h2 => HV5.out.2.2 k (.inr h1)); rw [show en = b by omega] at h; exact h)))
                have HN6 := HN5
                have HU6 := HU5
                first | go_ret | go_end0 | refine bodyPost_ret (results_none rfl _ _ _) rfl ?_
                have hd := HC.out.done HV5.out HV6.out (by omega) (by omega)
                exact ⟨rfl, ⟨_, HN6.out, hd.1, by first | exact hd.2.1 | exact fun x y => hd.2.1 (x, y), hd.2.2⟩, HU6.out⟩
              · have hebi : ¬ (en : Int) < (b : Int) := by omega
                exfalso; omega
            · have hasi : ¬ (a : Int) < (s : Int) := by omega
              by_cases heb : en < b
              · have hebi : (en : Int) < (b : Int) := by omega
                exfalso; omega
              · have hebi : ¬ (en : Int) < (b : Int) := by omega
                exfalso; omega
          · have hmei : ¬ (m : Int) < (en : Int) := by omega
            have hsmid : ¬ (s : Int) < (mid : Int) := by omega
            by_cases has : a < s
            · have hasi : (a : Int) < (s : Int) := by omega
              by_cases heb : en < b
              · have hebi : (en : Int) < (b : Int) := by omega
                go_wp2_with fail
                have hv : rot t s m en = t := by first | rw [show s = m by omega, rot_none' t m en (by omega)] | rw [show en = m by omega, rot_none t s m]
                have HN4 : Hid (Nines wq g n (vals (rot t s m en))) := by rw [hv]; exact HQ
                have HU4 := HU
                obtain ⟨v1, hv1⟩ : ∃ v1, v1 = rot t s m en := ⟨_, rfl⟩
                have HV5 : Hid (Half (rot t s m en) v1 a mid) := Lib.hid (by
                  rw [hv1]
                  first
                    | exact Half.refl (by have h := HC.out.two; rw [show s = a by omega] at h ⊢; exact h)
                    | exact Half.refl (by have h := HC.out.one; rw [show s = mid by omega] at h ⊢; exact h))
                have HN5 := HN4
                rw [← hv1] at HN5
                have HU5 := HU4
                have HV6 : Hid (Half v1 v1 mid b) := Lib.hid (Half.refl (by
                  first
                    | exact (by have h := HC.out.four.congr (g := v1) (fun k h1 h2 => HV5.out.2.2 k (.inr (by omega))); rw [show en = mid by omega] at h; exact h)
                    | exact (by have h := HC.out.three.congr (g := v1) (fun k h1 h2 => HV5.out.2.2 k (.inr h1)); rw [show en = b by omega] at h; exact h)))
                have HN6 := HN5
                have HU6 := HU5
                first | go_ret | go_end0 | refine bodyPost_ret (results_none rfl _ _ _) rfl ?_
                have hd := HC.out.done HV5.out HV6.out (by omega) (by omega)
                exact ⟨rfl, ⟨_, HN6.out, hd.1, by first | exact hd.2.1 | exact fun x y => hd.2.1 (x, y), hd.2.2⟩, HU6.out⟩
              · have hebi : ¬ (en : Int) < (b : Int) := by omega
                exfalso; omega
            · have hasi : ¬ (a : Int) < (s : Int) := by omega
              by_cases heb : en < b
              · have hebi : (en : Int) < (b : Int) := by omega
                exfalso; omega
              · have hebi : ¬ (en : Int) < (b : Int) := by omega
                exfalso; omega
    
end Go.Proofs.Ytjbljplgkbnpmaa
