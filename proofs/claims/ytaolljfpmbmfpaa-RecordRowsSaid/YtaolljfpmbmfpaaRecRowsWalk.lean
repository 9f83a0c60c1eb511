/- The law RecordRows, walked. -/
import Derived.Test.YtaolljfpmbmfpaaRowRows
import Derived.Test.YtaolljfpmbmfpaaRecLives
namespace Go.Proofs.Ytaolljfpmbmfpaa
open Go.RowKit LabPlain RecPlain
set_option linter.unusedVariables false

theorem RowsOwn.setCell_low {w : World} {base : Nat} {v : Value} {n : Nat} {l : List RowV} (h : RowsOwn w base v n l) {a : Addr} (ha : a.block < base) (u : Value) : RowsOwn (w.setCell a u) base v n l :=
  ⟨h.len, ownsRow_setCell_below h.own ha u, h.fits, fun x hx => ⟨ownsRow_setCell_below (h.labs x hx).1 ha u, (h.labs x hx).2⟩⟩

/-- rows whose labels' values are being turned: the rows' own cells stand, their labels' blocks are there, and another call's rows are as they were -/
structure Turnd (wa w : World) (B S : Nat) (v1 : Value) (n : Nat) (rs : List RowV) (v2 : Value) (ms : List RowV) : Prop where
  below : Below B wa w
  own : w.ownsRow B 37 9 v1 n (rcells rs)
  labs : ∀ x ∈ rs, x.r.ln = 0 ∨ ∃ g cur, x.r.la = some ⟨g, 0, none⟩ ∧ B ≤ g ∧ g < S ∧ w.heap[g]? = some (.cells cur 39 (0, 0)) ∧ x.r.ln * 2 ≤ cur.size
  lens : ∀ x ∈ rs, x.r.ln ≤ x.r.lc ∧ x.r.lc ≤ 9223372036854775807
  want : RowsOwn w S v2 n ms
theorem own_lab_blk {w : World} {base : Nat} {a : Option Addr} {n c : Nat} {xs : List Value} (h : w.ownsRow base 39 2 (.slice a n c) n xs) : n = 0 ∨ ∃ g cur, a = some ⟨g, 0, none⟩ ∧ base ≤ g ∧ g < w.heap.size ∧ w.heap[g]? = some (.cells cur 39 (0, 0)) ∧ n * 2 ≤ cur.size := by
  rcases h.2 with ⟨_, h0⟩ | ⟨g, cap, cur, he, hg, hh, hnc, hcap, hsz, _⟩
  · exact .inl h0
  · simp only [Value.slice.injEq] at he
    obtain ⟨rfl, _, rfl⟩ := he
    refine .inr ⟨g, cur, rfl, hg, (Array.getElem?_eq_some_iff.1 hh).1, hh, ?_⟩
    rw [hsz]; exact Nat.mul_le_mul_right 2 hnc
theorem Turnd.start {wa w4 w : World} {B : Nat} {v1 v2 : Value} {n : Nat} {rs ms : List RowV} (hb : Below B wa w) (h : RowsOwn w4 B v1 n rs) (hw : Below w4.heap.size w4 w) (h2 : RowsOwn w w4.heap.size v2 n ms) : Turnd wa w B w4.heap.size v1 n rs v2 ms := by
  refine ⟨hb, (h.below hw).own, fun x hx => ?_, fun x hx => ?_, h2⟩
  · rcases own_lab_blk (h.labs x hx).1 with h0 | ⟨g, cur, h1, h2, h3, h4, h5⟩
    · exact .inl h0
    · exact .inr ⟨g, cur, h1, h2, h3, (hw.block g h3).trans h4, h5⟩
  · have hat := own_labs (h.labs x hx).1 (h.labs x hx).2.1 (h.labs x hx).2.2
    exact ⟨hat.cap, hat.capm⟩
theorem Turnd.set {wa w : World} {B S : Nat} {v1 v2 : Value} {n : Nat} {rs ms : List RowV} (h : Turnd wa w B S v1 n rs v2 ms) {g : Nat} {cur : Array Value} (hB : B ≤ g) (hS : g < S) (hg : w.heap[g]? = some (.cells cur 39 (0, 0))) (i : Nat) (u : Value) : Turnd wa (w.setCell ⟨g, i, none⟩ u) B S v1 n rs v2 ms := by
  refine ⟨h.below.setCell hB u, ?_, fun x hx => ?_, h.lens, h.want.setCell_low hS u⟩
  · refine ⟨h.own.1, ?_⟩
    rcases h.own.2 with h0 | ⟨b, cap, c2, h1, h2, h3, h4⟩
    · exact .inl h0
    · have hne : b ≠ g := fun e => by
        subst e
        rw [h3] at hg
        simp at hg
      exact .inr ⟨b, cap, c2, h1, h2, by rw [Below.heap_setCell _ _ _ _ hne]; exact h3, h4⟩
  · rcases h.labs x hx with h0 | ⟨b, c2, h1, h2, h3, h4, h5⟩
    · exact .inl h0
    · by_cases e : b = g
      · subst e
        rw [h4] at hg
        simp only [Option.some.injEq, Obj.cells.injEq, and_true] at hg
        subst hg
        exact .inr ⟨b, _, h1, h2, h3, heap_setCell_same _ _ _ _ _ _ h4, by simpa using h5⟩
      · exact .inr ⟨b, c2, h1, h2, h3, by rw [Below.heap_setCell _ _ _ _ e]; exact h4, h5⟩
theorem Turnd.later {wa w w' : World} {B S : Nat} {v1 v2 : Value} {n : Nat} {rs ms : List RowV} (h : Turnd wa w B S v1 n rs v2 ms) (hB : B ≤ w.heap.size) (hb : Below w.heap.size w w') : Turnd wa w' B S v1 n rs v2 ms := by
  refine ⟨h.below.trans (hb.mono hB), own_below h.own hb, fun x hx => ?_, h.lens, h.want.below hb⟩
  rcases h.labs x hx with h0 | ⟨g, cur, h1, h2, h3, h4, h5⟩
  · exact .inl h0
  · exact .inr ⟨g, cur, h1, h2, h3, (hb.block g (Array.getElem?_eq_some_iff.1 h4).1).trans h4, h5⟩
theorem Turnd.row {wa w : World} {B S : Nat} {v1 v2 : Value} {n : Nat} {rs ms : List RowV} (h : Turnd wa w B S v1 n rs v2 ms) (hl : rs.length = n) {i : Nat} (hi : i < n) :
    ∃ g c, v1 = .slice (some ⟨g, 0, none⟩) n c ∧ n ≤ c ∧ c ≤ 9223372036854775807 ∧ ∀ x, x = rs.getD i row0 → w.cell? ⟨g, 0 + i * 9 + 2, none⟩ = some (.slice x.r.la x.r.ln x.r.lc) := by
  rcases h.own.2 with ⟨_, h0⟩ | ⟨g, cap, cur, rfl, hg, hh, hnc, hcap, hsz, htake⟩
  · omega
  · refine ⟨g, cap, rfl, hnc, by unfold maxLen at hcap; exact hcap, fun x hx => ?_⟩
    have h2 : (rcells rs)[i * 9 + 2]? = some (.slice x.r.la x.r.ln x.r.lc) := by
      unfold rcells
      rw [flat_at RowV.cells 9 (fun _ => rfl) row0 rs i 2 (by omega) (by omega), hx]; rfl
    rw [Nat.zero_add, cell_of_row w _ _ _ _ (0, 0) hh, ← h2, ← htake, List.getElem?_take_of_lt (by omega), Array.getElem?_toList]

set_option maxRecDepth 100000 in
set_option maxHeartbeats 4000000 in
theorem record_rows (mk sq : Int) (a : Option Addr) (n c : Nat) (l : List RecV) (w : World) (hmk : -9223372036854775808 ≤ mk ∧ mk ≤ 9223372036854775807) (hsq : -9223372036854775808 ≤ sq ∧ sq ≤ 9223372036854775807) (h : RecsAt w a n c l) :
    Calls Try.prog 4 #[.agg #[.int .i64 mk, .int .i64 sq, .slice a n c]] w fun e w' => e = .returned (.bool true) ∧ Below w.heap.size w w' := by
  obtain ⟨w1, hw1⟩ : ∃ w1, w1 = w.alloc (.cells #[.int .i64 mk, .int .i64 sq, .slice a n c] 24) := ⟨_, rfl⟩
  have s1 : w.heap.size < w1.heap.size := by rw [hw1]; exact (Array.getElem?_eq_some_iff.1 (heap_alloc_new w _)).1
  have hb1 : Below w.heap.size w w1 := by rw [hw1]; exact (Below.refl _ _).alloc (Nat.le_refl _) _
  have hbox : ∀ (wr : World), Below w1.heap.size w1 wr → wr.cell? ⟨w.heap.size, 0, none⟩ = some (.int .i64 mk) ∧ wr.cell? ⟨w.heap.size, 1, none⟩ = some (.int .i64 sq) ∧ wr.cell? ⟨w.heap.size, 2, none⟩ = some (.slice a n c) := by
    intro wr hb
    rw [hw1] at hb
    exact ⟨box_cell hb rfl, box_cell hb rfl, box_cell hb rfl⟩
  have hcap := h.cap
  have hcm := h.capm
  have HH := Lib.hid (h.kept hb1)
  have HL := Lib.hid h.len
  have HBOX := Lib.hid hbox
  have HB1 := Lib.hid hb1
  have HW1 := Lib.hid hw1
  have HS1 := Lib.hid s1
  have HMS := Lib.hid (And.intro hmk hsq)
  clear h hb1 hbox hw1 s1 hmk hsq
  by_cases h70 : 70 < n
  · have h70i : (70 : Int) < (n : Int) := by omega
    clear h70
    go_enter Try.func4, Try.ntmps4
    go_wp2_with fail
    rw [← HW1.out]
    refine (lives9_any w1).mono ?_
    rintro e w2 ⟨rfl, hb2⟩
    obtain ⟨b0, b1, b2⟩ := HBOX.out w2 hb2
    have HB2 := Lib.hid hb2
    clear hb2
    go_wp2_with fail
    refine (lives9_any w2).mono ?_
    rintro e w3 ⟨rfl, hb3⟩
    have HB3 := Lib.hid ((HB1.out.trans (HB2.out.mono HB1.out.size)).trans (hb3.mono (Nat.le_trans HB1.out.size HB2.out.size)))
    clear hb3
    go_wp2_with fail
    go_ret
    exact ⟨rfl, HB3.out⟩
  · have h70i : (n : Int) ≤ 70 := by omega
    have hn1000 : n ≤ 1000 := by omega
    clear h70
    go_enter Try.func4, Try.ntmps4
    go_wp2_with fail
    rw [← HW1.out]
    refine (lives9_any w1).mono ?_
    rintro e w2 ⟨rfl, hb2⟩
    obtain ⟨b0, b1, b2⟩ := HBOX.out w2 hb2
    have HLR := Lib.hid (HH.out.kept hb2)
    have HB2 := Lib.hid hb2
    have hltb := Nat.lt_of_lt_of_le HS1.out hb2.size
    clear hb2
    go_wp2_with fail
    go_region_held3 (fun w' => w'.cell? ⟨w.heap.size, 0, none⟩ = some (.int .i64 mk) ∧ w'.cell? ⟨w.heap.size, 1, none⟩ = some (.int .i64 sq) ∧ w'.cell? ⟨w.heap.size, 2, none⟩ = some (.slice a n c)) (first | exact ⟨(hba.cell (p := ⟨w.heap.size, 0, none⟩) hltb).trans b0, (hba.cell (p := ⟨w.heap.size, 1, none⟩) hltb).trans b1, (hba.cell (p := ⟨w.heap.size, 2, none⟩) hltb).trans b2⟩ | exact ⟨(hbr.cell (p := ⟨w.heap.size, 0, none⟩) (Nat.lt_of_lt_of_le hltb hba.size)).trans ((hba.cell (p := ⟨w.heap.size, 0, none⟩) hltb).trans b0), (hbr.cell (p := ⟨w.heap.size, 1, none⟩) (Nat.lt_of_lt_of_le hltb hba.size)).trans ((hba.cell (p := ⟨w.heap.size, 1, none⟩) hltb).trans b1), (hbr.cell (p := ⟨w.heap.size, 2, none⟩) (Nat.lt_of_lt_of_le hltb hba.size)).trans ((hba.cell (p := ⟨w.heap.size, 2, none⟩) hltb).trans b2)⟩ | go_keep) (first | (go_at_call 14; refine (recrows_any HMS.out.1 HMS.out.2 (HLR.out.kept (Below.refl _ _).drew) hn1000).mono ?_; rintro r w4 ⟨v1, rs, rfl, hown1, hsay1, hba⟩) | (go_at_call 15; refine (rrows_any HMS.out.1 HMS.out.2 (HLR.out.kept ((Below.refl _ _).drew.trans hba)) hn1000).mono ?_; rintro r w5 ⟨v2, ms, rfl, hown2, hsay2, hbr⟩))
    have hba' : Below w2.heap.size w2 w4 := (Below.refl _ _).drew.trans hba
    have ht : Turnd w2 w5 w2.heap.size w4.heap.size v1 n rs v2 ms := Turnd.start (hba'.trans (hbr.mono hba'.size)) hown1 hbr hown2
    have HT := Lib.hid ht
    have HRL := Lib.hid hown1.len
    have HSAY := Lib.hid (And.intro hsay1 hsay2)
    obtain ⟨a1, c1, rfl, hat1⟩ := (hown1.below hbr).at
    obtain ⟨a2, c2, rfl, hat2⟩ := hown2.at
    have HA1 := Lib.hid hat1
    have HA2 := Lib.hid hat2
    have hsame : sameRs rs ms = true := by
      unfold sameRs
      rw [decide_eq_true (by rw [hown1.len, hown2.len]), hown1.len, sameTo_yes (fun j hj => by rw [hsay1 j hj, hsay2 j hj])]; rfl
    have HSR := Lib.hid (samerows_any hat1 hat2)
    rw [hsame] at HSR
    clear hba hbr hba' ht hown1 hown2 hsay1 hsay2 hat1 hat2 hsame b0 b1 b2
    go_wp2_with fail
    refine HSR.out.mono ?_
    rintro e w6 ⟨rfl, hb6⟩
    have HT6 := Lib.hid (HT.out.later HT.out.below.size hb6)
    clear hb6
    go_wp2_with fail
    go_loopw [26] (fun s26 wr => ∃ i : Nat, i ≤ n ∧ s26 = .int .i64 (i : Int) ∧ Hid (Turnd w2 wr w2.heap.size w4.heap.size (.slice a1 n c1) n rs (.slice a2 n c2) ms)) (fun s26 _ => n - (intOf s26).toNat)
    case atStart => exact ⟨0, by omega, rfl, HT6⟩
    case round =>
      obtain ⟨i, hi, rfl, HTR⟩ := hrel
      rename World => wr
      by_cases hin : i < n
      · obtain ⟨g, cap, he, hgc, hgm, hcell⟩ := HTR.out.row HRL.out hin
        cases he
        obtain ⟨x, hx⟩ : ∃ x, x = rs.getD i row0 := ⟨_, rfl⟩
        have hrow := hcell x hx
        rw [Nat.zero_add] at hrow
        have hmem : x ∈ rs := by rw [hx]; exact row_mem (by have := HRL.out; omega)
        obtain ⟨hlc, hlm⟩ := HTR.out.lens x hmem
        obtain ⟨ln, hln⟩ : ∃ ln, ln = x.r.ln := ⟨_, rfl⟩
        obtain ⟨lc, hlcn⟩ : ∃ lc, lc = x.r.lc := ⟨_, rfl⟩
        obtain ⟨la, hla⟩ : ∃ la, la = x.r.la := ⟨_, rfl⟩
        rw [← hln, ← hlcn, ← hla] at hrow
        rw [← hln, ← hlcn] at hlc
        rw [← hlcn] at hlm
        have HLN := Lib.hid hln
        have HLC := Lib.hid hlcn
        have HLA := Lib.hid hla
        have HX := Lib.hid hx
        have HMEM := Lib.hid hmem
        have hini : (i : Int) < (n : Int) := by omega
        clear hcell hx hmem hln hlcn hla
        go_wp2_with fail
        go_loopw [36] (fun s36 wq => ∃ k : Nat, k ≤ ln ∧ s36 = .int .i64 (k : Int) ∧ Hid (Turnd w2 wq w2.heap.size w4.heap.size (.slice (some ⟨g, 0, none⟩) n c1) n rs (.slice a2 n c2) ms)) (fun s36 _ => ln - (intOf s36).toNat)
        case atStart => exact ⟨0, by omega, rfl, HTR⟩
        case round =>
          clear hrow
          obtain ⟨k, hk, rfl, HTQ⟩ := hrel
          rename World => wq
          by_cases hkl : k < ln
          · obtain ⟨g2, cap2, he2, _, _, hcell⟩ := HTQ.out.row HRL.out hin
            cases he2
            have hrow := hcell x HX.out
            rw [Nat.zero_add, ← HLN.out, ← HLC.out, ← HLA.out] at hrow
            rcases HTQ.out.labs x HMEM.out with h0 | ⟨gl, cur, e1, e2, e3, e4, e5⟩
            · exact absurd (HLN.out.trans h0) (by omega)
            · rw [← HLA.out] at e1
              rw [← HLN.out] at e5
              subst e1
              have hlt : k * 2 + 1 < cur.size := by omega
              have hc1 : wq.cell? ⟨gl, k * 2 + 1, none⟩ = some cur[k * 2 + 1] := by rw [cell_of_row _ _ _ _ _ (0, 0) e4]; simp [hlt]
              have hf1 : wq.frozen? ⟨gl, k * 2 + 1, none⟩ = false := by simp [World.frozen?, e4]
              obtain ⟨old, hold⟩ : ∃ old, old = cur[k * 2 + 1] := ⟨_, rfl⟩
              rw [← hold] at hc1
              have HTS := Lib.hid (HTQ.out.set e2 e3 e4 (k * 2 + 1) (.string { data := #[116, 117, 114, 110, 101, 100] }))
              have hkli : (k : Int) < (ln : Int) := by omega
              clear hcell e2 e3 e4 e5 hlt hold
              go_wp2_with fail
              go_roundw
              case rel => exact ⟨k + 1, by omega, by go_num, HTS⟩
              case measure => simp [intOf]; omega
          · obtain rfl : k = ln := by omega
            clear hkl
            go_wp2_with fail
            go_roundw
            case rel => exact ⟨i + 1, by omega, by go_num, HTQ⟩
            case measure => simp [intOf]; omega
      · obtain rfl : i = n := by omega
        clear hin
        have hbb := HB2.out.trans (HTR.out.below.mono HB2.out.size)
        obtain ⟨b0, b1, b2⟩ := HBOX.out wr hbb
        have HRR := Lib.hid (recrows_any HMS.out.1 HMS.out.2 (HH.out.kept hbb) hn1000)
        have HBB := Lib.hid (HB1.out.trans (hbb.mono HB1.out.size))
        clear hbb
        go_wp2_with fail
        refine HRR.out.mono ?_
        rintro e w7 ⟨v3, qs, rfl, hown3, hsay3, hb7⟩
        obtain ⟨a3, c3, rfl, hat3⟩ := hown3.at
        obtain ⟨a4, c4, he4, hat4⟩ := (HTR.out.want.below hb7).at
        cases he4
        have hsame : sameRs qs ms = true := by
          unfold sameRs
          rw [decide_eq_true (by rw [hown3.len, HTR.out.want.len]), hown3.len, sameTo_yes (fun j hj => by rw [hsay3 j hj, HSAY.out.2 j hj])]; rfl
        have HSR2 := Lib.hid (samerows_any hat3 hat4)
        rw [hsame] at HSR2
        have HB7 := Lib.hid (HBB.out.trans (hb7.mono HBB.out.size))
        clear hown3 hsay3 hb7 hat3 hat4 hsame
        go_wp2_with fail
        refine HSR2.out.mono ?_
        rintro e w8 ⟨rfl, hb8⟩
        have HB8 := Lib.hid (HB7.out.trans (hb8.mono HB7.out.size))
        clear hb8
        go_wp2_with fail
        go_ret
        exact ⟨rfl, HB8.out⟩
end Go.Proofs.Ytaolljfpmbmfpaa
