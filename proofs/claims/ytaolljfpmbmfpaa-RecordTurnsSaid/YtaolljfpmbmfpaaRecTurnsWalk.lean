/- The law RecordTurns, walked. -/
import Derived.Test.YtaolljfpmbmfpaaRecLives
import Derived.Deep.RegionLaw
import Derived.BigRegion
namespace Go.Proofs.Ytaolljfpmbmfpaa
open Go.RowKit LabPlain RecPlain
set_option linter.unusedVariables false

theorem rec_info : (Try.prog.info? 28).map (fun i => (i.zero, i.size, i.bytes)) = some (some (.agg #[.int .i64 0, .int .i64 0, .slice none 0 0, .string ByteArray.empty, .int .i64 0, .bool false]), 6, 72) := by kernel_rfl
def ccells (l : List RecV) : List Value := l.flatMap RecV.cells
theorem ccells_len (l : List RecV) : (ccells l).length = l.length * 6 := flat_len RecV.cells 6 (fun _ => rfl) l
theorem ccells_one (l : List RecV) : ∀ u ∈ ccells l, u.oneCell' = true := by
  intro u hu
  obtain ⟨x, _, hx⟩ := List.mem_flatMap.1 hu
  simp [RecV.cells] at hx
  rcases hx with rfl | rfl | rfl | rfl | rfl | rfl <;> rfl
/-- records that a call owns -/
theorem RecsAt.ofOwn {w : World} {base n : Nat} {v : Value} {l : List RecV} (h : w.ownsRow base 28 6 v n (ccells l)) (hn : l.length = n) (hf : ∀ x ∈ l, x.fits) (hl : ∀ x ∈ l, LabsAt w x.la x.ln x.lc x.labs) : ∃ a c, v = .slice a n c ∧ RecsAt w a n c l := by
  rcases h.2 with ⟨rfl, h0⟩ | ⟨g, cap, cur, rfl, hg, hh, hnc, hcap, hsz, htake⟩
  · subst h0
    obtain rfl : l = [] := List.eq_nil_of_length_eq_zero hn
    exact ⟨none, 0, rfl, RecsAt.empty w none 0 (by omega) (fun _ => rfl)⟩
  · refine ⟨_, cap, rfl, hn, hnc, by unfold maxLen at hcap; exact hcap, (fun e => by cases e), hf, hl, fun hp => ⟨g, 0, rfl, (Array.getElem?_eq_some_iff.1 hh).1, fun i hi j u hu => ?_⟩⟩
    have hj : j < 6 := (List.getElem?_eq_some_iff.1 hu).1
    have h2 : (ccells l)[i * 6 + j]? = some u := by
      unfold ccells
      rw [flat_at RecV.cells 6 (fun _ => rfl) rec0 l i j (by omega) hj, hu]
    rw [Nat.zero_add, cell_of_row w _ _ _ _ (0, 0) hh, ← h2, ← htake, List.getElem?_take_of_lt (by omega), Array.getElem?_toList]
/-- a part of records that lie somewhere: its cells -/
theorem RecsAt.part {w : World} {b off n : Nat} {l : List RecV} (hc : ∀ i, i < n → ∀ j u, (l.getD i rec0).cells[j]? = some u → w.cell? ⟨b, off + i * 6 + j, none⟩ = some u) (hl : l.length = n) (k m : Nat) (hkm : k + m ≤ n) :
    ∀ j u, (ccells ((l.drop k).take m))[j]? = some u → w.cell? ((⟨b, off + k * 6, none⟩ : Addr).add j) = some u := by
  intro j u hj
  have hlen : ((l.drop k).take m).length = m := by simp; omega
  have hlt : j < m * 6 := by
    have := (List.getElem?_eq_some_iff.1 hj).1
    rw [ccells_len, hlen] at this; exact this
  have hadd : (⟨b, off + k * 6, none⟩ : Addr).add j = ⟨b, off + k * 6 + j, none⟩ := by unfold Addr.add; split <;> simp_all
  have hij : j / 6 * 6 + j % 6 = j := by omega
  have h1 : (ccells ((l.drop k).take m))[j / 6 * 6 + j % 6]? = some u := by rw [hij]; exact hj
  unfold ccells at h1
  rw [flat_at RecV.cells 6 (fun _ => rfl) rec0 _ (j / 6) (j % 6) (by rw [hlen]; omega) (by omega)] at h1
  have hd : ((l.drop k).take m).getD (j / 6) rec0 = l.getD (k + j / 6) rec0 := by
    simp only [List.getD_eq_getElem?_getD]
    rw [List.getElem?_take_of_lt (by omega), List.getElem?_drop]
  rw [hd] at h1
  rw [hadd, ← hc (k + j / 6) (by omega) (j % 6) u h1, show off + (k + j / 6) * 6 + j % 6 = off + k * 6 + j from by omega]

/-- append of nothing to nothing, as a region meets it -/
theorem step_append_zero {P : Program} {ops : Array Oper} {o : Oper} {a : Act} {w : World} {K : Act → World → Prop} {Q : Exit → Act → World → Prop} {E : Prop}
    (hgd : o.guard = none) (s x : Operand) (t : TypeId) (ho : o.op = .call { callee := .builtin .append, args := #[s, x], argTypes := #[t, t] })
    (e : TypeId) (i : TypeInfo) (z : Value) (size bytes : Nat) (ht : P.underlying t = some (.slice e)) (hi : P.info? e = some i) (hz : i.zero = some z)
    (hsize : i.size = size) (hby : i.bytes = bytes) (hzs : z.cells.size = size) (hsz : 0 < size)
    (hs : a.eval s = .slice none 0 0) (src : Option Addr) (c : Nat) (hx : a.eval x = .slice src 0 c) (hc : src = none → c = 0)
    (h : ∀ w', w.grownBy w' none → K (a.put o.dst (.slice none 0 0)) w') :
    if Region.wanted o (yielded ops a.tmps) = true then Oper.wp P o a w K Q else E := by
  have hw : Region.wanted o (yielded ops a.tmps) = true := by simp [Region.wanted, hgd]
  rw [if_pos hw]
  have hrun : ∃ w', (Builtin.append_ #[t, t] o.type #[.slice none 0 0, .slice src 0 c]).run P w = .ok (.slice none 0 0) w' ∧ w.grownBy w' none := by
    rcases src with _ | ad
    · obtain rfl := hc rfl
      exact ⟨w, run_append_owned_none (P := P) (w := w) w.heap.size t o.type e i size ht hi _ 0 [] (World.ownsRow_nil _ _ _ _), World.grownBy.refl _ _⟩
    · obtain ⟨v', w', hr, _, h3, h4, _⟩ := run_append_own_at (P := P) (w := w) w.heap.size t o.type e i z size bytes ht hi hz hsize hby hzs hsz (.slice none 0 0) 0 [] (World.ownsRow_nil _ _ _ _) ad 0 c [] (by simp) (fun j u hj => by simp at hj) (fun u hu => by cases hu) (by omega) (by omega) (Nat.le_refl _)
      obtain rfl := h4.2 ⟨rfl, rfl⟩
      exact ⟨w', hr, h3⟩
  obtain ⟨w', hr, h3⟩ := hrun
  unfold Oper.wp execOp
  simp only [ho, resolve, invoke, builtin, Sem.run_bind, Sem.run_pure, Result.andThen_ok, List.map_toArray, List.map_cons, List.map_nil, hs, hx, hr]
  exact h w' h3

set_option maxRecDepth 100000 in
set_option maxHeartbeats 4000000 in
theorem record_turns (mk sq : Int) (a : Option Addr) (n c : Nat) (l : List RecV) (z : Int) (w : World) (hmk : -9223372036854775808 ≤ mk ∧ mk ≤ 9223372036854775807) (hsq : -9223372036854775808 ≤ sq ∧ sq ≤ 9223372036854775807) (h : RecsAt w a n c l) (hz : (Lit.int .i64 z).wf = true) :
    Calls Try.prog 8 #[.agg #[.int .i64 mk, .int .i64 sq, .slice a n c], .int .i64 z] w fun e w' => e = .returned (.bool true) ∧ Below w.heap.size w w' := by
  obtain ⟨i0, hi, hz0, hz1, hz2⟩ := info_parts rec_info
  obtain ⟨w1, hw1⟩ : ∃ w1, w1 = w.alloc (.cells #[.int .i64 mk, .int .i64 sq, .slice a n c] 24) := ⟨_, rfl⟩
  have s1 : w.heap.size < w1.heap.size := by rw [hw1]; exact (Array.getElem?_eq_some_iff.1 (heap_alloc_new w _)).1
  have hb1 : Below w.heap.size w w1 := by rw [hw1]; exact (Below.refl _ _).alloc (Nat.le_refl _) _
  have hbox : ∀ (wr : World), Below w1.heap.size w1 wr → wr.cell? ⟨w.heap.size, 0, none⟩ = some (.int .i64 mk) ∧ wr.cell? ⟨w.heap.size, 1, none⟩ = some (.int .i64 sq) ∧ wr.cell? ⟨w.heap.size, 2, none⟩ = some (.slice a n c) := by
    intro wr hb
    rw [hw1] at hb
    exact ⟨box_cell hb rfl, box_cell hb rfl, box_cell hb rfl⟩
  have hcap := h.cap
  have hcm := h.capm
  have HH := Lib.hid (h.kept hb1)
  have HL := Lib.hid h.len
  have HBOX := Lib.hid hbox
  have HB1 := Lib.hid hb1
  have HW1 := Lib.hid hw1
  have HS1 := Lib.hid s1
  clear h hb1 hbox hw1 s1 hmk hsq hz
  by_cases h70 : 70 < n
  · have h70i : (70 : Int) < (n : Int) := by omega
    clear h70
    go_enter Try.func8, Try.ntmps8
    go_wp2_with fail
    rw [← HW1.out]
    refine (lives9_any w1).mono ?_
    rintro e w2 ⟨rfl, hb2⟩
    obtain ⟨b0, b1, b2⟩ := HBOX.out w2 hb2
    have HB2 := Lib.hid hb2
    clear hb2
    go_wp2_with fail
    refine (lives9_any w2).mono ?_
    rintro e w3 ⟨rfl, hb3⟩
    have HB3 := Lib.hid ((HB1.out.trans (HB2.out.mono HB1.out.size)).trans (hb3.mono (Nat.le_trans HB1.out.size HB2.out.size)))
    clear hb3
    go_wp2_with fail
    go_ret
    exact ⟨rfl, HB3.out⟩
  · have h70i : (n : Int) ≤ 70 := by omega
    clear h70
    by_cases hn0 : n = 0
    · subst hn0
      have HE := Lib.hid (show l = [] from List.eq_nil_of_length_eq_zero HL.out)
      have hnl := HH.out.nl
      rcases (show a = none ∨ (∃ ad, a = some ad ∧ c = 0) ∨ (∃ ad, a = some ad ∧ ¬ c = 0) from by
        cases a with
        | none => exact .inl rfl
        | some ad => by_cases hc : c = 0; exact .inr (.inl ⟨ad, rfl, hc⟩); exact .inr (.inr ⟨ad, rfl, hc⟩)) with rfl | ⟨ad, rfl, rfl⟩ | ⟨ad, rfl, hcz⟩
      all_goals
        (try obtain rfl := hnl rfl)
        clear hnl
        go_enter Try.func8, Try.ntmps8
        go_wp2_with fail
        rw [← HW1.out]
        refine (lives9_any w1).mono ?_
        rintro e w2 ⟨rfl, hb2⟩
        obtain ⟨b0, b1, b2⟩ := HBOX.out w2 hb2
        have HCK := Lib.hid (check_any (mk := mk) (sq := sq) (HH.out.kept hb2))
        have HB2 := Lib.hid hb2
        clear hb2
        go_wp2_with fail
        refine HCK.out.mono ?_
        rintro e w3 ⟨rfl, hb3⟩
        have hb3 := HB2.out.trans (hb3.mono HB2.out.size)
        obtain ⟨d0, d1, d2⟩ := HBOX.out w3 hb3
        obtain ⟨w4, hw4⟩ : ∃ w4, w4 = w3.alloc (.cells #[.int .i64 mk, .int .i64 sq, .slice none 0 0] 24) := ⟨_, rfl⟩
        obtain ⟨pb, hpb⟩ : ∃ pb, pb = w3.heap.size := ⟨_, rfl⟩
        have g4 : w4.heap[pb]? = some (.cells #[.int .i64 mk, .int .i64 sq, .slice none 0 0] 24 (0, 0)) := by rw [hw4, hpb]; exact heap_alloc_new w3 _
        have hb4 : Below w1.heap.size w1 w4 := by rw [hw4]; exact hb3.alloc hb3.size _
        have s4 : pb + 1 = w4.heap.size := by rw [hw4, hpb]; exact (Array.size_push _).symm
        have HPL := Lib.hid (show w1.heap.size ≤ pb by rw [hpb]; exact hb3.size)
        obtain ⟨f0, f1, f2⟩ := HBOX.out w4 hb4
        have p2 : w4.cell? ⟨pb, 2, none⟩ = some (.slice none 0 0) := by rw [cell_of_row _ _ _ _ _ (0, 0) g4]; rfl
        have stay : ∀ (wa wb : World), pb < wa.heap.size → wa.heap[pb]? = some (.cells #[.int .i64 mk, .int .i64 sq, .slice none 0 0] 24 (0, 0)) → wa.drew.grownBy wb none → wb.heap[pb]? = some (.cells #[.int .i64 mk, .int .i64 sq, .slice none 0 0] 24 (0, 0)) ∧ wb.cell? ⟨pb, 2, none⟩ = some (.slice none 0 0) ∧ wb.frozen? ⟨pb, 2, none⟩ = false := by
          intro wa wb hlt hg hgr
          have g5 := (hgr.block pb hlt (by simp)).trans hg
          exact ⟨g5, by rw [cell_of_row _ _ _ _ _ (0, 0) g5]; rfl, by simp [World.frozen?, g5]⟩
        have STAY := Lib.hid stay
        have f2' := f2
        rw [hw4] at f2'
        have G4 := Lib.hid (And.intro (show pb < w4.heap.size by omega) g4)
        have HW4 := Lib.hid hw4
        have HPB := Lib.hid hpb
        have HB4 := Lib.hid hb4
        clear hw4 hpb hb4 s4 g4 hb3 stay
        go_wp2_with fail
        rw [← HW4.out, ← HPB.out]
        go_region_law (first | (refine step_append_zero rfl (.tmp 34) (.tmp 38) 22 rfl 28 i0 _ 6 72 Try.underlying22 hi hz0 hz1 hz2 rfl (by decide) rfl _ _ rfl (by simp) ?_; intro w5 hg5; have g5 := STAY.out _ w5 G4.out.1 G4.out.2 hg5; have e2 := g5.2.1; have q5 := g5.2.2))
        all_goals
          obtain ⟨w6, hw6⟩ : ∃ w6, w6 = w5.setCell ⟨pb, 2, none⟩ (.slice none 0 0) := ⟨_, rfl⟩
          have hb5 : Below w1.heap.size w1 w5 := (HB4.out.drew).grown hg5 HB4.out.size (fun q hq => by cases hq)
          have hb6 : Below w1.heap.size w1 w6 := by rw [hw6]; exact hb5.setCell HPL.out _
          have g6 : w6.heap[pb]? = some (.cells #[.int .i64 mk, .int .i64 sq, .slice none 0 0] 24 (0, 0)) := by rw [hw6, heap_setCell_same _ _ _ _ _ _ g5.1]; rfl
          obtain ⟨t0, t1, t2⟩ := HBOX.out w6 hb6
          have r2 : w6.cell? ⟨pb, 2, none⟩ = some (.slice none 0 0) := by rw [cell_of_row _ _ _ _ _ (0, 0) g6]; rfl
          have G6 := Lib.hid (And.intro (show pb < w6.heap.size from (Array.getElem?_eq_some_iff.1 g6).1) g6)
          have HW6 := Lib.hid hw6
          have HB6 := Lib.hid hb6
          clear hg5 g5 hw6 hb5 hb6 g6 e2 q5 f0 f1 f2 p2 f2'
          go_wp2_with fail
          rw [← HW6.out]
          go_region_law (first | (refine step_append_zero rfl (.tmp 42) (.tmp 46) 22 rfl 28 i0 _ 6 72 Try.underlying22 hi hz0 hz1 hz2 rfl (by decide) rfl _ _ rfl (by simp) ?_; intro w7 hg7; have g7 := STAY.out _ w7 G6.out.1 G6.out.2 hg7; have e2 := g7.2.1; have q5 := g7.2.2))
          all_goals
            obtain ⟨w8, hw8⟩ : ∃ w8, w8 = w7.setCell ⟨pb, 2, none⟩ (.slice none 0 0) := ⟨_, rfl⟩
            have hb7 : Below w1.heap.size w1 w7 := (HB6.out.drew).grown hg7 HB6.out.size (fun q hq => by cases hq)
            have hb8 : Below w1.heap.size w1 w8 := by rw [hw8]; exact hb7.setCell HPL.out _
            have g8 : w8.heap[pb]? = some (.cells #[.int .i64 mk, .int .i64 sq, .slice none 0 0] 24 (0, 0)) := by rw [hw8, heap_setCell_same _ _ _ _ _ _ g7.1]; rfl
            have HC8 := Lib.hid (check_any (mk := mk) (sq := sq) (RecsAt.empty w8 none 0 (by omega) (fun _ => rfl)))
            rw [← HE.out] at HC8
            have u0 : w8.cell? ⟨pb, 0, none⟩ = some (.int .i64 mk) := by rw [cell_of_row _ _ _ _ _ (0, 0) g8]; rfl
            have u1 : w8.cell? ⟨pb, 1, none⟩ = some (.int .i64 sq) := by rw [cell_of_row _ _ _ _ _ (0, 0) g8]; rfl
            have u2 : w8.cell? ⟨pb, 2, none⟩ = some (.slice none 0 0) := by rw [cell_of_row _ _ _ _ _ (0, 0) g8]; rfl
            have HB8 := Lib.hid (HB1.out.trans (hb8.mono HB1.out.size))
            have HW8 := Lib.hid hw8
            rw [hw8] at u0 u1 u2
            clear hw8 hb7 hb8 g8 hg7 g7 e2 q5 t0 t1 t2 r2
            go_wp2_with fail
            rw [← HW8.out]
            refine HC8.out.mono ?_
            rintro e w9 ⟨rfl, hb9⟩
            have HB9 := Lib.hid (HB8.out.trans (hb9.mono HB8.out.size))
            clear hb9
            go_wp2_with fail
            go_ret
            exact ⟨by simp, HB9.out⟩
    · have hnpos : (0 : Int) < (n : Int) := by omega
      obtain ⟨k, hk, hkn⟩ : ∃ k : Nat, wrap64 ((IntKind.u64.wrap z).tmod (n : Int)) = (k : Int) ∧ k < n := by
        have h0 : 0 ≤ IntKind.u64.wrap z := by rw [IntKind.wrap_u64]; omega
        have h2 : (IntKind.u64.wrap z).tmod (n : Int) = (IntKind.u64.wrap z) % (n : Int) := Int.tmod_eq_emod_of_nonneg h0
        have h3 := Int.emod_lt_of_pos (IntKind.u64.wrap z) (show (0 : Int) < (n : Int) by omega)
        have h4 := Int.emod_nonneg (IntKind.u64.wrap z) (show (n : Int) ≠ 0 by omega)
        refine ⟨((IntKind.u64.wrap z) % (n : Int)).toNat, ?_, by omega⟩
        rw [h2, IntWalk.wrap64_in _ (by omega)]
        omega
      obtain ⟨b, off, rfl, hlt, hcell⟩ := HH.out.cells (by omega)
      go_enter Try.func8, Try.ntmps8
      go_wp2_with fail
      rw [← HW1.out]
      refine (lives9_any w1).mono ?_
      rintro e w2 ⟨rfl, hb2⟩
      obtain ⟨b0, b1, b2⟩ := HBOX.out w2 hb2
      have HCK := Lib.hid (check_any (mk := mk) (sq := sq) (HH.out.kept hb2))
      have HB2 := Lib.hid hb2
      clear hb2
      go_wp2_with fail
      refine HCK.out.mono ?_
      rintro e w3 ⟨rfl, hb3⟩
      have hb3 := HB2.out.trans (hb3.mono HB2.out.size)
      obtain ⟨d0, d1, d2⟩ := HBOX.out w3 hb3
      obtain ⟨w4, hw4⟩ : ∃ w4, w4 = w3.alloc (.cells #[.int .i64 mk, .int .i64 sq, .slice none 0 0] 24) := ⟨_, rfl⟩
      obtain ⟨pb, hpb⟩ : ∃ pb, pb = w3.heap.size := ⟨_, rfl⟩
      have g4 : w4.heap[pb]? = some (.cells #[.int .i64 mk, .int .i64 sq, .slice none 0 0] 24 (0, 0)) := by rw [hw4, hpb]; exact heap_alloc_new w3 _
      have hb4 : Below w1.heap.size w1 w4 := by rw [hw4]; exact hb3.alloc hb3.size _
      have s4 : pb + 1 = w4.heap.size := by rw [hw4, hpb]; exact (Array.size_push _).symm
      obtain ⟨f0, f1, f2⟩ := HBOX.out w4 hb4
      have p0 : w4.cell? ⟨pb, 0, none⟩ = some (.int .i64 mk) := by rw [cell_of_row _ _ _ _ _ (0, 0) g4]; rfl
      have p1 : w4.cell? ⟨pb, 1, none⟩ = some (.int .i64 sq) := by rw [cell_of_row _ _ _ _ _ (0, 0) g4]; rfl
      have p2 : w4.cell? ⟨pb, 2, none⟩ = some (.slice none 0 0) := by rw [cell_of_row _ _ _ _ _ (0, 0) g4]; rfl
      have q2 : w4.frozen? ⟨pb, 2, none⟩ = false := by simp [World.frozen?, g4]
      have hck : ¬ c = k := by omega
      have hc0 : ¬ c = 0 := by omega
      have hkc : (k : Int) ≤ (c : Int) := by omega
      have hkni : (k : Int) ≤ (n : Int) := by omega
      have f2' := f2
      rw [hw4] at f2'
      have hg5a : ∀ w5, w4.drew.grownBy w5 (Value.slice none 0 0).ownBlock → w5.heap[pb]? = some (.cells #[.int .i64 mk, .int .i64 sq, .slice none 0 0] 24 (0, 0)) ∧ w5.cell? ⟨pb, 2, none⟩ = some (.slice none 0 0) ∧ w5.frozen? ⟨pb, 2, none⟩ = false := by
        intro w5 hg
        have g5 : w5.heap[pb]? = some (.cells #[.int .i64 mk, .int .i64 sq, .slice none 0 0] 24 (0, 0)) := (hg.block pb (by show pb < w4.heap.size; omega) (by simp [Value.ownBlock])).trans g4
        exact ⟨g5, by rw [cell_of_row _ _ _ _ _ (0, 0) g5]; rfl, by simp [World.frozen?, g5]⟩
      have HG5 := Lib.hid hg5a
      have HW4 := Lib.hid hw4
      have HPL := Lib.hid (show w1.heap.size ≤ pb by rw [hpb]; exact hb3.size)
      have HPB := Lib.hid hpb
      have HB4 := Lib.hid hb4
      have HHC := Lib.hid hcell
      have HS4 := Lib.hid s4
      have HK := Lib.hid hk
      have hnz : ((n : Int) == 0) = false := by rw [beq_eq_false_iff_ne]; omega
      clear hw4 hpb hb4 hcell s4 g4 hb3 hn0 hg5a
      go_wp2_with fail
      rw [← HW4.out, ← HPB.out]
      rw [HK.out]
      have HSRC := Lib.hid (RecsAt.part HHC.out HL.out k (n - k) (by omega))
      have hdr : (l.drop k).take (n - k) = l.drop k := List.take_of_length_le (by have := HL.out; simp; omega)
      have HDR := Lib.hid hdr
      have HLT := Lib.hid hlt
      clear hdr
      go_region_law (first | (refine step_append_own_at2 rfl (.tmp 34) (.tmp 38) 22 rfl w4.heap.size 28 i0 _ 6 72 Try.underlying22 hi hz0 hz1 hz2 rfl (by decide) _ 0 [] rfl (World.ownsRow_nil _ _ _ _) ⟨b, off + k * 6, none⟩ (n - k) (c - k) (ccells (l.drop k)) rfl (by rw [ccells_len, List.length_drop, HL.out]) (fun j u hj => (HB4.out.drew.cell (p := (⟨b, off + k * 6, none⟩ : Addr).add j) (by rw [add_none]; exact HLT.out)).trans (HSRC.out j u (by rw [HDR.out]; exact hj))) (ccells_one _) (by unfold maxLen; omega) (by omega) (by simp) ?_; intro v5 w5 ho5 hg5 hat5; have g5 := HG5.out w5 hg5; have e2 := g5.2.1; have q5 := g5.2.2; simp only [Nat.zero_add, List.nil_append] at ho5; obtain ⟨gb, c5, rfl⟩ := own_some2 ho5 (by omega)))
      all_goals
        obtain ⟨w6, hw6⟩ : ∃ w6, w6 = w5.setCell ⟨pb, 2, none⟩ (.slice (some ⟨gb, 0, none⟩) (n - k) c5) := ⟨_, rfl⟩
        have hb5 : Below w1.heap.size w1 w5 := (HB4.out.drew).grown hg5 HB4.out.size (fun q hq => by cases hq)
        have hpbl : w1.heap.size ≤ pb := HPL.out
        have hb6 : Below w1.heap.size w1 w6 := by rw [hw6]; exact hb5.setCell hpbl _
        have g6 : w6.heap[pb]? = some (.cells #[.int .i64 mk, .int .i64 sq, .slice (some ⟨gb, 0, none⟩) (n - k) c5] 24 (0, 0)) := by rw [hw6, heap_setCell_same _ _ _ _ _ _ g5.1]; rfl
        have ho6 : w6.ownsRow w4.heap.size 28 6 (.slice (some ⟨gb, 0, none⟩) (n - k) c5) (n - k) (ccells (l.drop k)) := by
          rw [hw6]
          exact ownsRow_setCell_below ho5 (by have := HS4.out; show pb < w4.heap.size; omega) _
        obtain ⟨t0, t1, t2⟩ := HBOX.out w6 hb6
        have r2 : w6.cell? ⟨pb, 2, none⟩ = some (.slice (some ⟨gb, 0, none⟩) (n - k) c5) := by rw [cell_of_row _ _ _ _ _ (0, 0) g6]; rfl
        have hs6 : w4.heap.size ≤ w6.heap.size := by rw [hw6]; simpa [World.setCell] using hg5.size
        have hgb : w4.heap.size ≤ gb := (ho6.lt gb (by simp [Value.ownBlock])).1
        have HSRC0 := Lib.hid (RecsAt.part HHC.out HL.out 0 k (by omega))
        have hg7 : ∀ w7, w6.drew.grownBy w7 (Value.slice (some ⟨gb, 0, none⟩) (n - k) c5).ownBlock → w7.heap[pb]? = some (.cells #[.int .i64 mk, .int .i64 sq, .slice (some ⟨gb, 0, none⟩) (n - k) c5] 24 (0, 0)) ∧ w7.cell? ⟨pb, 2, none⟩ = some (.slice (some ⟨gb, 0, none⟩) (n - k) c5) ∧ w7.frozen? ⟨pb, 2, none⟩ = false := by
          intro w7 hg
          have hs4 := HS4.out
          have g7 : w7.heap[pb]? = some (.cells #[.int .i64 mk, .int .i64 sq, .slice (some ⟨gb, 0, none⟩) (n - k) c5] 24 (0, 0)) := (hg.block pb (by show pb < w6.heap.size; omega) (by simp [Value.ownBlock]; omega)).trans g6
          exact ⟨g7, by rw [cell_of_row _ _ _ _ _ (0, 0) g7]; rfl, by simp [World.frozen?, g7]⟩
        have HG7 := Lib.hid hg7
        have HW6 := Lib.hid hw6
        have HB6 := Lib.hid hb6
        have HO6 := Lib.hid ho6
        have HGB := Lib.hid hgb
        have HS6 := Lib.hid hs6
        clear hg5 hat5 ho5 g5 hw6 hb5 hb6 ho6 g6 hs6 hgb hg7 e2 q5 f0 f1 f2 p0 p1 p2 q2 f2'
        go_wp2_with fail
        rw [← HW6.out]
        go_region_law (first | (refine step_append_own_at2 rfl (.tmp 42) (.tmp 46) 22 rfl w4.heap.size 28 i0 _ 6 72 Try.underlying22 hi hz0 hz1 hz2 rfl (by decide) _ (n - k) (ccells (l.drop k)) rfl HO6.out.drew ⟨b, off, none⟩ k c (ccells (l.take k)) rfl (by rw [ccells_len, List.length_take, HL.out, Nat.min_eq_left (by omega)]) (fun j u hj => (HB6.out.drew.cell (p := (⟨b, off, none⟩ : Addr).add j) (by rw [add_none]; exact HLT.out)).trans (by have := HSRC0.out j u (by simpa using hj); simpa using this)) (ccells_one _) (by unfold maxLen; omega) (by omega) HS6.out ?_; intro v7 w7 ho7 hg7 hat7; have g7 := HG7.out w7 hg7; have e2 := g7.2.1; have q5 := g7.2.2; obtain ⟨gc, c7, rfl⟩ := own_some2 ho7 (by omega)))
        all_goals
          obtain ⟨w8, hw8⟩ : ∃ w8, w8 = w7.setCell ⟨pb, 2, none⟩ (.slice (some ⟨gc, 0, none⟩) (n - k + k) c7) := ⟨_, rfl⟩
          have hb7 : Below w1.heap.size w1 w7 := (HB6.out.drew).grown hg7 HB6.out.size (fun q hq => by obtain rfl : gb = q := Option.some.inj hq; have := HGB.out; have := HB4.out.size; omega)
          have hb8 : Below w1.heap.size w1 w8 := by rw [hw8]; exact hb7.setCell HPL.out _
          have g8 : w8.heap[pb]? = some (.cells #[.int .i64 mk, .int .i64 sq, .slice (some ⟨gc, 0, none⟩) (n - k + k) c7] 24 (0, 0)) := by rw [hw8, heap_setCell_same _ _ _ _ _ _ g7.1]; rfl
          have ho8 : w8.ownsRow w4.heap.size 28 6 (.slice (some ⟨gc, 0, none⟩) (n - k + k) c7) (n - k + k) (ccells (l.drop k ++ l.take k)) := by
            rw [hw8, show ccells (l.drop k ++ l.take k) = ccells (l.drop k) ++ ccells (l.take k) from List.flatMap_append]
            exact ownsRow_setCell_below ho7 (by have := HS4.out; show pb < w4.heap.size; omega) _
          have hmem : ∀ x ∈ l.drop k ++ l.take k, x ∈ l := fun x hx => by
            rcases List.mem_append.1 hx with g | g
            · exact List.mem_of_mem_drop g
            · exact List.mem_of_mem_take g
          have hkp := HH.out.kept hb8
          have hra : RecsAt w8 (some ⟨gc, 0, none⟩) (n - k + k) c7 (l.drop k ++ l.take k) := by
            obtain ⟨a', c', he, hat⟩ := RecsAt.ofOwn ho8 (by have := HL.out; simp; omega) (fun x hx => hkp.fits x (hmem x hx)) (fun x hx => hkp.labs x (hmem x hx))
            cases he
            exact hat
          have HC8 := Lib.hid (check_any (mk := mk) (sq := sq) hra)
          rw [check_turn] at HC8
          have u0 : w8.cell? ⟨pb, 0, none⟩ = some (.int .i64 mk) := by rw [cell_of_row _ _ _ _ _ (0, 0) g8]; rfl
          have u1 : w8.cell? ⟨pb, 1, none⟩ = some (.int .i64 sq) := by rw [cell_of_row _ _ _ _ _ (0, 0) g8]; rfl
          have u2 : w8.cell? ⟨pb, 2, none⟩ = some (.slice (some ⟨gc, 0, none⟩) (n - k + k) c7) := by rw [cell_of_row _ _ _ _ _ (0, 0) g8]; rfl
          have HB8 := Lib.hid (HB1.out.trans (hb8.mono HB1.out.size))
          have HW8 := Lib.hid hw8
          rw [hw8] at u0 u1 u2
          clear hw8 hb7 hb8 g8 ho8 hmem hkp hra ho7 hg7 hat7 g7 e2 q5 t0 t1 t2 r2
          go_wp2_with fail
          rw [← HW8.out]
          refine HC8.out.mono ?_
          rintro e w9 ⟨rfl, hb9⟩
          have HB9 := Lib.hid (HB8.out.trans (hb9.mono HB8.out.size))
          clear hb9
          go_wp2_with fail
          go_ret
          exact ⟨by simp, HB9.out⟩
end Go.Proofs.Ytaolljfpmbmfpaa
