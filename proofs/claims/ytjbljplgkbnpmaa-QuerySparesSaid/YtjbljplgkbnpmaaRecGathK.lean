/- Put together out of XRecGathKit, XRecGathPlain. -/
import Derived.Test.YtjbljplgkbnpmaaSpAll
import Derived.Test.YtjbljplgkbnpmaaQApp
import Derived.Test.YtjbljplgkbnpmaaRecRRight
import Derived.Test.YtjbljplgkbnpmaaLabRPart
import Derived.Test.YtjbljplgkbnpmaaLabRText
import Derived.Test.YtjbljplgkbnpmaaLabStrP
section SecRecGathK0
/- Toward RecordGathers: are all rows ones whose records may be; have two one identity; plain facts on what is gathered. -/
namespace Go.Proofs.Ytjbljplgkbnpmaa
open Go.ChangeShapes Go.WideShapes Go.Deep Go.RowKit LabPlain RecPlain Gath Stab
set_option linter.unusedVariables false

set_option maxRecDepth 100000 in
set_option maxHeartbeats 2000000 in
theorem rrows_right {w : World} {a : Option Addr} {n c : Nat} {l : List RowV} (h : RowsAt w a n c l) :
    Calls Try.prog 48 #[.slice a n c] w fun e w' => ∃ r : Bool, e = .returned (.bool r) ∧ (r = true → ∀ j, j < n → isRec (atL l j).r = true) ∧ Below w.heap.size w w' := by
  have hcap := h.cap
  have hcm := h.capm
  have HH := Lib.hid h
  have HL := Lib.hid h.len
  clear h
  go_enter Try.func48, Try.ntmps48
  go_wp2_with fail
  go_loopw [7] (fun s7 wr => ∃ k : Nat, k ≤ n ∧ s7 = .int .i64 (k : Int) ∧ Hid (∀ j, j < k → isRec (atL l j).r = true) ∧ Hid (Below w.heap.size w wr)) (fun s7 _ => n - (intOf s7).toNat)
  case atStart => exact ⟨0, by omega, rfl, Lib.hid (fun j hj => absurd hj (Nat.not_lt_zero _)), Lib.hid (Below.refl _ _)⟩
  case round =>
    obtain ⟨k, hk, rfl, HA, HB⟩ := hrel
    rename World => wr
    by_cases hkn : k < n
    · have hki : (k : Int) < (n : Int) := by omega
      have hkp := HH.out.kept HB.out
      obtain ⟨b, off, rfl, hlt, hcell⟩ := hkp.cells (by omega)
      have hlab := hkp.labs _ (row_mem (l := l) (i := k) (by have := HL.out; omega))
      have hfit := hkp.fits _ (row_mem (l := l) (i := k) (by have := HL.out; omega))
      obtain ⟨r, hr⟩ : ∃ r, r = l.getD k row0 := ⟨_, rfl⟩
      obtain ⟨d0, d1, d2, d3, d4, d5, d6, d7, d8⟩ := RowsAt.nine hcell hkn hr
      have HR := Lib.hid hr
      rw [← hr] at hlab hfit
      obtain ⟨⟨kd, tm, la, ln, lc, L, tx, v, nl⟩, mk, sq, pl⟩ := r
      simp only at d0 d1 d2 d3 d4 d5 d6 d7 d8 hlab
      have hbw : Below wr.heap.size wr (wr.alloc (.cells #[.int .i64 kd, .int .i64 tm, .slice la ln lc, .string tx, .int .i64 v, .bool nl, .int .i64 mk, .int .i64 sq, .int .i64 pl] 62)) := (Below.refl _ _).alloc (Nat.le_refl _) _
      have HC := Lib.hid (rrecright_any hfit.1 (hlab.kept hbw))
      have HBW := Lib.hid hbw
      clear hr hcell hkp hlab hfit hbw hlt
      go_wp2_with fail
      refine HC.out.mono ?_
      rintro e w2 ⟨rfl, hb2⟩
      have HB2 := Lib.hid (HB.out.trans ((HBW.out.trans (hb2.mono HBW.out.size)).mono HB.out.size))
      clear hb2
      cases hq : isRec ⟨kd, tm, la, ln, lc, L, tx, v, nl⟩ with
      | false =>
        clear hq
        go_wp2_with fail
        go_ret
        exact ⟨false, rfl, (fun h => by cases h), HB2.out⟩
      | true =>
        have HA2 := Lib.hid (show ∀ j, j < k + 1 → isRec (atL l j).r = true from fun j hj => by
          rcases Nat.lt_or_ge j k with g | g
          · exact HA.out j g
          · obtain rfl : j = k := by omega
            unfold atL
            rw [← HR.out]; exact hq)
        clear hq
        go_wp2_with fail
        go_roundw
        case rel => exact ⟨k + 1, by omega, by go_num, HA2, HB2⟩
        case measure => simp [intOf]; omega
    · obtain rfl : k = n := by omega
      clear hkn
      go_wp2_with fail
      go_ret
      exact ⟨true, rfl, (fun _ => HA.out), HB.out⟩

/-- no two rows of one identity -/
def NoTwin (l : List RowV) (n : Nat) : Prop := ∀ i, i < n → ∀ k, k < i → cmpRow (atL l i) (atL l k) ≠ 0
set_option maxRecDepth 100000 in
set_option maxHeartbeats 4000000 in
theorem rtwins_any {w : World} {a : Option Addr} {n c : Nat} {l : List RowV} (h : RowsAt w a n c l) :
    Calls Try.prog 50 #[.slice a n c] w fun e w' => ∃ r : Bool, e = .returned (.bool r) ∧ (r = false → NoTwin l n) ∧ Below w.heap.size w w' := by
  have hcap := h.cap
  have hcm := h.capm
  have HH := Lib.hid h
  have HL := Lib.hid h.len
  clear h
  go_enter Try.func50, Try.ntmps50
  go_wp2_with fail
  go_loopw [3, 4, 7, 11] (fun s3 s4 s7 s11 wr => ∃ i : Nat, i ≤ n ∧ s7 = .int .i64 (i : Int) ∧ Hid (NoTwin l i) ∧ Hid (Below w.heap.size w wr)) (fun _ _ s7 _ _ => n - (intOf s7).toNat)
  case atStart => exact ⟨0, by omega, rfl, Lib.hid (fun i hi => absurd hi (Nat.not_lt_zero _)), Lib.hid (Below.refl _ _)⟩
  case round =>
    obtain ⟨i, hi, rfl, HN, HB⟩ := hrel
    rename World => wr
    by_cases hin : i < n
    · have hini : (i : Int) < (n : Int) := by omega
      go_wp2_with fail
      go_loopw [4, 11] (fun s4 s11 wq => ∃ k : Nat, k ≤ i ∧ s11 = .int .i64 (k : Int) ∧ Hid (∀ q, q < k → cmpRow (atL l i) (atL l q) ≠ 0) ∧ Hid (Below w.heap.size w wq)) (fun _ s11 _ => i - (intOf s11).toNat)
      case atStart => exact ⟨0, by omega, rfl, Lib.hid (fun i hi => absurd hi (Nat.not_lt_zero _)), HB⟩
      case round =>
        obtain ⟨k, hk, rfl, HZ, HBQ⟩ := hrel
        rename World => wq
        by_cases hki : k < i
        · have hkii : (k : Int) < (i : Int) := by omega
          have hkni : (k : Int) < (n : Int) := by omega
          have hkp := HH.out.kept HBQ.out
          obtain ⟨b, off, rfl, hltb, hcell⟩ := hkp.cells (by omega)
          obtain ⟨x, hx⟩ : ∃ x, x = l.getD i row0 := ⟨_, rfl⟩
          obtain ⟨y, hy⟩ : ∃ y, y = l.getD k row0 := ⟨_, rfl⟩
          obtain ⟨cx0, cx1, cx2, cx3, cx4, cx5, cx6, cx7, cx8⟩ := RowsAt.nine hcell hin hx
          obtain ⟨cy0, cy1, cy2, cy3, cy4, cy5, cy6, cy7, cy8⟩ := RowsAt.nine hcell (show k < n by omega) hy
          have HX := Lib.hid hx
          have HY := Lib.hid hy
          have HC := Lib.hid (fun w => rcompare_any x y w)
          have HBC := Lib.hid (Below.refl wq.heap.size wq).drew
          clear hx hy hcell hkp
          by_cases hz : cmpRow x y = 0
          · have zz : (cmpRow x y == 0) = true := by simpa using hz
            clear hz
            go_wp2_with fail
            go_region_with (go_at_call 44; refine (HC.out _).mono ?_; rintro e w5 ⟨rfl, hb5⟩; have HB5 := Lib.hid (HBC.out.trans (hb5.mono HBC.out.size)))
            all_goals
              clear hb5
              go_wp2_with fail
              go_ret
              exact ⟨true, rfl, (fun h => by cases h), HBQ.out.trans (HB5.out.mono HBQ.out.size)⟩
          · have zz : (cmpRow x y == 0) = false := by simpa using hz
            have HZ2 := Lib.hid (show ∀ q, q < k + 1 → cmpRow (atL l i) (atL l q) ≠ 0 from fun q hq => by
              rcases Nat.lt_or_ge q k with g | g
              · exact HZ.out q g
              · obtain rfl : q = k := by omega
                unfold atL
                rw [← HX.out, ← HY.out]; exact hz)
            clear hz
            go_wp2_with fail
            go_region_with (go_at_call 44; refine (HC.out _).mono ?_; rintro e w5 ⟨rfl, hb5⟩; have HB5 := Lib.hid (HBC.out.trans (hb5.mono HBC.out.size)))
            all_goals
              have HBN := Lib.hid (HBQ.out.trans (HB5.out.mono HBQ.out.size))
              clear hb5
              go_wp2_with fail
              go_roundw
              case rel => exact ⟨k + 1, by omega, by go_num, HZ2, HBN⟩
              case measure => simp [intOf]; omega
        · obtain rfl : k = i := by omega
          have HN2 := Lib.hid (show NoTwin l (k + 1) from fun i' hi' q hq => by
            rcases Nat.lt_or_ge i' k with g | g
            · exact HN.out i' g q hq
            · obtain rfl : i' = k := by omega
              exact HZ.out q hq)
          clear hki
          go_wp2_with fail
          go_roundw
          case rel => exact ⟨k + 1, by omega, by go_num, HN2, HBQ⟩
          case measure => simp [intOf]; omega
    · obtain rfl : i = n := by omega
      clear hin
      go_wp2_with fail
      go_ret
      exact ⟨false, rfl, (fun _ => HN.out), HB.out⟩
end Go.Proofs.Ytjbljplgkbnpmaa
end SecRecGathK0
section SecRecGathK1
/- Toward RecordGathers: what is gathered, plainly. -/
namespace Go.Proofs.Ytjbljplgkbnpmaa
open Go.ChangeShapes Go.WideShapes Go.Deep Go.RowKit LabPlain RecPlain Gath Stab
set_option linter.unusedVariables false

/-- values that are known, or told of by a property -/
def FV (vals : Nat → Option Value) (sp : Value → World → Prop) (j : Nat) (u : Value) (w : World) : Prop := match vals j with | some v => u = v | none => sp u w
theorem FV.mono {vals : Nat → Option Value} {sp : Value → World → Prop} {w w' : World} (h : ∀ u, sp u w → sp u w') : ∀ j y, FV vals sp j y w → FV vals sp j y w' := fun j y hy => by
  unfold FV at hy ⊢
  split at hy
  · exact hy
  · exact h y hy

theorem cmpL_neg : ∀ (x y : List Int), cmpL y x = - cmpL x y
  | [], [] => rfl
  | [], _ :: _ => rfl
  | _ :: _, [] => rfl
  | x :: xs, y :: ys => by
    unfold cmpL
    have ih := cmpL_neg xs ys
    by_cases h : x < y
    · have h2 : ¬ y < x := by omega
      simp [h, h2]
    · by_cases h2 : y < x
      · simp [h, h2]
      · simp [h, h2, ih]
theorem cmpRow_neg (x y : RowV) : cmpRow y x = - cmpRow x y := cmpL_neg _ _
theorem up_of_stable {l1 rs : List RowV} {n : Nat} (h : Stable ltR (atL l1) (atL rs) n) (hl : rs.length = n) : rs.Pairwise fun a b => ltR b a = false := by
  obtain ⟨t, h1, h2, h3⟩ := h
  rw [List.pairwise_iff_getElem]
  intro i j hi hj hij
  have ht := h2 i j (Nat.zero_le _) hij (by omega)
  have e : ∀ k (hk : k < rs.length), rs[k] = (t k).1 := fun k hk => by rw [h1 k (by omega)]; simp [atL, hk]
  rw [e i hi, e j hj]
  rcases ht with g | ⟨g, _⟩
  · exact weak_ltR.asym g
  · exact g
/-- each of the sorted rows says what one of the rows says -/
theorem says_of_stable {l l1 rs : List RowV} {n : Nat} (hs : ∀ j, j < n → (atL l1 j).says = (atL l j).says) (h : Stable ltR (atL l1) (atL rs) n) (hl : rs.length = n) : ∀ x ∈ rs, ∃ j, j < n ∧ x.says = (atL l j).says := by
  intro x hx
  obtain ⟨i, hi, rfl⟩ := List.getElem_of_mem hx
  obtain ⟨t, h1, h2, h3⟩ := h
  obtain ⟨k, hk, e⟩ := (h3 (t i)).1 ⟨i, Nat.zero_le _, by omega, rfl⟩
  refine ⟨k, hk, ?_⟩
  rw [← hs k hk]
  have e2 : rs[i] = (t i).1 := by rw [h1 i (by omega)]; simp [atL, hi]
  rw [e2, e]
theorem isRec_says {x y : RowV} (h : x.says = y.says) : isRec x.r = isRec y.r := by
  obtain ⟨⟨k, t, la, ln, lc, L, tx, v, nl⟩, mk, sq, pl⟩ := x
  obtain ⟨⟨k', t', la', ln', lc', L', tx', v', nl'⟩, mk', sq', pl'⟩ := y
  simp only [RowV.says, Prod.mk.injEq] at h
  obtain ⟨rfl, rfl, rfl, rfl, rfl, rfl, _⟩ := h
  rfl
theorem set_len {l : List Lab} (h : isSet l = true) : l.length ≤ 4 := by
  unfold isSet at h
  simp only [Bool.and_eq_true, decide_eq_true_eq] at h
  omega
theorem isSet_rec {r : RecV} (h : isRec r = true) : isSet r.labs = true := by
  unfold isRec at h
  simp only [Bool.and_eq_true] at h
  exact h.1.2
theorem SplitOut.sets {w w' : World} {a' : Option Addr} {n' c' n : Nat} {win : Int} {ss : List ByteArray} {l l1 rs : List RowV} {gs : List GV} (h : SplitOut w w' a' n' c' win ss l l1 rs gs n) (hr : ∀ j, j < n → isRec (atL l j).r = true) : ∀ x ∈ rs, isSet x.r.labs = true := by
  intro x hx
  obtain ⟨j, hj, e⟩ := says_of_stable h.says h.stab h.len x hx
  exact isSet_rec (by rw [isRec_says e]; exact hr j hj)
/-- of a row in a group -/
theorem SplitOut.row {w w' : World} {a' : Option Addr} {n' c' n : Nat} {win : Int} {ss : List ByteArray} {l l1 rs : List RowV} {gs : List GV} (h : SplitOut w w' a' n' c' win ss l l1 rs gs n) {g : GV} (hg : g ∈ gs) : g.rows = rs.filter (fun x => decide (plS win ss x = g.key)) ∧ g.rows ≠ [] :=
  ⟨h.inv.rows g.pair (List.mem_map_of_mem hg), h.inv.full g.pair (List.mem_map_of_mem hg)⟩
theorem SplitOut.key {w w' : World} {a' : Option Addr} {n' c' n : Nat} {win : Int} {ss : List ByteArray} {l l1 rs : List RowV} {gs : List GV} (h : SplitOut w w' a' n' c' win ss l l1 rs gs n) {g : GV} (hg : g ∈ gs) {x : RowV} (hx : x ∈ g.rows) : x ∈ rs ∧ x.r.time.tdiv win = g.win ∧ ptext x.r.labs ss = g.part := by
  rw [(h.row hg).1] at hx
  obtain ⟨h1, h2⟩ := List.mem_filter.1 hx
  have h3 := of_decide_eq_true h2
  unfold plS GV.key at h3
  simp only [Prod.mk.injEq] at h3
  exact ⟨h1, h3.1, h3.2⟩
theorem SplitOut.order {w w' : World} {a' : Option Addr} {n' c' n : Nat} {win : Int} {ss : List ByteArray} {l l1 rs : List RowV} {gs : List GV} (h : SplitOut w w' a' n' c' win ss l l1 rs gs n) {g : GV} (hg : g ∈ gs) {i j : Nat} (hij : i < j) (hj : j < g.rows.length) : ¬ 0 < cmpRow (g.rows.getD i row0) (g.rows.getD j row0) := by
  have h1 := (up_of_stable h.stab h.len).filter (fun x => decide (plS win ss x = g.key))
  rw [← (h.row hg).1, List.pairwise_iff_getElem] at h1
  have h2 := h1 i j (by omega) hj hij
  have e : ∀ k (hk : k < g.rows.length), g.rows.getD k row0 = g.rows[k] := fun k hk => by simp [hk]
  rw [e i (by omega), e j hj]
  unfold ltR at h2
  have h3 := of_decide_eq_false h2
  rw [cmpRow_neg] at h3
  omega
theorem SplitOut.all {w w' : World} {a' : Option Addr} {n' c' n : Nat} {win : Int} {ss : List ByteArray} {l l1 rs : List RowV} {gs : List GV} (h : SplitOut w w' a' n' c' win ss l l1 rs gs n) : (gs.flatMap GV.rows).Perm rs := by
  have h1 := h.inv.count
  have e : (gs.map GV.pair).flatMap Prod.snd = gs.flatMap GV.rows := by rw [List.flatMap_map]; rfl
  rw [e] at h1
  exact h1
theorem insB_perm {α : Type} {lt : α → α → Bool} {x : α} : ∀ l : List α, (insB lt x l).Perm (x :: l)
  | [] => List.Perm.refl _
  | t :: l => by
    rw [insB]
    split
    · exact ((insB_perm l).cons t).trans (List.Perm.swap x t l)
    · exact List.Perm.refl _
theorem sortB_perm {α : Type} {lt : α → α → Bool} : ∀ l : List α, (sortB lt l).Perm l
  | [] => List.Perm.refl _
  | x :: l => (insB_perm _).trans ((sortB_perm l).cons x)
/-- no ties: one order alone -/
theorem sortB_one {l m : List Say} (hp : l.Perm m) (hn : m.Pairwise fun a b => ltS a b = true ∨ ltS b a = true) : sortB ltS l = sortB ltS m := by
  have strict : ∀ k : List Say, k.Perm m → (sortB ltS k).Pairwise fun a b => ltS a b = true := fun k hk => by
    have h1 := sortB_up weak_ltS (l := k)
    have h2 : (sortB ltS k).Pairwise fun a b => ltS a b = true ∨ ltS b a = true := (((sortB_perm k).trans hk).pairwise_iff (fun {a b} h => h.symm)).2 hn
    unfold Up at h1
    exact (h1.and h2).imp (fun {a b} h => by
      rcases h.2 with g | g
      · exact g
      · rw [h.1] at g; cases g)
  refine rising_ext (r := fun a b => ltS a b = true) (fun a h => by rw [weak_ltS.irr] at h; cases h) (fun a b c h1 h2 => weak_ltS.tr a b c h1 h2) (strict l hp) (strict m (List.Perm.refl _)) fun x => ?_
  rw [sortB_mem, sortB_mem]
  exact hp.mem_iff
theorem notwin_pair {l : List RowV} {n : Nat} (hl : l.length = n) (h : NoTwin l n) : (l.map RowV.says).Pairwise fun a b => ltS a b = true ∨ ltS b a = true := by
  rw [List.pairwise_map, List.pairwise_iff_getElem]
  intro i j hi hj hij
  have h1 := h j (by omega) i hij
  have e : ∀ k (hk : k < l.length), atL l k = l[k] := fun k hk => by simp [atL, hk]
  rw [e i hi, e j hj] at h1
  rw [← ltR_says, ← ltR_says]
  unfold ltR
  have h2 := cmpRow_neg l[i] l[j]
  by_cases g : cmpRow l[i] l[j] < 0
  · exact .inl (decide_eq_true g)
  · exact .inr (decide_eq_true (by omega))
/-- what is gathered and put in order is what there was, in order -/
theorem gathered_same {w w' : World} {a' : Option Addr} {n' c' n m : Nat} {win : Int} {ss : List ByteArray} {l l1 rs : List RowV} {gs : List GV} (h : SplitOut w w' a' n' c' win ss l l1 rs gs n) (hl : l.length = n) (hno : NoTwin l n)
    {p1 p2 q1 q2 : List RowV} (hm : (gs.flatMap GV.rows).length = m) (s1 : ∀ j, j < m → (atL p1 j).says = (atL (gs.flatMap GV.rows) j).says) (t1 : Stable ltR (atL p1) (atL p2) m) (lp : p2.length = m)
    (s2 : ∀ j, j < n → (atL q1 j).says = (atL l j).says) (t2 : Stable ltR (atL q1) (atL q2) n) (lq : q2.length = n) : sameRs p2 q2 = true := by
  refine sameRs_says ?_
  rw [sorted_says s1 t1 hm lp, sorted_says s2 t2 hl lq]
  refine sortB_one ?_ (notwin_pair hl hno)
  have e := sorted_says h.says h.stab hl h.len
  have h2 := h.all.map RowV.says
  rw [e] at h2
  exact h2.trans (sortB_perm _)
end Go.Proofs.Ytjbljplgkbnpmaa
end SecRecGathK1
