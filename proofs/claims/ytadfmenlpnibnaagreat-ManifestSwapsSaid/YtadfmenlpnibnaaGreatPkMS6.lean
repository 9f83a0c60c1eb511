/- Texts put together by packtpl2.py: ApQ, ApEd, VecSet, Chain, Chain2. -/
import Derived.Test.YtadfmenlpnibnaaGreatPkMS1
import Derived.Test.YtadfmenlpnibnaaGreatPkMS2
import Derived.Test.YtadfmenlpnibnaaGreatPkMS4
import Derived.Test.YtadfmenlpnibnaaGreatPkMS5
import Derived.Deep.MidRow
section PkMS6_0
/- What edits make of a manifest, plainly: a manifest again; two edits by unlike agents commute. -/
namespace Go.Proofs.YtadfmenlpnibnaaGreat
open Go.RowKit LabPlain
set_option linter.unusedVariables false

/-- two rising lists with the same things in them are one -/
theorem ris_ext {β : Type} {r : β → β → Prop} (irr : ∀ a, ¬ r a a) (tr : ∀ a b c, r a b → r b c → r a c) : ∀ {L M : List β}, L.Pairwise r → M.Pairwise r → (∀ x, x ∈ L ↔ x ∈ M) → L = M
  | [], [], _, _, _ => rfl
  | [], y :: M, _, _, h => absurd ((h y).2 (by simp)) (by simp)
  | x :: L, [], _, _, h => absurd ((h x).1 (by simp)) (by simp)
  | x :: L, y :: M, hL, hM, h => by
    have hL2 := List.pairwise_cons.1 hL
    have hM2 := List.pairwise_cons.1 hM
    have e : x = y := by
      rcases List.mem_cons.1 ((h x).1 (by simp)) with e | e
      · exact e
      · rcases List.mem_cons.1 ((h y).2 (by simp)) with e2 | e2
        · exact e2.symm
        · exact absurd (tr _ _ _ (hL2.1 y e2) (hM2.1 x e)) (irr x)
    subst e
    rw [ris_ext irr tr hL2.2 hM2.2 fun z => ?_]
    constructor
    · intro hz
      rcases List.mem_cons.1 ((h z).1 (by simp [hz])) with e | e
      · subst e; exact absurd (hL2.1 z hz) (irr z)
      · exact e
    · intro hz
      rcases List.mem_cons.1 ((h z).2 (by simp [hz])) with e | e
      · subst e; exact absurd (hM2.1 z hz) (irr z)
      · exact e
theorem ltE_irr (a : EntV) : ¬ ltE a a := by unfold ltE; rw [ltB_irrefl]; decide
theorem ltM_irr (a : Int × Int) : ¬ ltM a a := Int.lt_irrefl _
theorem ltO_irr (a : Int × Int × Int) : ¬ ltO a a := Int.lt_irrefl _
def foldM (r : List (Int × Int)) (k s : Int) : Int := r.foldl (fun s x => if x.1 = k then x.2 else s) s
theorem foldM_cons (x : Int × Int) (r : List (Int × Int)) (k s : Int) : foldM (x :: r) k s = foldM r k (if x.1 = k then x.2 else s) := rfl
theorem foldM_or : ∀ (r : List (Int × Int)) (k : Int), ((∀ x ∈ r, x.1 ≠ k) ∧ ∀ s, foldM r k s = s) ∨ ∃ z, (k, z) ∈ r ∧ ∀ s, foldM r k s = z
  | [], k => .inl ⟨(fun x h => by cases h), fun s => rfl⟩
  | x :: r, k => by
    rcases foldM_or r k with ⟨h1, h2⟩ | ⟨z, h1, h2⟩
    · by_cases e : x.1 = k
      · refine .inr ⟨x.2, ?_, fun s => by rw [foldM_cons, h2, if_pos e]⟩
        rw [← e]
        exact List.mem_cons_self
      · refine .inl ⟨fun y hy => ?_, fun s => by rw [foldM_cons, h2, if_neg e]⟩
        rcases List.mem_cons.1 hy with rfl | g
        · exact e
        · exact h1 y g
    · exact .inr ⟨z, List.mem_cons_of_mem _ h1, fun s => by rw [foldM_cons, h2]⟩
theorem markV_no {l : List (Int × Int)} {k : Int} (h : ∀ x ∈ l, x.1 ≠ k) : markV l k = 0 := by
  unfold markV
  rw [List.find?_eq_none.2 (fun x hx => by simpa using h x hx)]
  rfl
theorem markV_in {l : List (Int × Int)} {k : Int} (h : ∃ x ∈ l, x.1 = k) : (k, markV l k) ∈ l := by
  obtain ⟨x, hx, e⟩ := h
  unfold markV
  cases hf : l.find? fun y => decide (y.1 = k) with
  | none => exact absurd e (by simpa using List.find?_eq_none.1 hf x hx)
  | some y =>
    have h1 := List.mem_of_find?_eq_some hf
    have h2 := List.find?_some hf
    simp only [decide_eq_true_eq] at h2
    show (k, y.2) ∈ l
    rw [← h2]
    exact h1
theorem markV_of {l r o : List (Int × Int)} (h : MarksOk l r o) (k : Int) : markV o k = mark2 l r k := by
  by_cases g : ∃ x ∈ o, x.1 = k
  · exact ((h.mem k _).1 (markV_in g)).1
  · rw [markV_no (fun x hx e => g ⟨x, hx, e⟩)]
    have h2 : ∀ s', ¬ ((k, s') ∈ l ∨ (k, s') ∈ r) := fun s' hs => g ⟨(k, mark2 l r k), (h.mem k _).2 ⟨rfl, s', hs⟩, rfl⟩
    show 0 = foldM r k (markV l k)
    rcases foldM_or r k with ⟨_, h3⟩ | ⟨z, h3, _⟩
    · rw [h3, markV_no (fun x hx e => h2 x.2 (.inl (by rw [← e]; exact hx)))]
    · exact absurd (.inr h3) (h2 z)
section
variable {pf : ByteArray → Int} {m a b x y : MaV} {d o : EdV}
theorem ents_half (hd : ApYes pf m d a) (ho : ApYes pf m o b) (hx : ApYes pf a o x) (hk : ∀ p ∈ d.add, ∀ q ∈ o.add, p.key ≠ q.key) (hc : y.cut = max b.cut d.cut) {z : EntV} (hz : z ∈ x.ents) : (z ∈ d.add ∨ (z ∈ b.ents ∧ z.key ∉ d.drop)) ∧ max b.cut d.cut ≤ z.win := by
  obtain ⟨h1, h2⟩ := (hx.ok.ents.mem z).1 hz
  have hac := hd.ok.cut
  have hbc := ho.ok.cut
  have hw : max b.cut d.cut ≤ z.win := by omega
  refine ⟨?_, hw⟩
  rcases h1 with h1 | ⟨h1, h3⟩
  · refine .inr ⟨(ho.ok.ents.mem z).2 ⟨.inl h1, by omega⟩, fun hdr => ?_⟩
    have hm : hasE m.ents z.key := Classical.byContradiction fun g => hd.lost ⟨_, hdr, g⟩
    have hod : z.key ∈ o.drop := Classical.byContradiction fun g => ho.exist ⟨z, h1, hm, g⟩
    obtain ⟨v, hv, e⟩ : hasE a.ents z.key := Classical.byContradiction fun g => hx.lost ⟨_, hod, g⟩
    obtain ⟨h4, _⟩ := (hd.ok.ents.mem v).1 hv
    rcases h4 with h4 | ⟨_, h4⟩
    · exact hk v h4 z h1 e
    · exact h4 (by rw [e]; exact hdr)
  · obtain ⟨h4, _⟩ := (hd.ok.ents.mem z).1 h1
    rcases h4 with h4 | ⟨h4, h5⟩
    · exact .inl h4
    · exact .inr ⟨(ho.ok.ents.mem z).2 ⟨.inr ⟨h4, h3⟩, by omega⟩, h5⟩
theorem marks_half (hd : ApYes pf m d a) (ho : ApYes pf m o b) (hx : ApYes pf a o x) (hy : ApYes pf b d y) (k : Int) : mark2 a.marks o.marks k = mark2 b.marks d.marks k := by
  have ha := markV_of hd.ok.marks k
  have hb := markV_of ho.ok.marks k
  show foldM o.marks k (markV a.marks k) = foldM d.marks k (markV b.marks k)
  have ea : markV a.marks k = foldM d.marks k (markV m.marks k) := ha
  have eb : markV b.marks k = foldM o.marks k (markV m.marks k) := hb
  rcases foldM_or o.marks k with ⟨_, h1⟩ | ⟨z, hz, h1⟩ <;> rcases foldM_or d.marks k with ⟨_, h2⟩ | ⟨v, hv, h2⟩
  · rw [h1, h2, ea, eb, h1, h2]
  · rw [h1, h2, ea, h2]
  · rw [h1, h2, eb, h1]
  · exfalso
    have h3 : ¬ z ≤ markV a.marks k := fun g => hx.dup ⟨_, hz, g⟩
    have h4 : ¬ v ≤ markV b.marks k := fun g => hy.dup ⟨_, hv, g⟩
    rw [ea, h2] at h3
    rw [eb, h1] at h4
    omega
theorem marks_sub (hd : ApYes pf m d a) (ho : ApYes pf m o b) {k s' : Int} (h : (k, s') ∈ a.marks ∨ (k, s') ∈ o.marks) : ∃ s'', (k, s'') ∈ b.marks ∨ (k, s'') ∈ d.marks := by
  rcases h with h | h
  · obtain ⟨_, s2, h2 | h2⟩ := (hd.ok.marks.mem k s').1 h
    · exact ⟨_, .inl ((ho.ok.marks.mem k _).2 ⟨rfl, s2, .inl h2⟩)⟩
    · exact ⟨s2, .inr h2⟩
  · exact ⟨_, .inl ((ho.ok.marks.mem k _).2 ⟨rfl, s', .inr h⟩)⟩
/-- two edits by unlike agents, in either order -/
theorem swaps_same (hd : ApYes pf m d a) (ho : ApYes pf m o b) (hx : ApYes pf a o x) (hy : ApYes pf b d y) (hne : d.by'.1 ≠ o.by'.1) (hk : ∀ p ∈ d.add, ∀ q ∈ o.add, p.key ≠ q.key) : x = y := by
  have e1 : x.gen = y.gen := by rw [hx.ok.gen, hy.ok.gen, hd.ok.gen, ho.ok.gen]
  have e2 : x.cut = y.cut := by rw [hx.ok.cut, hy.ok.cut, hd.ok.cut, ho.ok.cut]; omega
  have e3 : x.fence = y.fence := by rw [hx.ok.fence, hy.ok.fence, hd.ok.fence, ho.ok.fence]; omega
  have e4 : x.ents = y.ents := ris_ext ltE_irr ltE_trans hx.ok.ents.rise hy.ok.ents.rise fun z =>
    ⟨fun h => (hy.ok.ents.mem z).2 (ents_half (y := y) hd ho hx hk hy.ok.cut h), fun h => (hx.ok.ents.mem z).2 (ents_half (y := x) ho hd hy (fun p hp q hq e => hk q hq p hp e.symm) hx.ok.cut h)⟩
  have e5 : x.marks = y.marks := ris_ext ltM_irr ltM_trans hx.ok.marks.rise hy.ok.marks.rise fun z => by
    obtain ⟨k, s⟩ := z
    rw [hx.ok.marks.mem, hy.ok.marks.mem, marks_half hd ho hx hy k]
    exact ⟨fun ⟨h1, _, h2⟩ => ⟨h1, marks_sub hd ho h2⟩, fun ⟨h1, _, h2⟩ => ⟨h1, marks_sub ho hd h2⟩⟩
  have e6 : x.owns = y.owns := ris_ext ltO_irr ltO_trans hx.ok.owns.rise hy.ok.owns.rise fun z => by
    rw [hx.ok.owns.mem, hy.ok.owns.mem, hd.ok.owns.mem, ho.ok.owns.mem]
    constructor
    · rintro (⟨⟨h1, h2⟩ | rfl, h3⟩ | rfl)
      · exact .inl ⟨.inl ⟨h1, h3⟩, h2⟩
      · exact .inr rfl
      · exact .inl ⟨.inr rfl, fun e => hne e.symm⟩
    · rintro (⟨⟨h1, h2⟩ | rfl, h3⟩ | rfl)
      · exact .inl ⟨.inl ⟨h1, h3⟩, h2⟩
      · exact .inr rfl
      · exact .inl ⟨.inr rfl, hne⟩
  cases x
  cases y
  simp only at e1 e2 e3 e4 e5 e6
  subst e1 e2 e3 e4 e5 e6
  rfl
theorem withinB_iff {n a b : Int} : withinB n a b = true ↔ a ≤ n ∧ n ≤ b := by unfold withinB; simp
/-- behind an edit it is a manifest -/
theorem rises_right (h : ApYes pf m d x) : x.right pf := by
  have p := right_parts.1 h.man
  obtain ⟨g1, g2⟩ := withinB_iff.1 p.gen
  obtain ⟨c1, c2⟩ := withinB_iff.1 p.cut
  obtain ⟨f1, f2⟩ := withinB_iff.1 p.fence
  obtain ⟨c3, c4⟩ := withinB_iff.1 h.ed.cut
  obtain ⟨f3, f4⟩ := withinB_iff.1 h.ed.fence
  have hr := h.range
  refine right_parts.2 ⟨withinB_iff.2 (by rw [h.ok.gen]; omega), withinB_iff.2 (by rw [h.ok.cut]; omega), withinB_iff.2 (by rw [h.ok.fence]; omega), h.few, fun z hz => ?_, h.ok.ents.rise, fun z hz => ?_, h.ok.marks.rise, fun z hz => ?_, h.ok.owns.rise⟩
  · obtain ⟨h1, h2⟩ := (h.ok.ents.mem z).1 hz
    refine ⟨?_, by rw [h.ok.cut]; exact h2⟩
    rcases h1 with h1 | ⟨h1, _⟩
    · exact h.ed.add z h1
    · exact (p.ents z h1).1
  · obtain ⟨k, s⟩ := z
    obtain ⟨rfl, s', hs⟩ := (h.ok.marks.mem k s).1 hz
    show isMarkB (k, foldM d.marks k (markV m.marks k)) = true
    rcases foldM_or d.marks k with ⟨h1, h2⟩ | ⟨v, hv, h2⟩
    · rw [h2]
      refine p.marks _ (markV_in ?_)
      rcases hs with hs | hs
      · exact ⟨_, hs, rfl⟩
      · exact absurd rfl (h1 _ hs)
    · rw [h2]
      exact h.ed.marks _ hv
  · rcases (h.ok.owns.mem z).1 hz with ⟨h1, _⟩ | rfl
    · exact p.owns z h1
    · exact h.ed.own
theorem rises_marks (h : ApYes pf m d x) {k s : Int} (hk : (k, s) ∈ m.marks) : s ≤ markV x.marks k := by
  have p := right_parts.1 h.man
  rw [markV_of h.ok.marks]
  have hs : s = markV m.marks k := by
    have h1 := markV_in (k := k) ⟨_, hk, rfl⟩
    have := p.riseM
    rcases List.pairwise_iff_getElem.1 this with hp
    obtain ⟨i, hi, ei⟩ := List.getElem_of_mem hk
    obtain ⟨j, hj, ej⟩ := List.getElem_of_mem h1
    rcases Nat.lt_trichotomy i j with g | g | g
    · have := hp i j hi hj g
      rw [ei, ej] at this
      exact absurd this (Int.lt_irrefl _)
    · subst g
      rw [ei] at ej
      exact (Prod.mk.inj ej).2
    · have := hp j i hj hi g
      rw [ei, ej] at this
      exact absurd this (Int.lt_irrefl _)
  show s ≤ foldM d.marks k (markV m.marks k)
  rcases foldM_or d.marks k with ⟨_, h2⟩ | ⟨v, hv, h2⟩
  · rw [h2]; omega
  · rw [h2]
    have h3 : ¬ v ≤ markV m.marks k := fun g => h.dup ⟨_, hv, g⟩
    omega
theorem rises_again (h : ApYes pf m d x) : isVer x d := ⟨d.by', (h.ok.owns.mem _).2 (.inr rfl), rfl, .inr ⟨rfl, Int.le_refl _⟩⟩
end
end Go.Proofs.YtadfmenlpnibnaaGreat
end PkMS6_0
section PkMS6_1
/- Is it an edit: package manifest's rightEdit, walked. -/
namespace Go.Proofs.YtadfmenlpnibnaaGreat
open Go.RowKit Go.Shelf LabPlain
set_option linter.unusedVariables false

theorem own_sl {w : World} {base : Nat} {e : TypeId} {k n : Nat} {v : Value} {xs : List Value} (h : w.ownsRow base e k v n xs) : ∃ a c, v = .slice a n c := by
  rcases h.2 with ⟨rfl, rfl⟩ | ⟨g, cap, cur, rfl, _⟩
  · exact ⟨none, 0, rfl⟩
  · exact ⟨_, _, rfl⟩
theorem srtE_iff {zs l : List EntV} (hs : SrtE zs) (hp : zs.Perm l) : zs.Pairwise ltE ↔ l.Pairwise fun a b => a.key ≠ b.key := by
  rw [← hp.pairwise_iff (fun {a b} (h : a.key ≠ b.key) => h.symm)]
  constructor
  · refine fun h => h.imp fun {a b} g e => ?_
    unfold ltE at g
    rw [e, ltB_irr] at g
    cases g
  · intro h
    refine (h.and hs).imp fun {a b} g => ?_
    unfold ltE
    cases h9 : ltB a.key b.key with
    | true => rfl
    | false => exact absurd (ltB_total' h9 g.2) g.1
theorem srtK_perm (l : List ByteArray) : (srtK l).Perm l := by
  unfold srtK
  have h := (List.mergeSort_perm (l.map tbK) fun x y => decide (x ≤ y)).map fbK
  rw [List.map_map, show fbK ∘ tbK = id from funext fun s => fb_tbK s, List.map_id] at h
  exact h
theorem bl_lexK : ∀ (x y : List UInt8), Op.bytesLess x y = decide (x < y)
  | [], [] => by simp [Op.bytesLess]
  | _ :: _, [] => by simp [Op.bytesLess]
  | [], _ :: _ => by simp [Op.bytesLess]
  | a :: x, b :: y => by
    rw [Op.bytesLess, bl_lexK x y]
    rw [Bool.eq_iff_iff]
    simp [List.cons_lt_cons_iff]
theorem le_lt (a b : List UInt8) : a ≤ b ↔ ¬ b < a := List.not_lt.symm
theorem srtK_srt (l : List ByteArray) : (srtK l).Pairwise fun a b => ltB b a = false := by
  unfold srtK
  rw [List.pairwise_map]
  refine (List.pairwise_mergeSort (le := fun x y : List UInt8 => decide (x ≤ y)) (fun a b c h1 h2 => by simp only [decide_eq_true_eq] at *; exact List.le_trans h1 h2) (fun a b => by simp only [Bool.or_eq_true, decide_eq_true_eq]; exact List.le_total a b) (l.map tbK)).imp fun {a b} h => ?_
  have h1 : a ≤ b := by simpa using h
  unfold ltB
  rw [Bool.eq_false_iff]
  intro h2
  have e : ∀ x : List UInt8, (fbK x).toList = x := fun x => by rw [ByteArray.toList_eq]; rfl
  rw [e, e] at h2
  rw [bl_lexK] at h2
  exact (le_lt a b).1 h1 (of_decide_eq_true h2)
theorem srtK_iff (l : List ByteArray) : (srtK l).Pairwise (fun a b => ltB a b = true) ↔ l.Pairwise fun a b => a ≠ b := by
  rw [← (srtK_perm l).pairwise_iff (fun {a b} (h : a ≠ b) => h.symm)]
  constructor
  · refine fun h => h.imp fun {a b} g e => ?_
    rw [e, ltB_irr] at g
    cases g
  · intro h
    refine (h.and (srtK_srt l)).imp fun {a b} g => ?_
    cases h9 : ltB a b with
    | true => rfl
    | false => exact absurd (ltB_total' h9 g.2) g.1
/-- what rightEdit answers -/
def EdIs (pf : ByteArray → Int) (d : EdV) (e : Ending) : Prop := ∃ b : Bool, e = .returned (.bool b) ∧ (b = true ↔ d.right pf)
theorem EdIs.no {pf : ByteArray → Int} {d : EdV} (h : ¬ d.right pf) : EdIs pf d (.returned (.bool false)) := ⟨false, rfl, ⟨fun e => (by cases e), fun g => absurd g h⟩⟩
theorem EdIs.yes {pf : ByteArray → Int} {d : EdV} (h : d.right pf) : EdIs pf d (.returned (.bool true)) := ⟨true, rfl, ⟨fun _ => h, fun _ => rfl⟩⟩
theorem orM_neg {a b : Int × Int} : orM (cmp3 a.1 b.1) (cmp3 a.2 b.2) < 0 ↔ ltMS a b := by
  unfold orM ltMS cmp3
  repeat' split
  all_goals omega

set_option maxRecDepth 100000 in
set_option maxHeartbeats 8000000 in
theorem redit_any {w : World} (pf : ByteArray → Int) {d : EdV} {aa da ka : Option Addr} {an ac dn dc kn kc : Nat} {y0 y1 y2 : Int} (hy : d.by' = (y0, y1, y2)) (hA : VecAt EntS w aa an ac d.add) (hD : VecAt KeyS w da dn dc d.drop) (hK : VecAt MarkS w ka kn kc d.marks) (han : an ≤ 100000) (hdn : dn ≤ 100000)
    (hP : ∀ (W : World) (x : EntV), x ∈ d.add → Below w.heap.size w W → Calls Tryz.prog 68 #[.string x.part] W fun e w' => ParIs (pf x.part) e ∧ Below W.heap.size W w') :
    Calls Tryz.prog 21 #[.agg #[.slice aa an ac, .slice da dn dc, .slice ka kn kc, .int .i64 d.cut, .int .i64 d.fence, .int .i64 y0, .int .i64 y1, .int .i64 y2]] w fun e w' => EdIs pf d e ∧ Below w.heap.size w w' := by
  obtain ⟨add, drop, marks, cut, fence, byy⟩ := d
  simp only at hy hA hD hK hP ⊢
  subst hy
  obtain ⟨wa, hwa⟩ : ∃ wa, wa = w.alloc (.cells #[.slice aa an ac, .slice da dn dc, .slice ka kn kc, .int .i64 cut, .int .i64 fence, .int .i64 y0, .int .i64 y1, .int .i64 y2] 31) := ⟨_, rfl⟩
  have ba : Below w.heap.size w wa := by rw [hwa]; exact (Below.refl _ _).alloc (Nat.le_refl _) _
  have ga : wa.heap[w.heap.size]? = some (.cells #[.slice aa an ac, .slice da dn dc, .slice ka kn kc, .int .i64 cut, .int .i64 fence, .int .i64 y0, .int .i64 y1, .int .i64 y2] 31 (0, 0)) := by rw [hwa]; exact heap_alloc_new _ _
  have hla : w.heap.size < wa.heap.size := (Array.getElem?_eq_some_iff.1 ga).1
  -- the added
  obtain ⟨w1, hw1⟩ : ∃ w1, w1 = wa.alloc (.cells #[.slice aa an ac] 22) := ⟨_, rfl⟩
  have b1 : Below wa.heap.size wa w1 := by rw [hw1]; exact (Below.refl _ _).alloc (Nat.le_refl _) _
  have g1 : w1.heap[wa.heap.size]? = some (.cells #[.slice aa an ac] 22 (0, 0)) := by rw [hw1]; exact heap_alloc_new _ _
  have bw1 : Below w.heap.size w w1 := ba.trans (b1.mono ba.size)
  have hA1 := hA.kept bw1
  have eg : ∀ args w, (callFunc 69 args).run Tryz.prog w = .ok (.enter 69 args) w := enters_of Tryz.func69 (by kernel_rfl) rfl
  have HSA := Lib.hid (sortedE_any (w := w1) eg (S := fun ys => ys = add) (N := an) (by omega) (fun ys h => by rw [h, hA.len]; omega) (fun m hm => seq_kp (seq_stopsE m hm wa.heap.size w1.heap.size an ac aa add (by omega) w1 (Array.getElem?_eq_some_iff.1 g1).1 (Nat.le_refl _) (cell_blk g1 rfl) hA1 (fun b off s hn e => by
    obtain ⟨b', off', e', hb', _⟩ := hA1.cells hn
    rw [e] at e'
    cases e'
    exact hb')) (fun A B h => h.1)))
  have HBA := Lib.hid ba
  have HGA := Lib.hid ga
  have HLA := Lib.hid hla
  have HWA := Lib.hid hwa
  have HW1 := Lib.hid hw1
  have HB1 := Lib.hid bw1
  have HG1 := Lib.hid ((b1.block w.heap.size hla).trans ga)
  have HA := Lib.hid hA
  have HD := Lib.hid hD
  have HK := Lib.hid hK
  have HP := Lib.hid hP
  have HDN := Lib.hid hdn
  have HV1 := Lib.hid (values_anyE (w := wa) aa an ac)
  have a0 : wa.cell? ⟨w.heap.size, 0, none⟩ = some (.slice aa an ac) := cell_blk ga rfl
  obtain ⟨q0, hq0⟩ : ∃ b, b = withinB cut 0 1099511627775 := ⟨_, rfl⟩
  obtain ⟨q1, hq1⟩ : ∃ b, b = withinB fence 0 1099511627775 := ⟨_, rfl⟩
  obtain ⟨q2, hq2⟩ : ∃ b, b = isOwnB (y0, y1, y2) := ⟨_, rfl⟩
  have HQ0 := Lib.hid (show ∀ W, Calls Tryz.prog 41 #[.int .i64 cut, .int .i64 0, .int .i64 1099511627775] W fun e w' => e = .returned (.bool q0) ∧ w' = W from fun W => by rw [hq0]; exact within_any _ _ _ W)
  have HQ1 := Lib.hid (show ∀ W, Calls Tryz.prog 41 #[.int .i64 fence, .int .i64 0, .int .i64 1099511627775] W fun e w' => e = .returned (.bool q1) ∧ w' = W from fun W => by rw [hq1]; exact within_any _ _ _ W)
  have HQ2 := Lib.hid (show ∀ W, Calls Tryz.prog 48 #[.agg #[.int .i64 y0, .int .i64 y1, .int .i64 y2]] W fun e w' => e = .returned (.bool q2) ∧ Below W.heap.size W w' from fun W => by rw [hq2]; exact rightO_any y0 y1 y2 W)
  have HE0 := Lib.hid hq0
  have HE1 := Lib.hid hq1
  have HE2 := Lib.hid hq2
  have hac1 := hA.cap
  have hac2 := hA.capm
  clear hwa ba ga hla hw1 b1 g1 bw1 hA1 eg hA hD hK hP hdn hq0 hq1 hq2
  go_enter Tryz.func21, Tryz.ntmps21
  go_wp2_with fail
  rw [← HWA.out]
  refine HV1.out.mono ?_
  rintro e w2 ⟨rfl, he2⟩
  rw [← HW1.out] at he2
  obtain rfl : w1 = w2 := he2.symm
  clear he2 a0
  go_wp2_with fail
  refine HSA.out.mono ?_
  rintro e W3 ⟨v1, ys, zs, hys, hzp, hzs, rfl, hown, hb3⟩
  rw [show ys = add from hys] at hzp
  clear hys
  have HZP := Lib.hid hzp
  have HZS := Lib.hid hzs
  have hzl : zs.length = an := by rw [hzp.length_eq]; exact HA.out.len
  rw [hzl] at hown
  obtain ⟨z1, c1, rfl⟩ := own_sl hown
  have HOW := Lib.hid hown
  have HZL := Lib.hid hzl
  have HB3 := Lib.hid (HB1.out.trans (hb3.mono HB1.out.size))
  have hg3 := (hb3.block w.heap.size (Array.getElem?_eq_some_iff.1 HG1.out).1).trans HG1.out
  have HG3 := Lib.hid hg3
  have a1 : W3.cell? ⟨w.heap.size, 1, none⟩ = some (.slice da dn dc) := cell_blk hg3 rfl
  have hdc1 := HD.out.cap
  have hdc2 := HD.out.capm
  -- the dropped
  obtain ⟨w4, hw4⟩ : ∃ w4, w4 = W3.alloc (.cells #[.slice da dn dc] 27) := ⟨_, rfl⟩
  have b4 : Below W3.heap.size W3 w4 := by rw [hw4]; exact (Below.refl _ _).alloc (Nat.le_refl _) _
  have g4 : w4.heap[W3.heap.size]? = some (.cells #[.slice da dn dc] 27 (0, 0)) := by rw [hw4]; exact heap_alloc_new _ _
  have bw4 : Below w.heap.size w w4 := HB3.out.trans (b4.mono HB3.out.size)
  have hD4 := HD.out.kept bw4
  have eg2 : ∀ args w, (callFunc 72 args).run Tryz.prog w = .ok (.enter 72 args) w := enters_of Tryz.func72 (by kernel_rfl) rfl
  have HSD := Lib.hid (sorted_anyK (w := w4) eg2 (l := drop) (by rw [HD.out.len]; exact HDN.out) (fun m hm => by
    rw [HD.out.len]
    exact seq_stopsK m hm W3.heap.size w4.heap.size dn dc da drop HDN.out w4 (Array.getElem?_eq_some_iff.1 g4).1 (Nat.le_refl _) (cell_blk g4 rfl) hD4 (fun b off s hn e => by
      obtain ⟨b', off', e', hb', _⟩ := hD4.cells hn
      rw [e] at e'
      cases e'
      exact hb')))
  rw [HD.out.len] at HSD
  have HV4 := Lib.hid (values_anyK (w := W3) da dn dc)
  have HW4 := Lib.hid hw4
  have HB4 := Lib.hid bw4
  have HB34 := Lib.hid b4
  clear hzp hzs hzl hown hb3 hg3 hw4 b4 g4 bw4 hD4 eg2
  go_wp2_with fail
  refine HV4.out.mono ?_
  rintro e w5 ⟨rfl, he5⟩
  rw [← HW4.out] at he5
  obtain rfl : w4 = w5 := he5.symm
  clear he5 a1
  go_wp2_with fail
  refine HSD.out.mono ?_
  rintro e W6 ⟨v2, rfl, hown2, hb6⟩
  obtain ⟨z2, c2, rfl⟩ := own_sl hown2
  have HOW2 := Lib.hid hown2
  have HB6 := Lib.hid (HB4.out.trans (hb6.mono HB4.out.size))
  have HB36 := Lib.hid (HB34.out.trans (hb6.mono HB34.out.size))
  have HG6 := Lib.hid ((HB36.out.block w.heap.size (Array.getElem?_eq_some_iff.1 HG3.out).1).trans HG3.out)
  have hV1 : VecAt EntS W6 z1 an c1 zs := (VecAt.ofOwn (S := EntS) HOW.out HZL.out (fun x hx => EntS.mono HB3.out (HA.out.all x (HZP.out.mem_iff.1 hx)))).kept HB36.out
  have hV2 : VecAt KeyS W6 z2 dn c2 (srtK drop) := VecAt.ofOwn (S := KeyS) hown2 (by rw [srtK_len]; exact HD.out.len) (fun x hx => KeyS.mono HB6.out (HD.out.all x ((srtK_perm drop).mem_iff.1 hx)))
  have HR1 := Lib.hid (rising_anyER hV1 (mb := 0) (fun x => entB x (pf x.part == 0)) (fun W z hz hB hok => rightEntry_any (w := W) pf z.key z.win z.part z.fst z.lst z.rows z.size z.sum z.born hok.1 (fun W2 h2 => HP.out W2 z (HZP.out.mem_iff.1 hz) ((HB6.out.trans (hB.mono HB6.out.size)).trans (h2.mono (HB6.out.trans (hB.mono HB6.out.size)).size)))))
  have HV2 := Lib.hid hV2
  have HZL2 := Lib.hid (show (srtK drop).length = dn from by rw [srtK_len]; exact HD.out.len)
  clear hown2 hb6 hV1 hV2
  go_wp2_with fail
  refine HR1.out.mono ?_
  rintro e w7 ⟨⟨r1, rfl, hr1⟩, hb7⟩
  rw [← HZL.out] at hr1
  have hr1' := hr1.trans (pw_of_ris (p := fun x : EntV => entB x (pf x.part == 0)) (cm := fun a b : EntV => cmpS a.key b.key) (d := EntS.z) (l := zs) (r := ltE) ltE_trans (fun a b => cmpS_neg))
  rw [srtE_iff HZS.out HZP.out] at hr1'
  have HT1 := Lib.hid (show r1 = true ↔ (∀ x ∈ add, entB x (pf x.part == 0) = true) ∧ add.Pairwise fun a b => a.key ≠ b.key from hr1'.trans ⟨fun h => ⟨fun x hx => h.1 x (HZP.out.mem_iff.2 hx), h.2⟩, fun h => ⟨fun x hx => h.1 x (HZP.out.mem_iff.1 hx), h.2⟩⟩)
  have HB7 := Lib.hid (HB6.out.trans (hb7.mono HB6.out.size))
  have HG7 := Lib.hid ((hb7.block w.heap.size (Array.getElem?_eq_some_iff.1 HG6.out).1).trans HG6.out)
  have HR2 := Lib.hid (rising_anyS (w := w7) (HV2.out.kept hb7) (mb := 0) keyB (fun W z _ _ hok => (iskey_any z (by have h9 : z.size ≤ 140737488355328 := hok; omega) W).mono (by rintro e w' ⟨rfl, rfl⟩; exact ⟨rfl, Below.refl _ _⟩)))
  clear hr1 hr1' hb7
  cases r1 with
  | false =>
    go_wp2_with fail
    go_ret
    exact ⟨EdIs.no (fun h => by have := HT1.out.2 ⟨h.add, h.one⟩; cases this), HB7.out⟩
  | true =>
  go_wp2_with fail
  refine HR2.out.mono ?_
  rintro e w8 ⟨⟨r2, rfl, hr2⟩, hb8⟩
  rw [← HZL2.out] at hr2
  have hr2' := hr2.trans (pw_of_ris (p := keyB) (cm := cmpS) (d := KeyS.z) (l := srtK drop) (r := fun a b => ltB a b = true) (fun a b c h1 h2 => ltB_trans h1 h2) (fun a b => cmpS_neg))
  rw [srtK_iff] at hr2'
  have HT2 := Lib.hid (show r2 = true ↔ (∀ x ∈ drop, keyB x = true) ∧ drop.Pairwise fun a b => a ≠ b from hr2'.trans ⟨fun h => ⟨fun x hx => h.1 x ((srtK_perm drop).mem_iff.2 hx), h.2⟩, fun h => ⟨fun x hx => h.1 x ((srtK_perm drop).mem_iff.1 hx), h.2⟩⟩)
  have HB8 := Lib.hid (HB7.out.trans (hb8.mono HB7.out.size))
  have hg8 := (hb8.block w.heap.size (Array.getElem?_eq_some_iff.1 HG7.out).1).trans HG7.out
  have HG8 := Lib.hid hg8
  have n2 : w8.cell? ⟨w.heap.size, 2, none⟩ = some (.slice ka kn kc) := cell_blk hg8 rfl
  have HR3 := Lib.hid (rising_anyMS (w := w8) (HK.out.kept HB8.out) (mb := 0) isMarkB (fun W z _ _ _ => rightM_any z.1 z.2 W))
  clear hr2 hr2' hb8 hg8
  cases r2 with
  | false =>
    go_wp2_with fail
    go_ret
    exact ⟨EdIs.no (fun h => by have := HT2.out.2 ⟨h.drop, h.two⟩; cases this), HB8.out⟩
  | true =>
  go_wp2_with fail
  refine HR3.out.mono ?_
  rintro e w9 ⟨⟨r3, rfl, hr3⟩, hb9⟩
  rw [← HK.out.len] at hr3
  have HT3 := Lib.hid (show r3 = true ↔ (∀ x ∈ marks, isMarkB x = true) ∧ marks.Pairwise ltMS from hr3.trans (pw_of_ris (p := isMarkB) (cm := fun a b : Int × Int => orM (cmp3 a.1 b.1) (cmp3 a.2 b.2)) (d := MarkS.z) (l := marks) (r := ltMS) ltMS_trans (fun a b => orM_neg)))
  have HB9 := Lib.hid (HB8.out.trans (hb9.mono HB8.out.size))
  have hg9 := (hb9.block w.heap.size (Array.getElem?_eq_some_iff.1 HG8.out).1).trans HG8.out
  have n3 : w9.cell? ⟨w.heap.size, 3, none⟩ = some (.int .i64 cut) := cell_blk hg9 rfl
  have n4 : w9.cell? ⟨w.heap.size, 4, none⟩ = some (.int .i64 fence) := cell_blk hg9 rfl
  have n5 : w9.cell? ⟨w.heap.size, 5, none⟩ = some (.int .i64 y0) := cell_blk hg9 rfl
  have n6 : w9.cell? ⟨w.heap.size, 6, none⟩ = some (.int .i64 y1) := cell_blk hg9 rfl
  have n7 : w9.cell? ⟨w.heap.size, 7, none⟩ = some (.int .i64 y2) := cell_blk hg9 rfl
  clear hr3 hb9 hg9 n2
  cases r3 with
  | false =>
    go_wp2_with fail
    go_ret
    exact ⟨EdIs.no (fun h => by have := HT3.out.2 ⟨h.marks, h.rise⟩; cases this), HB9.out⟩
  | true =>
  go_wp2_with fail
  refine (HQ0.out _).mono ?_
  rintro e w' ⟨rfl, rfl⟩
  cases q0 with
  | false =>
    go_wp2_with fail
    go_ret
    exact ⟨EdIs.no (fun h => by have := HE0.out.trans h.cut; cases this), HB9.out⟩
  | true =>
  go_wp2_with fail
  refine (HQ1.out _).mono ?_
  rintro e w' ⟨rfl, rfl⟩
  cases q1 with
  | false =>
    go_wp2_with fail
    go_ret
    exact ⟨EdIs.no (fun h => by have := HE1.out.trans h.fence; cases this), HB9.out⟩
  | true =>
  go_wp2_with fail
  refine (HQ2.out _).mono ?_
  rintro e w10 ⟨rfl, hb10⟩
  have HB10 := Lib.hid (HB9.out.trans (hb10.mono HB9.out.size))
  clear hb10
  cases q2 with
  | false =>
    go_wp2_with fail
    go_ret
    exact ⟨EdIs.no (fun h => by have := HE2.out.trans h.own; cases this), HB10.out⟩
  | true =>
    have h1 := HT1.out.1 (by simp)
    have h2 := HT2.out.1 (by simp)
    have h3 := HT3.out.1 (by simp)
    have HY := Lib.hid (show EdV.right pf ⟨add, drop, marks, cut, fence, (y0, y1, y2)⟩ from ⟨h1.1, h1.2, h2.1, h2.2, h3.1, h3.2, HE0.out.symm, HE1.out.symm, HE2.out.symm⟩)
    clear h1 h2 h3
    go_wp2_with fail
    go_ret
    exact ⟨EdIs.yes HY.out, HB10.out⟩
end Go.Proofs.YtadfmenlpnibnaaGreat
end PkMS6_1
section PkMS6_2
/- A struct stored at an index of a row that is owned. -/
namespace Go.Proofs.YtadfmenlpnibnaaGreat
open Go.RowKit
set_option linter.unusedVariables false

def setMm : Array Value → Nat → List Value → Array Value
  | c, _, [] => c
  | c, o, v :: r => setMm (c.setIfInBounds o v) (o + 1) r
theorem setMm_size : ∀ (vs : List Value) (c : Array Value) (o : Nat), (setMm c o vs).size = c.size
  | [], _, _ => rfl
  | v :: r, c, o => by rw [setMm, setMm_size r]; simp
theorem setMm_get : ∀ (vs : List Value) (c : Array Value) (o k : Nat), o + vs.length ≤ c.size → (setMm c o vs)[k]? = if o ≤ k ∧ k < o + vs.length then vs[k - o]? else c[k]?
  | [], c, o, k, _ => by rw [setMm, if_neg (by rw [List.length_nil]; omega)]
  | v :: r, c, o, k, h => by
    rw [List.length_cons] at h
    rw [setMm, setMm_get r _ _ _ (by simp; omega), List.length_cons]
    by_cases e : k = o
    · subst e
      rw [if_neg (by omega), if_pos (by omega), Nat.sub_self, List.getElem?_cons_zero, Array.getElem?_setIfInBounds, if_pos rfl, if_pos (by omega)]
    · by_cases g : o + 1 ≤ k ∧ k < o + 1 + r.length
      · rw [if_pos g, if_pos (by omega), show k - o = (k - (o + 1)) + 1 by omega, List.getElem?_cons_succ]
      · rw [if_neg g, if_neg (by omega), Array.getElem?_setIfInBounds, if_neg (fun h => e h.symm)]
theorem setCells_blk : ∀ (vs : List Value) (w : World) (g o : Nat) (c : Array Value) (t : TypeId), w.heap[g]? = some (.cells c t (0, 0)) → (w.setCells g o vs).heap[g]? = some (.cells (setMm c o vs) t (0, 0))
  | [], _, _, _, _, _, h => h
  | v :: r, w, g, o, c, t, h => by
    rw [World.setCells, setMm]
    exact setCells_blk r _ g (o + 1) _ t (heap_setCell_same w g o c t v h)
theorem own_setCells {α : Type} {S : Sty α} {w : World} {base n c g : Nat} {e : TypeId} {l : List α} (h : w.ownsRow base e S.K (.slice (some ⟨g, 0, none⟩) n c) n (S.flat l)) (hl : l.length = n) {i : Nat} (hi : i < n) (x : α) :
    (w.setCells g (i * S.K) (S.f x)).ownsRow base e S.K (.slice (some ⟨g, 0, none⟩) n c) n (S.flat (l.set i x)) := by
  refine ⟨by rw [S.flat_len, List.length_set, hl], ?_⟩
  rcases h.2 with ⟨h0, _⟩ | ⟨g', cap, cur, h1, h2, h3, h4, h5, h6, h7⟩
  · cases h0
  · cases h1
    have hK := S.pos
    have hb : i * S.K + S.K ≤ n * S.K := by
      have := Nat.mul_le_mul_right S.K (show i + 1 ≤ n by omega)
      rw [Nat.add_mul, Nat.one_mul] at this
      exact this
    have hc : n * S.K ≤ cur.size := by rw [h6]; exact Nat.mul_le_mul_right _ h4
    refine .inr ⟨g, c, setMm cur (i * S.K) (S.f x), rfl, h2, setCells_blk _ _ _ _ _ _ h3, h4, h5, by rw [setMm_size, h6], ?_⟩
    apply List.ext_getElem?
    intro k
    by_cases hk : k < n * S.K
    · have hq : k / S.K < n := (Nat.div_lt_iff_lt_mul hK).2 hk
      have hr : k % S.K < S.K := Nat.mod_lt _ hK
      have hkk : k / S.K * S.K + k % S.K = k := by rw [Nat.mul_comm]; exact Nat.div_add_mod k S.K
      have e1 : (S.flat (l.set i x))[k]? = (S.f ((l.set i x).getD (k / S.K) S.z))[k % S.K]? := by
        have := vflat_at S.f S.K S.wid S.z (l.set i x) (k / S.K) (k % S.K) (by rw [List.length_set, hl]; exact hq) hr
        rw [hkk] at this
        exact this
      have e2 : cur[k]? = (S.f (l.getD (k / S.K) S.z))[k % S.K]? := by
        have := vflat_at S.f S.K S.wid S.z l (k / S.K) (k % S.K) (by rw [hl]; exact hq) hr
        rw [hkk] at this
        rw [← this]
        have h8 : (S.flat l)[k]? = (cur.toList.take (n * S.K))[k]? := by rw [h7]
        rw [show (l.flatMap S.f)[k]? = (S.flat l)[k]? from rfl, h8, List.getElem?_take_of_lt hk, Array.getElem?_toList]
      rw [List.getElem?_take_of_lt hk, Array.getElem?_toList, setMm_get _ _ _ _ (by rw [S.wid]; omega), S.wid, e1]
      by_cases ei : k / S.K = i
      · rw [if_pos (by rw [← ei]; omega), List.getD_eq_getElem?_getD, ei, List.getElem?_set_self (by omega)]
        congr 1
        rw [← ei]
        omega
      · rw [if_neg (fun hh => ei (by
          obtain ⟨a1, a2⟩ := hh
          have b1 : i ≤ k / S.K := (Nat.le_div_iff_mul_le hK).2 a1
          have b2 : k / S.K < i + 1 := (Nat.div_lt_iff_lt_mul hK).2 (by rw [Nat.add_mul, Nat.one_mul]; exact a2)
          omega)), e2, List.getD_eq_getElem?_getD, List.getD_eq_getElem?_getD, List.getElem?_set_ne (fun h => ei h.symm)]
    · rw [List.getElem?_eq_none (by rw [List.length_take]; omega), List.getElem?_eq_none (by rw [S.flat_len, List.length_set, hl]; omega)]
end Go.Proofs.YtadfmenlpnibnaaGreat
end PkMS6_2
section PkMS6_3
/- A region whose order is drawn, in which some operations wait for each other in a chain and turn the world, and all others only read and have known values. -/
namespace Go.Proofs.YtadfmenlpnibnaaGreat
open Go.RowKit
set_option linter.unusedVariables false

/-- does operation i wait for operation j -/
def needsB (ops : Array Oper) : Nat → Nat → Nat → Bool
  | 0, _, _ => false
  | f + 1, i, j => match ops[i]? with
    | none => false
    | some o => o.after.any fun (e : Edge) => Region.binds .any e && (e.on == j || needsB ops f e.on j)
/-- what has come up is closed: all that an operation waited for -/
def ClosedB (ops : Array Oper) (L : Nat → Bool) : Prop := ∀ (i : Nat) (o : Oper), ops[i]? = some o → L i = true → ∀ e : Edge, e ∈ o.after → Region.binds .any e = true → L e.on = true
theorem needs_up {ops : Array Oper} {L : Nat → Bool} (h : ClosedB ops L) : ∀ (f i j : Nat), needsB ops f i j = true → L i = true → L j = true
  | 0, _, _, hn, _ => by cases hn
  | f + 1, i, j, hn, hl => by
    unfold needsB at hn
    cases ho : ops[i]? with
    | none => rw [ho] at hn; cases hn
    | some o =>
      rw [ho] at hn
      simp only [Array.any_eq_true] at hn
      obtain ⟨k, hk, he⟩ := hn
      rw [Bool.and_eq_true, Bool.or_eq_true] at he
      have h1 := h i o ho hl _ (Array.getElem_mem hk) he.1
      rcases he.2 with g | g
      · rw [← beq_iff_eq.1 g]; exact h1
      · exact needs_up h f _ j g h1
def bigC : Nat := 1000000
/-- the chain: told apart, each link waits for the one ahead, the last one for all -/
def chainOk (ops : Array Oper) (E : List Nat) (fr : Bool) : Bool :=
  decide (ops.size < bigC) && decide (0 < E.length) && (E.all fun e => decide (e < ops.size)) && decide (E.Nodup) && ((List.range (E.length - 1)).all fun i => needsB ops ops.size (E.getD (i + 1) bigC) (E.getD i bigC)) &&
  (fr || (List.range ops.size).all fun j => E.contains j || needsB ops ops.size (E.getD (E.length - 1) bigC) j)
structure ChI (ops : Array Oper) (E : List Nat) (St : Nat → (Nat → Value) → World → Prop) (vals : Nat → Option Value) (L : Nat → Bool) (v : Nat → Value) (w : World) : Prop where
  cl : ClosedB ops L
  st : ∃ k, k ≤ E.length ∧ (∀ i, i < E.length → (L (E.getD i bigC) = true ↔ i < k)) ∧ St k (fun n => v (E.getD n bigC)) w
  vs : ∀ j x, L j = true → vals j = some x → v j = x
theorem closed_add {ops : Array Oper} {L : Nat → Bool} (h : ClosedB ops L) {i : Nat} {o : Oper} (ho : ops[i]? = some o) (hd : ∀ e : Edge, e ∈ o.after → Region.binds .any e = true → L e.on = true) : ClosedB ops (fun j => L j || decide (j = i)) := by
  intro j o' hj hl e he hb
  show (L e.on || decide (e.on = i)) = true
  have hl' : (L j || decide (j = i)) = true := hl
  rcases Bool.or_eq_true_iff.1 hl' with g | g
  · rw [h j o' hj g e he hb, Bool.true_or]
  · obtain rfl : j = i := by simpa using g
    rw [ho] at hj
    cases hj
    rw [hd e he hb, Bool.true_or]
theorem wp_region_chain {P : Program} {ops : Array Oper} {Q : Exit → Act → World → Prop} {id : Nat} {a : Act} {w : World} (hm : P.follows .mixedOrders = true)
    (hne : ((List.range ops.size).all fun i => (List.range ops.size).all fun j => decide (i = j) || (slotOf ops i == none) || !(slotOf ops i == slotOf ops j)) = true)
    (hac : ((List.range ops.size).all fun i => (ops[i]?).all fun (o : Oper) => o.after.all fun (e : Edge) => !Region.binds .any e || decide (e.on < i)) = true)
    (E : List Nat) (fr : Bool) (hE : chainOk ops E fr = true) (St : Nat → (Nat → Value) → World → Prop) (R : World → Prop) (vals : Nat → Option Value)
    (hv : ((List.range ops.size).all fun j => E.contains j || (vals j).isSome) = true)
    (h0 : ∀ u, St 0 u w.drew) (hR : ∀ k u w1, (fr = false → k < E.length) → k ≤ E.length → St k u w1 → R w1)
    (val : ∀ (j : Nat) (o : Oper), ops[j]? = some o → E.contains j = false → ∀ (v : Nat → Value) (w1 : World) (K : Act → World → Prop), R w1 → (∀ e : Edge, e ∈ o.after → Region.binds .any e = true → ∀ x, vals e.on = some x → v e.on = x) →
      (∀ x, vals j = some x → ∀ a2, a2 = (fill ops a v ops.size).put o.dst x → K a2 w1) →
      if Region.wanted o (yielded ops (fill ops a v ops.size).tmps) = true then Oper.wp P o (fill ops a v ops.size) w1 K Q else K ((fill ops a v ops.size).put o.dst undef) w1)
    (eff : ∀ (i e : Nat) (o : Oper), E[i]? = some e → ops[e]? = some o → ∀ (v : Nat → Value) (w1 : World) (K : Act → World → Prop), St i (fun n => v (E.getD n bigC)) w1 → (∀ e' : Edge, e' ∈ o.after → Region.binds .any e' = true → ∀ x, vals e'.on = some x → v e'.on = x) →
      (∀ x w2, St (i + 1) (fun n => if n = i then x else v (E.getD n bigC)) w2 → (∀ y, vals e = some y → x = y) → ∀ a2, a2 = (fill ops a v ops.size).put o.dst x → K a2 w2) →
      if Region.wanted o (yielded ops (fill ops a v ops.size).tmps) = true then Oper.wp P o (fill ops a v ops.size) w1 K Q else K ((fill ops a v ops.size).put o.dst undef) w1)
    (last : ∀ (v : Nat → Value) (w1 : World), St E.length (fun n => v (E.getD n bigC)) w1 → (∀ j x, j < ops.size → vals j = some x → v j = x) → Q .normal (fill ops a v ops.size) w1) : (Code.region id ops true).wp P Q a w := by
  unfold chainOk at hE
  simp only [Bool.and_eq_true, Bool.or_eq_true, decide_eq_true_eq, List.all_eq_true, List.mem_range] at hE
  obtain ⟨⟨⟨⟨⟨hbig, hpos⟩, hlt⟩, hnd⟩, hch⟩, hla⟩ := hE
  have hgd : ∀ i, i < E.length → E[i]? = some (E.getD i bigC) := fun i hi => by
    rw [List.getElem?_eq_getElem hi, List.getD_eq_getElem?_getD, List.getElem?_eq_getElem hi]; rfl
  have hmem : ∀ i, i < E.length → E.getD i bigC ∈ E := fun i hi => List.mem_of_getElem? (hgd i hi)
  have hinj : ∀ i j, i < E.length → j < E.length → E.getD i bigC = E.getD j bigC → i = j := fun i j hi hj e => by
    have h1 := hgd i hi
    rw [e, ← hgd j hj] at h1
    exact (List.getElem?_inj hi hnd).1 h1
  have hbd : ∀ i, E.length ≤ i → E.getD i bigC = bigC := fun i hi => by rw [List.getD_eq_getElem?_getD, List.getElem?_eq_none hi]; rfl
  refine wp_region_inv hm hne hac (ChI ops E St vals) (fun v => ⟨(fun i o ho h => by cases h), ⟨0, Nat.zero_le _, (fun i hi => ⟨(fun h => by cases h), (fun h => by omega)⟩), h0 _⟩, (fun j x h => by cases h)⟩) ?_ ?_
  · intro j o ho L v w1 K hI hL hdep hK
    have hjs : j < ops.size := (Array.getElem?_eq_some_iff.1 ho).1
    obtain ⟨k, hk, hLk, hSt⟩ := hI.st
    have hcl := closed_add hI.cl ho hdep
    have hdv : ∀ e : Edge, e ∈ o.after → Region.binds .any e = true → ∀ x, vals e.on = some x → v e.on = x := fun e he hb x hx => hI.vs e.on x (hdep e he hb) hx
    cases hc : E.contains j with
    | false =>
      have hnE : ∀ i, i < E.length → E.getD i bigC ≠ j := fun i hi e => by
        have := hmem i hi
        rw [e] at this
        rw [List.contains_iff_mem.2 this] at hc
        cases hc
      have hkl : fr = false → k < E.length := by
        intro hfr
        rcases Nat.lt_or_ge k E.length with g | g
        · exact g
        · exfalso
          have h1 := (hLk (E.length - 1) (by omega)).2 (by omega)
          have h2 := (hla.resolve_left (by rw [hfr]; decide)) j hjs
          have h2' : needsB ops ops.size (E.getD (E.length - 1) bigC) j = true := h2.resolve_left (by rw [hc]; decide)
          have h3 := needs_up hI.cl _ _ _ h2' h1
          rw [hL] at h3
          cases h3
      have hsm := List.all_eq_true.1 hv j (List.mem_range.2 hjs)
      rw [hc, Bool.false_or] at hsm
      refine val j o ho hc v w1 K (hR k _ w1 hkl hk hSt) hdv (fun x hx a2 ha2 => hK x w1 ⟨hcl, ⟨k, hk, fun i hi => ?_, ?_⟩, fun i y hi hy => ?_⟩ a2 ha2)
      · show (L (E.getD i bigC) || decide (E.getD i bigC = j)) = true ↔ i < k
        rw [decide_eq_false (hnE i hi), Bool.or_false]
        exact hLk i hi
      · have : (fun n => upd v j x (E.getD n bigC)) = fun n => v (E.getD n bigC) := by
          funext n
          unfold upd
          rw [if_neg]
          rcases Nat.lt_or_ge n E.length with g | g
          · exact hnE n g
          · rw [hbd n g]; omega
        rw [this]
        exact hSt
      · unfold upd
        by_cases e : i = j
        · rw [if_pos e]
          rw [e, hx] at hy
          exact Option.some.inj hy
        · rw [if_neg e]
          have hi' : (L i || decide (i = j)) = true := hi
          rw [decide_eq_false e, Bool.or_false] at hi'
          exact hI.vs i y hi' hy
    | true =>
      obtain ⟨i, hi, hEi⟩ := List.getElem_of_mem (List.contains_iff_mem.1 hc)
      have hEi' : E.getD i bigC = j := by rw [List.getD_eq_getElem?_getD, List.getElem?_eq_getElem hi, hEi]; rfl
      have hki : k ≤ i := by
        rcases Nat.lt_or_ge i k with g | g
        · have := (hLk i hi).2 g
          rw [hEi', hL] at this
          cases this
        · exact g
      have hkE : k = i := by
        rcases Nat.eq_or_lt_of_le hki with g | g
        · exact g
        · exfalso
          have h2 := hch (i - 1) (by omega)
          rw [show i - 1 + 1 = i by omega, hEi'] at h2
          -- what j waits for has come up
          have h3 : L (E.getD (i - 1) bigC) = true := by
            have hcl2 := needs_up (L := fun y => L y || decide (y = j)) hcl _ _ _ h2 (by simp)
            have hne' : E.getD (i - 1) bigC ≠ j := fun e => by
              rw [← hEi'] at e
              have := hinj _ _ (by omega) hi e
              omega
            have : (L (E.getD (i - 1) bigC) || decide (E.getD (i - 1) bigC = j)) = true := hcl2
            rwa [decide_eq_false hne', Bool.or_false] at this
          have := (hLk (i - 1) (by omega)).1 h3
          omega
      subst hkE
      refine eff k j o (by rw [hgd k hi, hEi']) ho v w1 K hSt hdv (fun x w2 hs hy9 a2 ha2 => hK x w2 ⟨hcl, ⟨k + 1, by omega, fun n hn => ?_, ?_⟩, fun i y hi2 hy => ?_⟩ a2 ha2)
      · show (L (E.getD n bigC) || decide (E.getD n bigC = j)) = true ↔ n < k + 1
        by_cases e : n = k
        · subst e
          rw [hEi', decide_eq_true rfl, Bool.or_true]
          exact ⟨fun _ => by omega, fun _ => rfl⟩
        · rw [decide_eq_false (fun h => e (hinj _ _ hn hi (h.trans hEi'.symm))), Bool.or_false, hLk n hn]
          omega
      · have : (fun n => upd v j x (E.getD n bigC)) = fun n => if n = k then x else v (E.getD n bigC) := by
          funext n
          unfold upd
          by_cases e : n = k
          · rw [if_pos e, e, if_pos hEi']
          · rw [if_neg e, if_neg]
            rcases Nat.lt_or_ge n E.length with g | g
            · exact fun h => e (hinj _ _ g hi (h.trans hEi'.symm))
            · rw [hbd n g]; omega
        rw [this]
        exact hs
      · unfold upd
        by_cases e : i = j
        · rw [if_pos e]
          rw [e] at hy
          exact hy9 y hy
        · rw [if_neg e]
          have hi' : (L i || decide (i = j)) = true := hi2
          rw [decide_eq_false e, Bool.or_false] at hi'
          exact hI.vs i y hi' hy
  · intro L v w1 hI hall
    obtain ⟨k, hk, hLk, hSt⟩ := hI.st
    have hkE : k = E.length := by
      have h1 := (hLk (E.length - 1) (by omega)).1 (hall _ (hlt _ (hmem _ (by omega))))
      omega
    subst hkE
    exact last v w1 hSt (fun j x hj hx => hI.vs j x (hall j hj) hx)
end Go.Proofs.YtadfmenlpnibnaaGreat
end PkMS6_3
section PkMS6_4
/- A region whose order is drawn, walked by wp_region_chain, in few words: what an operation waited for is told as equations of its slots. -/
namespace Go.Proofs.YtadfmenlpnibnaaGreat
open Go.RowKit
set_option linter.unusedVariables false

/-- what is known of the slots that were waited for -/
def KnB (vals : Nat → Option Value) (V : Nat → Value) : List Edge → Prop
  | [] => True
  | e :: r => (match Region.binds .any e with | true => (match vals e.on with | some x => V e.on = x | none => True) | false => True) ∧ KnB vals V r
theorem knB_of {vals : Nat → Option Value} {V : Nat → Value} : ∀ {l : List Edge}, (∀ e ∈ l, Region.binds .any e = true → ∀ x, vals e.on = some x → V e.on = x) → KnB vals V l
  | [], _ => trivial
  | e :: r, h => by
    refine ⟨?_, knB_of (fun e' he => h e' (List.mem_cons_of_mem _ he))⟩
    cases hb : Region.binds .any e with
    | false => trivial
    | true =>
      cases hv : vals e.on with
      | none => trivial
      | some x => exact h e List.mem_cons_self hb x hv
theorem wp_region_chain2 {P : Program} {ops : Array Oper} {Q : Exit → Act → World → Prop} {id : Nat} {a : Act} {w : World} (hm : P.follows .mixedOrders = true)
    (hne : ((List.range ops.size).all fun i => (List.range ops.size).all fun j => decide (i = j) || (slotOf ops i == none) || !(slotOf ops i == slotOf ops j)) = true)
    (hac : ((List.range ops.size).all fun i => (ops[i]?).all fun (o : Oper) => o.after.all fun (e : Edge) => !Region.binds .any e || decide (e.on < i)) = true)
    (E : List Nat) (fr : Bool) (hE : chainOk ops E fr = true) (St : Nat → (Nat → Value) → World → Prop) (R : World → Prop) (vals : Nat → Option Value)
    (hv : ((List.range ops.size).all fun j => E.contains j || (vals j).isSome) = true)
    (h0 : ∀ u, St 0 u w.drew) (hR : ∀ k u w1, (fr = false → k < E.length) → k ≤ E.length → St k u w1 → R w1)
    (val : ∀ (j : Nat) (o : Oper), ops[j]? = some o → E.contains j = false → ∀ (v : Nat → Value) (w1 : World) (K : Act → World → Prop), R w1 → KnB vals v o.after.toList →
      (∀ x, vals j = some x → ∀ a2, a2 = (fill ops a v ops.size).put o.dst x → K a2 w1) →
      if Region.wanted o (yielded ops (fill ops a v ops.size).tmps) = true then Oper.wp P o (fill ops a v ops.size) w1 K Q else K ((fill ops a v ops.size).put o.dst undef) w1)
    (eff : ∀ (i e : Nat) (o : Oper), E[i]? = some e → ops[e]? = some o → ∀ (v : Nat → Value) (w1 : World) (K : Act → World → Prop), St i (fun n => v (E.getD n bigC)) w1 → KnB vals v o.after.toList →
      (∀ x w2, St (i + 1) (fun n => if n = i then x else v (E.getD n bigC)) w2 → (∀ y, vals e = some y → x = y) → ∀ a2, a2 = (fill ops a v ops.size).put o.dst x → K a2 w2) →
      if Region.wanted o (yielded ops (fill ops a v ops.size).tmps) = true then Oper.wp P o (fill ops a v ops.size) w1 K Q else K ((fill ops a v ops.size).put o.dst undef) w1)
    (last : ∀ (v : Nat → Value) (w1 : World), St E.length (fun n => v (E.getD n bigC)) w1 → (∀ j x, j < ops.size → vals j = some x → v j = x) → Q .normal (fill ops a v ops.size) w1) : (Code.region id ops true).wp P Q a w :=
  wp_region_chain hm hne hac E fr hE St R vals hv h0 hR
    (fun j o ho hc v w1 K hr hd => val j o ho hc v w1 K hr (knB_of fun e he => hd e (Array.mem_toList_iff.1 he)))
    (fun i e o hi ho v w1 K hs hd => eff i e o hi ho v w1 K hs (knB_of fun e he => hd e (Array.mem_toList_iff.1 he))) last
end Go.Proofs.YtadfmenlpnibnaaGreat
end PkMS6_4
