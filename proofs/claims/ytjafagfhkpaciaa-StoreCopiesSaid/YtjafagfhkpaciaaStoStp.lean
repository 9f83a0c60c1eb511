/- A law's own store: its lists, its uploads, its size. -/
import Derived.Test.YtjafagfhkpaciaaStoKst
namespace Go.Proofs.Ytjafagfhkpaciaa
open Go.RowKit Go.Shelf Go.Maps Go.Sort
set_option linter.unusedVariables false

section
variable {base : Nat} {W : World} {s : Nat} {σ : Sto} {vr at_ nn id : Int} {ky : ByteArray} {a : Option Addr} {n c : Nat} {xs : List Nat}
theorem lst_row {w W0 w1 w5 : World} {L : List ItemV} {la : Option Addr} {ln lc : Nat} (g3 : w.heap.size + 2 ≤ W0.heap.size) (hr : w1.ownsRow W0.heap.size 46 4 (.slice la ln lc) ln (ItemS.flat L)) (g6 : Frm (fun b => b = w.heap.size + 1) w1 w5) : w5.ownsRow w.heap.size 46 4 (.slice la ln lc) ln (ItemS.flat L) := by
  refine ⟨hr.1, ?_⟩
  rcases hr.2 with g | ⟨g, cap, cu, h1, h2, h3, h4⟩
  · exact .inl g
  · refine .inr ⟨g, cap, cu, h1, by omega, ?_, h4⟩
    exact (g6.block g (Array.getElem?_eq_some_iff.1 h3).1 (by omega)).trans h3
def SeesD (base : Nat) (W : World) (s : Nat) (σ : Sto) (L : List ItemV) (e : Ending) (W' : World) : Prop :=
  Below base W W' ∧ KeepC W W' ∧ StIn base W' s σ ∧ ∃ la ln lc, e = .returned (repV 0 0 0 0 (.slice none 0 0) (.slice la ln lc) (decide (16 < L.length))) ∧ ln ≤ 16 ∧ ln = (L.take 16).length ∧ W'.ownsRow W.heap.size 46 4 (.slice la ln lc) ln (ItemS.flat (L.take 16))
theorem sees_of {Mo Mu : Nat} {L : List ItemV} {e : Ending} {w5 : World} (h : StIn base W s σ) (hb : base ≤ W.heap.size) (hs : SAt W s Mo Mu σ) (hF : ∀ b, StF s Mo Mu σ b → base ≤ b) (hq : LstD W s Mo Mu σ L e w5) : SeesD base W s σ L e w5 := by
  obtain ⟨W0, w1, g2, g3, ⟨q1, q2, la, ln, lc, he, hr, hn⟩, g5, g6⟩ := hq
  have hf := out_frm g2 g5 g6
  have hst := out_st hs g3 q1 (fun b hb => .inl hb) g6
  refine ⟨hf.toBelow hb hF, keepC_of hs hf, ⟨h.1, .inl ⟨Mo, Mu, hst, hF⟩⟩, la, ln, lc, he, hn, ?_, lst_row g3 hr g6⟩
  have h1 := hr.1
  have h2 := ItemS.flat_len (L.take 16)
  have h3 : ItemS.K = 4 := rfl
  rw [h3] at h2
  omega
theorem step_list (h : StIn base W s σ) (hb : base ≤ W.heap.size) (hi : Inv σ) (hx : BytesAt W a n c xs) :
    Calls Try.prog 12 #[.pointer (some ⟨s, 0, none⟩), .agg #[.int .i64 5, .string ky, .slice a n c, .int .i64 vr, .int .i64 at_, .int .i64 nn, .int .i64 id]] W (SeesD base W s σ (pageL (wantK ky (bs xs)) (fun p => itemO p.1 p.2) σ.objs)) := by
  obtain ⟨Mo, Mu, hs, hF⟩ := h.sat hb
  exact (doList hs hi hx).mono fun e w5 hq => sees_of h hb hs hF hq
theorem step_opened (h : StIn base W s σ) (hb : base ≤ W.heap.size) (hi : Inv σ) (hidb : σ.id ≤ 1000000000) :
    Calls Try.prog 12 #[.pointer (some ⟨s, 0, none⟩), .agg #[.int .i64 11, .string ky, .slice a n c, .int .i64 vr, .int .i64 at_, .int .i64 nn, .int .i64 id]] W (SeesD base W s σ (pageL (fun k => decide (id < k)) (fun p => (⟨p.2.key, p.1, ((psz p.2.parts : Nat) : Int), p.2.born⟩ : ItemV)) σ.ups)) := by
  obtain ⟨Mo, Mu, hs, hF⟩ := h.sat hb
  exact (doOpened hs hi hidb).mono fun e w5 hq => sees_of h hb hs hF hq
end
set_option maxHeartbeats 1000000 in
theorem sortedU_nil (w : World) :
    Calls Try.prog 38 #[.func (.func 61) #[] #[.pointer (some ⟨w.heap.size, 0, none⟩)]] (w.alloc (.cells #[.map none] 59)) fun e w' => ∃ v, e = .returned v ∧
      w'.ownsRow (w.heap.size + 1) 3 1 v 0 [] ∧ RowKit.Below (w.heap.size + 1) (w.alloc (.cells #[.map none] 59)) w' := by
  have hmx : maxLen = 9223372036854775807 := rfl
  have hseq : SeqGives Fence.wide 2 Try.prog 61 #[.pointer (some ⟨w.heap.size, 0, none⟩)] encZ (fun ss : List Int => ss = []) 0 (w.alloc (.cells #[.map none] 59)) :=
    AnyZI.keys_gives_nil (ρ := sh_keys39_ren) { sh_keys39 with } Fence.wide _ trivial rfl w.heap.size _ (by simp) (by simp)
  refine (callsIn_wide.1 (AnyZI.sorted_in sh_sorted38 Fence.wide 5 trivial trivial trivial trivial rfl (by omega) (sortsI _) (enters_of Try.func60 (by kernel_rfl) rfl) 61 #[.pointer (some ⟨w.heap.size, 0, none⟩)] trivial (enters_of Try.func61 (by kernel_rfl) rfl) _ 0 (Nat.zero_le _) (by omega) _ hseq)).mono ?_
  rintro e w' ⟨v, ss, rfl, rfl, hrow, hnil, hb⟩
  have hh : (w.alloc (.cells #[.map none] 59)).heap.size = w.heap.size + 1 := by simp
  rw [hh] at hrow hb
  have hr2 : w'.ownsRow (w.heap.size + 1) 3 1 v 0 [] := by
    have h1 : w'.ownsRow (w.heap.size + 1) (sh_sorted38_ren.t 26) 1 v 0 [] := by simpa using hrow
    exact h1
  exact ⟨v, rfl, hr2, hb⟩
set_option maxRecDepth 100000 in
set_option maxHeartbeats 2000000 in
theorem uploads_nil {w : World} {s : Nat} (h : w.cell? ⟨s, 1, none⟩ = some (.map none)) :
    Calls Try.prog 20 #[.pointer (some ⟨s, 0, none⟩)] w fun e w' => ∃ v, e = .returned v ∧ w'.ownsRow (w.heap.size + 1) 3 1 v 0 [] ∧ RowKit.Below w.heap.size w w' := by
  have H1 := Lib.hid (keysU_any none w)
  have H2 := Lib.hid (sortedU_nil w)
  go_enter Try.func20, Try.ntmps20
  go_wp2_with fail
  refine H1.out.mono ?_
  rintro e w1 ⟨rfl, rfl⟩
  go_wp2_with fail
  refine H2.out.mono ?_
  rintro e w2 ⟨v, rfl, hrow, hb⟩
  go_wp2_with fail
  first | go_ret2 | go_ret
  exact ⟨v, rfl, hrow, below_two hb⟩
set_option maxRecDepth 100000 in
set_option maxHeartbeats 2000000 in
theorem uploads_map {w : World} {s Mu : Nat} {l : List (Int × UplS)} (c1 : w.cell? ⟨s, 1, none⟩ = some (.map (some Mu))) (h : GM TU ilit uplC w Mu l) (hl : l.length ≤ 100000) :
    Calls Try.prog 20 #[.pointer (some ⟨s, 0, none⟩)] w fun e w' => ∃ v, e = .returned v ∧ w'.ownsRow (w.heap.size + 1) 3 1 v l.length ((idsOf l).map encZ) ∧ RowKit.Below w.heap.size w w' := by
  have H1 := Lib.hid (keysU_any (some Mu) w)
  have H2 := Lib.hid (sortedU_any h hl)
  clear h
  go_enter Try.func20, Try.ntmps20
  go_wp2_with fail
  refine H1.out.mono ?_
  rintro e w1 ⟨rfl, rfl⟩
  go_wp2_with fail
  refine H2.out.mono ?_
  rintro e w2 ⟨v, rfl, hrow, hb⟩
  go_wp2_with fail
  first | go_ret2 | go_ret
  exact ⟨v, rfl, hrow, below_two hb⟩
theorem uploads_st {base : Nat} {W : World} {s : Nat} {σ : Sto} (h : StIn base W s σ) (hl : σ.ups.length ≤ 100000) :
    Calls Try.prog 20 #[.pointer (some ⟨s, 0, none⟩)] W fun e w' => ∃ v, e = .returned v ∧ w'.ownsRow (W.heap.size + 1) 3 1 v σ.ups.length (IntS.flat (σ.ups.map (·.1))) ∧ RowKit.Below W.heap.size W w' := by
  obtain ⟨_, ⟨Mo, Mu, h1, _⟩ | ⟨h1, h2⟩⟩ := h
  · refine (uploads_any h1 hl).mono ?_
    rintro e w' ⟨v, rfl, hr, hb⟩
    rw [ids_flat] at hr
    exact ⟨v, rfl, hr, hb⟩
  · have e0 : σ.ups = [] := by rw [h2]; rfl
    rw [e0]
    obtain ⟨mu, h1, rfl | ⟨m, rfl, hm⟩⟩ := h1
    · refine (uploads_nil (cell_blk2 h1 (i := 1) (u := .map none) rfl)).mono ?_
      rintro e w' ⟨v, rfl, hr, hb⟩
      exact ⟨v, rfl, hr, hb⟩
    · refine (uploads_map (cell_blk2 h1 (i := 1) (u := .map (some m)) rfl) hm (by simp)).mono ?_
      rintro e w' ⟨v, rfl, hr, hb⟩
      exact ⟨v, rfl, hr, hb⟩
theorem StIn.size {base : Nat} {W : World} {s : Nat} {σ : Sto} (h : StIn base W s σ) : W.cell? ⟨s, 4, none⟩ = some (.int .i64 σ.size) := by
  obtain ⟨_, ⟨Mo, Mu, h1, _⟩ | ⟨h1, h2⟩⟩ := h
  · exact cell_blk2 h1.blk rfl
  · rw [h2]
    exact h1.cell4
theorem size_st {base : Nat} {W : World} {s : Nat} {σ : Sto} (h : StIn base W s σ) :
    Calls Try.prog 19 #[.pointer (some ⟨s, 0, none⟩)] W fun e W' => e = .returned (.int .i64 σ.size) ∧ W' = W := size_of h.size
end Go.Proofs.Ytjafagfhkpaciaa
