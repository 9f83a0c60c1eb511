/- merge.Rows, walked. -/
import Derived.Test.YtpcgjladooijmaaLhMerged
namespace Go.Proofs.Ytpcgjladooijmaa
open Go.ChangeShapes Go.WideShapes Go.Deep Go.RowKit LabPlain RecPlain Hp
set_option linter.unusedVariables false

theorem RowsAt.ofOwnL {w : World} {base : Nat} {v : Value} {n : Nat} {l : List RowV} (h : w.ownsRow base 51 9 v n (rcells l)) (hl : l.length = n) (hf : ∀ x ∈ l, x.fits) (hlab : ∀ x ∈ l, LabsAt w x.r.la x.r.ln x.r.lc x.r.labs) : ∃ a c, v = .slice a n c ∧ RowsAt w a n c l := by
  rcases h.2 with ⟨rfl, h0⟩ | ⟨g, cap, cur, rfl, hg, hh, hnc, hcap, hsz, htake⟩
  · subst h0
    obtain rfl : l = [] := List.eq_nil_of_length_eq_zero hl
    exact ⟨none, 0, rfl, RowsAt.empty w none 0 (by omega) (fun _ => rfl)⟩
  · refine ⟨_, cap, rfl, hl, hnc, by unfold maxLen at hcap; exact hcap, (fun e => by cases e), hf, hlab, fun hp => ⟨g, 0, rfl, (Array.getElem?_eq_some_iff.1 hh).1, fun i hi j u hu => ?_⟩⟩
    have hj : j < 9 := (List.getElem?_eq_some_iff.1 hu).1
    have h2 : (rcells l)[i * 9 + j]? = some u := by
      unfold rcells
      rw [flat_at RowV.cells 9 (fun _ => rfl) row0 l i j (by omega) hj, hu]
    rw [Nat.zero_add, cell_of_row w _ _ _ _ (0, 0) hh, ← h2, ← htake, List.getElem?_take_of_lt (by omega), Array.getElem?_toList]
/-- a row with its labels elsewhere -/
def RowV.moved (x : RowV) (a : Option Addr) (c : Nat) : RowV := ⟨⟨x.r.kind, x.r.time, a, x.r.ln, c, x.r.labs, x.r.text, x.r.value, x.r.null⟩, x.who, x.sq, x.pl⟩
theorem moved_says (x : RowV) (a : Option Addr) (c : Nat) : (x.moved a c).says = x.says := rfl
theorem rcells_moved (a : Option Addr) (c : Nat) : ∀ (l : List RowV) (i : Nat), i < l.length → rcells (l.set i ((l.getD i row0).moved a c)) = (rcells l).set (i * 9 + 2) (.slice a (l.getD i row0).r.ln c)
  | [], i, h => by simp at h
  | x :: l, 0, _ => rfl
  | x :: l, i + 1, h => by
    have ih := rcells_moved a c l i (by simpa using h)
    have e : rcells (x :: l) = x.cells ++ rcells l := rfl
    rw [List.set_cons_succ, show (x :: l).getD (i + 1) row0 = l.getD i row0 from rfl, show rcells (x :: l.set i ((l.getD i row0).moved a c)) = x.cells ++ rcells (l.set i ((l.getD i row0).moved a c)) from rfl, ih, e, List.set_append_right _ _ (by show 9 ≤ _; omega)]
    congr 2
    show _ = (i + 1) * 9 + 2 - 9
    omega
/-- one cell of owned rows set -/
theorem own_set {w : World} {base g N c k : Nat} {xs : List Value} (h : w.ownsRow base 51 9 (.slice (some ⟨g, 0, none⟩) N c) N xs) (hk : k < N * 9) (u : Value) : (w.setCell ⟨g, k, none⟩ u).ownsRow base 51 9 (.slice (some ⟨g, 0, none⟩) N c) N (xs.set k u) := by
  refine ⟨by rw [List.length_set]; exact h.1, ?_⟩
  rcases h.2 with ⟨h0, _⟩ | ⟨g', cap, cur, he, hg, hh, hnc, hcap, hsz, htake⟩
  · cases h0
  · cases he
    refine .inr ⟨g, c, _, rfl, hg, heap_setCell_same w g k cur _ u hh, hnc, hcap, by rw [Array.size_setIfInBounds]; exact hsz, ?_⟩
    rw [Array.toList_setIfInBounds, List.take_set, htake]
/-- where a row's labels lie: where they lay, or in new memory -/
def LabIn (W w : World) (x : RowV) : Prop := LabsAt W x.r.la x.r.ln x.r.lc x.r.labs ∨ (w.ownsRow W.heap.size 53 2 (.slice x.r.la x.r.ln x.r.lc) x.r.ln (lcells x.r.labs) ∧ x.r.labs.length = x.r.ln ∧ ∀ y ∈ x.r.labs, y.1.size ≤ 140737488355328 ∧ y.2.size ≤ 140737488355328)
theorem LabIn.at' {W w : World} {x : RowV} (h : LabIn W w x) (hb : Below W.heap.size W w) : LabsAt w x.r.la x.r.ln x.r.lc x.r.labs := by
  rcases h with h | ⟨h1, h2, h3⟩
  · exact h.keep hb (Nat.le_refl _)
  · exact own_labs h1 h2 h3
theorem LabIn.below {W w w' : World} {x : RowV} (h : LabIn W w x) (hb : Below w.heap.size w w') : LabIn W w' x := by
  rcases h with h | ⟨h1, h2⟩
  · exact .inl h
  · exact .inr ⟨own_below h1 hb, h2⟩
theorem LabIn.set {W w : World} {x : RowV} {base g N c : Nat} {xs : List Value} (h : LabIn W w x) (ho : w.ownsRow base 51 9 (.slice (some ⟨g, 0, none⟩) N c) N xs) (k : Nat) (u : Value) : LabIn W (w.setCell ⟨g, k, none⟩ u) x := by
  rcases h with h | ⟨h1, h2⟩
  · exact .inl h
  · exact .inr ⟨h1.kept (grown_set w g k u) (own_ne2 h1 ho (by decide)), h2⟩

theorem len_flat : ∀ {ls : List LsV} {x : LsV}, x ∈ ls → x.rs.length ≤ (ls.flatMap LsV.rs).length
  | [], x, h => by cases h
  | y :: ls, x, h => by
    rw [List.flatMap_cons, List.length_append]
    rcases List.mem_cons.1 h with e | e
    · rw [e]; omega
    · have := len_flat e
      omega
set_option maxRecDepth 100000 in
set_option maxHeartbeats 8000000 in
theorem mrows_any {W : World} {a : Option Addr} {n c : Nat} {ls : List LsV} (h : ListsAt W a n c ls) (hN : (ls.flatMap LsV.rs).length ≤ 1000) (hn : n ≤ 1000) :
    Calls Try.prog 41 #[.slice a n c] W fun e w' => ∃ b N cc rs er, e = .returned (.tuple #[.slice b N cc, .int .i64 er]) ∧ RowsAt w' b N cc rs ∧ Below W.heap.size W w' ∧
      ((er = 4 ∧ N = 0 ∧ ∃ x ∈ ls, rises x.rs = false) ∨
       ((∀ x ∈ ls, rises x.rs = true) ∧ ∃ out, out.Perm (ls.flatMap LsV.rs) ∧ out.Pairwise (fun a b => a.rank ≤ b.rank) ∧ ((er = 18 ∧ N = 0 ∧ rises out = false) ∨ (er = 0 ∧ rises out = true ∧ rs.map RowV.says = out.map RowV.says)))) := by
  have HH := Lib.hid h
  have HL := Lib.hid h.len
  have HNN := Lib.hid hN
  have lcap := h.cap
  have lcm := h.capm
  clear h hN
  go_enter Try.func41, Try.ntmps41
  go_wp2_with fail
  go_loopw [5, 10] (fun s5 s10 wr => ∃ k : Nat, s10 = .int .i64 (k : Int) ∧ k ≤ n ∧ Hid (∀ j, j < k → rises (ls.getD j ls0).rs = true) ∧ Hid (Below W.heap.size W wr)) (fun _ s10 _ => n - (intOf s10).toNat)
  case atStart => exact ⟨0, rfl, by omega, Lib.hid (fun j hj => by omega), Lib.hid (Below.refl _ _)⟩
  case round =>
    obtain ⟨k, rfl, hk, HK, HB⟩ := hrel
    rename World => wr
    by_cases hkn : k < n
    case pos =>
      have hki : (k : Int) < (n : Int) := by omega
      have hk00 : (0 : Int) ≤ (k : Int) := by omega
      have wk : IntKind.i64.wrap ((k : Int) + 1) = (k : Int) + 1 := IntWalk.i64_in _ (by omega)
      have hxm : ls.getD k ls0 ∈ ls := ls_mem (by have := HL.out; omega)
      have hxr := (HH.out.kept HB.out).rows _ hxm
      have hlen1 : (ls.getD k ls0).n ≤ 1000 := by
        have h1 := (HH.out.rows _ hxm).len
        have h2 := len_flat hxm
        have := HNN.out
        omega
      obtain ⟨lb, loff, rfl, hlt, hcell⟩ := (HH.out.kept HB.out).cells (by omega)
      have hc := hcell k hkn
      have HRC := Lib.hid (rising_any hxr (by omega))
      have HXM := Lib.hid hxm
      obtain ⟨x, hx⟩ : ∃ x, x = ls.getD k ls0 := ⟨_, rfl⟩
      rw [← hx] at hc HRC HXM
      have HX := Lib.hid hx
      clear hcell hx hxr hxm
      go_wp2_with fail
      refine HRC.out.mono ?_
      rintro e w5 ⟨rfl, hb5⟩
      have HB5 := Lib.hid (HB.out.trans (hb5.mono HB.out.size))
      clear hb5
      cases hri : rises x.rs with
      | false =>
        have HE := Lib.hid (show ∃ x ∈ ls, rises x.rs = false from ⟨x, HXM.out, hri⟩)
        clear hri
        go_wp2_with fail
        first | go_ret2 | go_ret
        exact ⟨none, 0, 0, [], 4, rfl, RowsAt.empty _ _ _ (by omega) (fun _ => rfl), HB5.out, .inl ⟨rfl, rfl, HE.out⟩⟩
      | true =>
        have HK5 := Lib.hid (show ∀ j, j < k + 1 → rises (ls.getD j ls0).rs = true from fun j hj => by
          rcases Nat.lt_or_ge j k with g | g
          · exact HK.out j g
          · obtain rfl : j = k := by omega
            rw [← HX.out]; exact hri)
        clear hri
        go_wp2_with fail
        go_roundw
        case rel => exact ⟨k + 1, by go_num, by omega, HK5, HB5⟩
        case measure => simp [intOf]; omega
    case neg =>
      have hki : ¬ (k : Int) < (n : Int) := by omega
      obtain rfl : k = n := by omega
      have HALL := Lib.hid (show ∀ x ∈ ls, rises x.rs = true from fun x hx => by
        obtain ⟨j, hj, rfl⟩ := List.getElem_of_mem hx
        have := HK.out j (by have := HL.out; omega)
        rwa [show ls.getD j ls0 = ls[j] by simp [hj]] at this)
      go_wp2_with fail
      refine (merged_any (HH.out.kept HB.out) HALL.out HNN.out hn).mono ?_
      rintro e w5 ⟨v5, out, rfl, hown, hperm, hsrt, hb5⟩
      have hbw5 : Below W.heap.size W w5 := HB.out.trans (hb5.mono HB.out.size)
      have HB5 := Lib.hid hbw5
      have hfl : ∀ x ∈ out, x.fits ∧ LabsAt W x.r.la x.r.ln x.r.lc x.r.labs := fun x hx => by
        obtain ⟨y, hy, hxy⟩ := List.mem_flatMap.1 (hperm.mem_iff.1 hx)
        exact ⟨(HH.out.rows y hy).fits x hxy, (HH.out.rows y hy).labs x hxy⟩
      have hlo : out.length ≤ 1000 := by rw [hperm.length_eq]; exact HNN.out
      have hown' := hown.mono (show W.heap.size ≤ wr.heap.size from HB.out.size)
      obtain ⟨b5, c5, rfl, hat5⟩ := RowsAt.ofOwnL hown' rfl (fun x hx => (hfl x hx).1) (fun x hx => (hfl x hx).2.keep hbw5 (Nat.le_refl _))
      have HRC := Lib.hid (rising_any hat5 (by omega))
      have HOWN := Lib.hid hown'
      have HFL := Lib.hid hfl
      have HPS := Lib.hid (And.intro hperm hsrt)
      obtain ⟨N, hNN⟩ : ∃ N, N = out.length := ⟨_, rfl⟩
      rw [← hNN] at HRC HOWN hlo ⊢
      have HNE := Lib.hid hNN
      have hcap5 := hat5.cap
      rw [← hNN] at hcap5
      clear hb5 hbw5 hfl hown hown' hat5 hNN hperm hsrt
      go_wp2_with fail
      refine HRC.out.mono ?_
      rintro e w6 ⟨rfl, hb6⟩
      have HB6 := Lib.hid (HB5.out.trans (hb6.mono HB5.out.size))
      have HO6 := Lib.hid (own_below HOWN.out hb6)
      clear hb6 HRC
      cases hri : rises out with
      | false =>
        have HE := Lib.hid (show ∃ out : List RowV, out.Perm (ls.flatMap LsV.rs) ∧ out.Pairwise (fun a b => a.rank ≤ b.rank) ∧ rises out = false from ⟨out, HPS.out.1, HPS.out.2, hri⟩)
        clear hri
        go_wp2_with fail
        first | go_ret2 | go_ret
        obtain ⟨o, h1, h2, h3⟩ := HE.out
        exact ⟨none, 0, 0, [], 18, rfl, RowsAt.empty _ _ _ (by omega) (fun _ => rfl), HB6.out, .inr ⟨HALL.out, o, h1, h2, .inl ⟨rfl, rfl, h3⟩⟩⟩
      | true =>
        have HRI := Lib.hid hri
        clear hri
        go_wp2_with fail
        go_loopw [7, 25] (fun s7 s25 wq => ∃ (i : Nat) (cur : List RowV), s25 = .int .i64 (i : Int) ∧ i ≤ N ∧ Hid (wq.ownsRow W.heap.size 51 9 (.slice b5 N c5) N (rcells cur)) ∧ Hid (cur.length = N) ∧ Hid (cur.map RowV.says = out.map RowV.says) ∧ Hid (∀ x ∈ cur, x.fits ∧ LabIn W wq x) ∧ Hid (Below W.heap.size W wq)) (fun _ s25 _ => N - (intOf s25).toNat)
        case atStart => exact ⟨0, out, rfl, by omega, HO6, Lib.hid HNE.out.symm, Lib.hid rfl, Lib.hid (fun x hx => ⟨(HFL.out x hx).1, .inl (HFL.out x hx).2⟩), HB6⟩
        case round =>
          clear HO6 HB6
          obtain ⟨i, cur, rfl, hi, HO, HCL, HCS, HCF, HBQ⟩ := hrel
          rename World => wq
          by_cases hiN : i < N
          case pos =>
            have hii : (i : Int) < (N : Int) := by omega
            have hi00 : (0 : Int) ≤ (i : Int) := by omega
            have wi : IntKind.i64.wrap ((i : Int) + 1) = (i : Int) + 1 := IntWalk.i64_in _ (by omega)
            obtain ⟨g, c9, hsl⟩ := own_some2 HO.out (by omega)
            simp only [Value.slice.injEq, true_and] at hsl
            obtain ⟨rfl, rfl⟩ := hsl
            obtain ⟨r, hr⟩ : ∃ r, r = cur.getD i row0 := ⟨_, rfl⟩
            have hrm : r ∈ cur := by rw [hr]; exact row_mem (by have := HCL.out; omega)
            obtain ⟨hrf, hrl⟩ := HCF.out r hrm
            obtain ⟨a9, c9, he9, hat⟩ := RowsAt.ofOwnL HO.out HCL.out (fun x hx => (HCF.out x hx).1) (fun x hx => (HCF.out x hx).2.at' HBQ.out)
            simp only [Value.slice.injEq, true_and] at he9
            obtain ⟨rfl, rfl⟩ := he9
            obtain ⟨bb, off, hba, hblt, hcell⟩ := hat.cells (by omega)
            cases hba
            have cl := (RowsAt.nine hcell hiN hr).2.2.1
            rw [Nat.zero_add] at cl
            have hfro : ∀ k, wq.frozen? ⟨g, k, none⟩ = false := by
              rcases HO.out.2 with ⟨h0, _⟩ | ⟨g', cap, cr, he, _, hh, _⟩
              · cases h0
              · cases he
                intro k
                simp [World.frozen?, hh]
            have HCLN := Lib.hid (lclone_any (hrl.at' HBQ.out) hrf.1.2.2.2.2)
            have HR := Lib.hid (And.intro hr hrm)
            have HLS := Lib.hid (show r.r.labs.length = r.r.ln ∧ ∀ y ∈ r.r.labs, y.1.size ≤ 140737488355328 ∧ y.2.size ≤ 140737488355328 from ⟨(hrl.at' HBQ.out).len, (hrl.at' HBQ.out).size⟩)
            have HBL := Lib.hid hblt
            have HFR := Lib.hid hfro
            clear hr hrm hrl hcell hat hblt hfro
            go_wp2_with fail
            refine HCLN.out.mono ?_
            rintro e w7 ⟨la7, lc7, rfl, hown7, hb7⟩
            have cl7 : w7.cell? ⟨g, i * 9 + 2, none⟩ = some (.slice r.r.la r.r.ln r.r.lc) := (hb7.cell (p := ⟨g, i * 9 + 2, none⟩) HBL.out).trans cl
            have fl7 : w7.frozen? ⟨g, i * 9 + 2, none⟩ = false := (hb7.frozen (p := ⟨g, i * 9 + 2, none⟩) HBL.out).trans (HFR.out _)
            have hO7 := own_below HO.out hb7
            have HO8 := Lib.hid (show (w7.setCell ⟨g, i * 9 + 2, none⟩ (.slice la7 r.r.ln lc7)).ownsRow W.heap.size 51 9 (.slice (some ⟨g, 0, none⟩) N c5) N (rcells (cur.set i (r.moved la7 lc7))) by
              have h1 := own_set hO7 (k := i * 9 + 2) (by omega) (.slice la7 r.r.ln lc7)
              have h2 := rcells_moved la7 lc7 cur i (by have := HCL.out; omega)
              rw [← HR.out.1] at h2
              rw [h2]; exact h1)
            have HB8 := Lib.hid (show Below W.heap.size W (w7.setCell ⟨g, i * 9 + 2, none⟩ (.slice la7 r.r.ln lc7)) from (HBQ.out.trans (hb7.mono HBQ.out.size)).setCell (p := ⟨g, i * 9 + 2, none⟩) (hO7.lt g rfl).1 _)
            have HCL8 := Lib.hid (show (cur.set i (r.moved la7 lc7)).length = N by rw [List.length_set]; exact HCL.out)
            have HCS8 := Lib.hid (show (cur.set i (r.moved la7 lc7)).map RowV.says = out.map RowV.says by
              rw [← HCS.out, List.map_set, moved_says]
              have hlt : i < cur.length := by have := HCL.out; omega
              have : r = cur[i] := by rw [HR.out.1]; simp [hlt]
              rw [this]
              refine List.ext_getElem? fun j => ?_
              rw [List.getElem?_set]
              split
              · rename_i e; subst e; simp [hlt]
              · rfl)
            have HCF8 := Lib.hid (show ∀ x ∈ cur.set i (r.moved la7 lc7), x.fits ∧ LabIn W (w7.setCell ⟨g, i * 9 + 2, none⟩ (.slice la7 r.r.ln lc7)) x from fun x hx => by
              rcases List.mem_or_eq_of_mem_set hx with e | e
              · exact ⟨(HCF.out x e).1, ((HCF.out x e).2.below hb7).set hO7 _ _⟩
              · rw [e]
                exact ⟨hrf, LabIn.set (x := r.moved la7 lc7) (.inr ⟨hown7.mono HBQ.out.size, HLS.out⟩) hO7 _ _⟩)
            clear hown7 hb7 hO7
            go_wp2_with fail
            go_roundw
            case rel => exact ⟨i + 1, _, by go_num, by omega, HO8, HCL8, HCS8, HCF8, HB8⟩
            case measure => simp [intOf]; omega
          case neg =>
            have hii : ¬ (i : Int) < (N : Int) := by omega
            obtain rfl : i = N := by omega
            obtain ⟨a9, c9, he9, hat⟩ := RowsAt.ofOwnL HO.out HCL.out (fun x hx => (HCF.out x hx).1) (fun x hx => (HCF.out x hx).2.at' HBQ.out)
            simp only [Value.slice.injEq, true_and] at he9
            obtain ⟨rfl, rfl⟩ := he9
            have HAT := Lib.hid hat
            clear hat
            go_wp2_with fail
            first | go_ret2 | go_ret
            exact ⟨_, _, _, cur, 0, rfl, HAT.out, HBQ.out, .inr ⟨HALL.out, out, HPS.out.1, HPS.out.2, .inr ⟨rfl, HRI.out, HCS.out⟩⟩⟩
end Go.Proofs.Ytpcgjladooijmaa
