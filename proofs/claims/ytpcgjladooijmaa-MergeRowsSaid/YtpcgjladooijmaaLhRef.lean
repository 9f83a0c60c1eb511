/- The document's Rows of layer 16, walked. -/
import Derived.Test.YtpcgjladooijmaaLhAgree
import Derived.Test.YtpcgjladooijmaaLhRRise
import Derived.Test.YtpcgjladooijmaaRSort
namespace Go.Proofs.Ytpcgjladooijmaa
open Go.ChangeShapes Go.WideShapes Go.Deep Go.RowKit LabPlain RecPlain Stab
set_option linter.unusedVariables false

theorem RowsAt.srcL {w : World} {ad : Addr} {n c : Nat} {l : List RowV} (h : RowsAt w (some ad) n c l) : ∀ j u, (rcells l)[j]? = some u → w.cell? (ad.add j) = some u := by
  intro j u hu
  have hj : j < n * 9 := by rw [← h.len, ← rcells_len]; exact (List.getElem?_eq_some_iff.1 hu).1
  obtain ⟨b, off, he, hlt, hc⟩ := h.cells (by omega)
  cases he
  have h1 := hc (j / 9) (by omega) (j % 9) u (by
    rw [← hu]
    unfold rcells
    have h2 := flat_at RowV.cells 9 (fun _ => rfl) row0 l (j / 9) (j % 9) (by rw [h.len]; omega) (by omega)
    rw [show j / 9 * 9 + j % 9 = j by omega] at h2
    exact h2.symm)
  rw [Addr.add_mid, show off + j = off + j / 9 * 9 + j % 9 by omega]
  exact h1
theorem wpList_append_rowsL {w : World} {ops : Array Oper} {rest : List Oper} {o : Oper} {a : Act} {Q : Exit → Act → World → Prop} (hgd : o.guard = none) (s x : Operand)
    (ho : o.op = .call { callee := .builtin .append, args := #[s, x], argTypes := #[47, 47] })
    (base : Nat) (v : Value) (n : Nat) (xs : List RowV) (hs : a.eval s = v) (hown : w.ownsRow base 51 9 v n (rcells xs))
    (src : Option Addr) (m c : Nat) (ys : List RowV) (hx : a.eval x = .slice src m c) (hb : RowsAt w src m c ys)
    (h63 : (n + m) * 96 ≤ 140737488355328) (hbase : base ≤ w.heap.size)
    (h : ∀ v' w', w'.ownsRow base 51 9 v' (n + m) (rcells (xs ++ ys)) → w.grownBy w' v.ownBlock → (∃ a c, v' = .slice a (n + m) c) → wpList Try.prog ops Q rest (a.put o.dst v') w') : wpList Try.prog ops Q (o :: rest) a w := by
  obtain ⟨i0, hi, hz0, hz1, hz2⟩ := info_parts row_info
  have hsl : ∀ {v : Value} {w : World} {n : Nat} {l : List Value}, w.ownsRow base 51 9 v n l → ∃ a c, v = .slice a n c := fun {v w n l} h => by
    rcases h.2 with ⟨rfl, rfl⟩ | ⟨g, cap, cur, rfl, _⟩
    · exact ⟨_, _, rfl⟩
    · exact ⟨_, _, rfl⟩
  rcases src with _ | ad
  · have hc := hb.nl rfl
    have hm : m = 0 := by have := hb.cap; omega
    subst hm
    subst hc
    have hy : ys = [] := List.eq_nil_of_length_eq_zero hb.len
    subst hy
    refine wpList_append_own_none hgd s x 47 ho base 51 i0 9 Try.underlying47 hi v n (rcells xs) hs hown hx ?_
    exact h v w (by simpa using hown) (World.grownBy.refl _ _) (hsl hown)
  · refine wpList_append_own_at w hgd s x 47 ho base 51 i0 _ 9 96 Try.underlying47 hi hz0 hz1 hz2 rfl (by decide) v n (rcells xs) hs hown ad m c (rcells ys) hx (by rw [rcells_len, hb.len]) hb.srcL (rcells_all _) (by unfold maxLen; omega) h63 hbase ?_
    intro v' w' h1 h2 _ h4
    exact h v' w' (by rw [rcells_app]; exact h1) h2 (hsl h1)
theorem stable_perm {l rs : List RowV} {n : Nat} (h : Stable ltR (atR l) (atR rs) n) (hl : l.length = n) (hr : rs.length = n) (hf : ∀ x ∈ rs, x.fits) : rs.Perm l ∧ rs.Pairwise (fun a b => a.rank ≤ b.rank) := by
  obtain ⟨t, h1, h2, h3⟩ := h
  have hT : ((List.range n).map t).map Prod.fst = rs := by
    rw [List.map_map]
    refine List.ext_getElem (by simp [hr]) fun i hi1 hi2 => ?_
    simp only [List.getElem_map, List.getElem_range, Function.comp]
    rw [h1 i (by omega)]
    unfold atR
    simp [hi2]
  have hU : ((List.range n).map fun i => (atR l i, i)).map Prod.fst = l := by
    rw [List.map_map]
    refine List.ext_getElem (by simp [hl]) fun i hi1 hi2 => ?_
    simp only [List.getElem_map, List.getElem_range, Function.comp]
    unfold atR
    simp [hi2]
  have hn1 : ((List.range n).map t).Nodup := by
    refine List.pairwise_iff_getElem.2 fun i j hi hj hij => ?_
    simp only [List.length_map, List.length_range] at hi hj
    simp only [List.getElem_map, List.getElem_range]
    intro e
    have := h2 i j (Nat.zero_le _) hij hj
    rw [e] at this
    exact weak_ltR.tag_irr _ this
  have hn2 : ((List.range n).map fun i => (atR l i, i)).Nodup := by
    refine List.pairwise_iff_getElem.2 fun i j hi hj hij => ?_
    simp only [List.getElem_map, List.getElem_range]
    intro e
    have := congrArg Prod.snd e
    simp only at this
    omega
  have hp : ((List.range n).map t).Perm ((List.range n).map fun i => (atR l i, i)) := by
    refine (List.perm_ext_iff_of_nodup hn1 hn2).2 fun x => ?_
    have := h3 x
    simp only [List.mem_map, List.mem_range]
    exact ⟨fun ⟨i, hi, e⟩ => by
      obtain ⟨k, hk, e2⟩ := this.1 ⟨i, Nat.zero_le _, hi, e⟩
      exact ⟨k, hk, e2.symm⟩, fun ⟨k, hk, e⟩ => by
      obtain ⟨i, _, hi, e2⟩ := this.2 ⟨k, hk, e.symm⟩
      exact ⟨i, hi, e2⟩⟩
  refine ⟨by have := hp.map Prod.fst; rwa [hT, hU] at this, ?_⟩
  refine List.pairwise_iff_getElem.2 fun i j hi hj hij => ?_
  have h4 := h2 i j (Nat.zero_le _) hij (by omega)
  have e1 : (t i).1 = rs[i] := by rw [h1 i (by omega)]; unfold atR; simp [hi]
  have e2 : (t j).1 = rs[j] := by rw [h1 j (by omega)]; unfold atR; simp [hj]
  unfold Tag at h4
  rw [e1, e2] at h4
  have f1 := hf _ (List.getElem_mem hi)
  have f2 := hf _ (List.getElem_mem hj)
  unfold ltR at h4
  rcases h4 with h4 | ⟨h4, _⟩
  · have := (rank_lt f1 f2).1 (by simpa using h4)
    omega
  · have h5 : ¬ cmpRow rs[j] rs[i] < 0 := by simpa using h4
    rw [rank_lt f2 f1] at h5
    omega

set_option maxRecDepth 100000 in
set_option maxHeartbeats 8000000 in
theorem rrows16_any {W : World} {a : Option Addr} {n c : Nat} {ls : List LsV} (h : ListsAt W a n c ls) (hN : (ls.flatMap LsV.rs).length ≤ 1000) (hn : n ≤ 1000) :
    Calls Try.prog 42 #[.slice a n c] W fun e w' => ∃ b N cc rs er, e = .returned (.tuple #[.slice b N cc, .int .i64 er]) ∧ RowsAt w' b N cc rs ∧ Below W.heap.size W w' ∧ MrOut ls N rs er := by
  have hown1 : (W.alloc (.cells #[] 51)).ownsRow W.heap.size 51 9 (.slice (some ⟨W.heap.size, 0, none⟩) 0 0) 0 (rcells []) := World.ownsRow_lit (base := W.heap.size) (e := 51) (size := 9) W #[] 0 (Nat.le_refl _) (by unfold maxLen; omega) rfl
  have HO1 := Lib.hid hown1
  have HB1 := Lib.hid ((Below.refl W.heap.size W).alloc (Nat.le_refl _) (.cells #[] 51))
  have HH := Lib.hid h
  have HL := Lib.hid h.len
  have HNN := Lib.hid hN
  have lcap := h.cap
  have lcm := h.capm
  clear h hN hown1
  go_enter Try.func42, Try.ntmps42
  go_wp2_with fail
  go_loopw [4, 6, 11] (fun s4 s6 s11 wr => ∃ (k M : Nat) (a4 : Option Addr) (c4 : Nat) (cur : List RowV), s11 = .int .i64 (k : Int) ∧ k ≤ n ∧ s4 = .slice a4 M c4 ∧ Hid (wr.ownsRow W.heap.size 51 9 (.slice a4 M c4) M (rcells cur)) ∧ Hid (cur = (ls.take k).flatMap LsV.rs) ∧ Hid (cur.length = M) ∧ Hid (∀ j, j < k → rises (ls.getD j ls0).rs = true) ∧ Hid (Below W.heap.size W wr)) (fun _ _ s11 _ => n - (intOf s11).toNat)
  case atStart => exact ⟨0, 0, _, 0, [], rfl, by omega, rfl, HO1, Lib.hid rfl, Lib.hid rfl, Lib.hid (fun j hj => by omega), HB1⟩
  case round =>
    clear HO1 HB1
    obtain ⟨k, M, a4, c4, cur, rfl, hk, rfl, HO, HC, HM, HK, HB⟩ := hrel
    rename World => wr
    have hM1000 : M ≤ 1000 := by
      have h1 := HM.out
      have h2 : cur.length ≤ (ls.flatMap LsV.rs).length := by
        rw [HC.out]
        conv => rhs; rw [← List.take_append_drop k ls, List.flatMap_append, List.length_append]
        omega
      have := HNN.out
      omega
    by_cases hkn : k < n
    case pos =>
      have hki : (k : Int) < (n : Int) := by omega
      have hk00 : (0 : Int) ≤ (k : Int) := by omega
      have wk : IntKind.i64.wrap ((k : Int) + 1) = (k : Int) + 1 := IntWalk.i64_in _ (by omega)
      have hxm : ls.getD k ls0 ∈ ls := ls_mem (by have := HL.out; omega)
      have hxr := (HH.out.kept HB.out).rows _ hxm
      have hlen1 : (ls.getD k ls0).n ≤ 1000 := by
        have h1 := hxr.len
        have h2 := len_flat hxm
        have := HNN.out
        omega
      obtain ⟨lb, loff, rfl, hlt, hcell⟩ := (HH.out.kept HB.out).cells (by omega)
      have hc := hcell k hkn
      have HRC := Lib.hid (rrising_any hxr (by omega))
      have HXR := Lib.hid hxr
      have HXM := Lib.hid hxm
      have HTK := Lib.hid (show (ls.take (k + 1)).flatMap LsV.rs = (ls.take k).flatMap LsV.rs ++ (ls.getD k ls0).rs from by
        have hkl : k < ls.length := by have := HL.out; omega
        rw [List.take_add_one, List.flatMap_append, show ls[k]?.toList = [ls.getD k ls0] from by rw [List.getElem?_eq_getElem hkl]; simp [hkl]]
        simp)
      obtain ⟨x, hx⟩ : ∃ x, x = ls.getD k ls0 := ⟨_, rfl⟩
      rw [← hx] at hc HRC HXM HXR HTK hlen1
      have HX := Lib.hid hx
      clear hcell hx hxr hxm
      go_wp2_with fail
      refine HRC.out.mono ?_
      rintro e w5 ⟨rfl, hb5⟩
      have HB5 := Lib.hid (HB.out.trans (hb5.mono HB.out.size))
      have HXR5 := Lib.hid (HXR.out.kept hb5)
      have HO5 := Lib.hid (own_below HO.out hb5)
      clear hb5 HRC
      cases hri : rises x.rs with
      | false =>
        have HE := Lib.hid (show ∃ x ∈ ls, rises x.rs = false from ⟨x, HXM.out, hri⟩)
        clear hri
        go_wp2_with fail
        first | go_ret2 | go_ret
        exact ⟨none, 0, 0, [], 4, rfl, RowsAt.empty _ _ _ (by omega) (fun _ => rfl), HB5.out, .inl ⟨rfl, rfl, HE.out⟩⟩
      | true =>
        have HK5 := Lib.hid (show ∀ j, j < k + 1 → rises (ls.getD j ls0).rs = true from fun j hj => by
          rcases Nat.lt_or_ge j k with g | g
          · exact HK.out j g
          · obtain rfl : j = k := by omega
            rw [← HX.out]; exact hri)
        clear hri
        have hBs := HB5.out.size
        go_wp2_with (at_builtin; refine wpList_append_rowsL rfl (.tmp 18) (.tmp 19) rfl W.heap.size _ M cur rfl HO5.out x.a x.n x.c x.rs rfl HXR5.out (by omega) hBs ?_)
        rintro v6 w6 ho6 hg6 a6 c6 rfl
        have HO6 := Lib.hid ho6
        have HB6 := Lib.hid (HB5.out.grown hg6 hBs (fun g hg => (HO5.out.lt g hg).1))
        have HC6 := Lib.hid (show cur ++ x.rs = (ls.take (k + 1)).flatMap LsV.rs by rw [HTK.out, HC.out])
        have HM6 := Lib.hid (show (cur ++ x.rs).length = M + x.n by rw [List.length_append, HM.out, HXR.out.len])
        clear ho6 hg6
        go_wp2_with fail
        go_roundw
        case rel => exact ⟨k + 1, M + x.n, a6, c6, cur ++ x.rs, by go_num, by omega, rfl, HO6, HC6, HM6, HK5, HB6⟩
        case measure => simp [intOf]; omega
    case neg =>
      have hki : ¬ (k : Int) < (n : Int) := by omega
      obtain rfl : k = n := by omega
      have hcur : cur = ls.flatMap LsV.rs := by
        have := HC.out
        rwa [List.take_of_length_le (by have := HL.out; omega)] at this
      have HALL := Lib.hid (show ∀ x ∈ ls, rises x.rs = true from fun x hx => by
        obtain ⟨j, hj, rfl⟩ := List.getElem_of_mem hx
        have := HK.out j (by have := HL.out; omega)
        rwa [show ls.getD j ls0 = ls[j] by simp [hj]] at this)
      have hff : ∀ x ∈ cur, x.fits ∧ LabsAt wr x.r.la x.r.ln x.r.lc x.r.labs := fun x hx => by
        rw [hcur] at hx
        obtain ⟨y, hy, hxy⟩ := List.mem_flatMap.1 hx
        exact ⟨(HH.out.rows y hy).fits x hxy, ((HH.out.rows y hy).labs x hxy).keep HB.out (Nat.le_refl _)⟩
      obtain ⟨a9, c9, he9, hat⟩ := RowsAt.ofOwnL HO.out HM.out (fun x hx => (hff x hx).1) (fun x hx => (hff x hx).2)
      simp only [Value.slice.injEq, true_and] at he9
      obtain ⟨rfl, rfl⟩ := he9
      have HAT := Lib.hid hat
      have HCUR := Lib.hid hcur
      clear hcur hff hat
      go_wp2_with fail
      refine (rsort_any HAT.out hM1000).mono ?_
      rintro e w5 ⟨b5, c5, rs5, rfl, hra5, hst5, hb5⟩
      obtain ⟨hp5, hs5⟩ := stable_perm hst5 HM.out hra5.len hra5.fits
      rw [HCUR.out] at hp5
      have HPS := Lib.hid (And.intro hp5 hs5)
      have HB5 := Lib.hid (HB.out.trans (hb5.mono HB.out.size))
      have HRA5 := Lib.hid hra5
      have HRC := Lib.hid (rrising_any hra5 (by omega))
      clear hra5 hst5 hb5 hp5 hs5
      go_wp2_with fail
      refine HRC.out.mono ?_
      rintro e w6 ⟨rfl, hb6⟩
      have HB6 := Lib.hid (HB5.out.trans (hb6.mono HB5.out.size))
      have HRA6 := Lib.hid (HRA5.out.kept hb6)
      clear hb6 HRC
      cases hri : rises rs5 with
      | false =>
        have HRI := Lib.hid hri
        clear hri
        go_wp2_with fail
        first | go_ret2 | go_ret
        exact ⟨none, 0, 0, [], 18, rfl, RowsAt.empty _ _ _ (by omega) (fun _ => rfl), HB6.out, .inr ⟨HALL.out, rs5, HPS.out.1, HPS.out.2, .inl ⟨rfl, rfl, HRI.out⟩⟩⟩
      | true =>
        have HRI := Lib.hid hri
        clear hri
        go_wp2_with fail
        first | go_ret2 | go_ret
        exact ⟨_, _, _, rs5, 0, rfl, HRA6.out, HB6.out, .inr ⟨HALL.out, rs5, HPS.out.1, HPS.out.2, .inr ⟨rfl, HRI.out, rfl⟩⟩⟩
end Go.Proofs.Ytpcgjladooijmaa
