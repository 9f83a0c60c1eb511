/- The law MergeRows, walked. Written by genmgrows.py. -/
import Derived.Test.YtpcgjladooijmaaLhRef
import Derived.Test.YtpcgjladooijmaaLhTw
import Derived.Test.YtpcgjladooijmaaLhOpen
import Derived.Test.YtpcgjladooijmaaFc
namespace Go.Proofs.Ytpcgjladooijmaa
open Go.ChangeShapes Go.WideShapes Go.Deep Go.RowKit LabPlain RecPlain
set_option linter.unusedVariables false

theorem lsv_get (l : List LsV) (i : Nat) (h : i < l.length) : (lsv l)[i]? = some (.slice (l.getD i ls0).a (l.getD i ls0).n (l.getD i ls0).c) := by simp [lsv, h]
theorem ListsAt.ofOwn {w : World} {base n : Nat} {v : Value} {ls : List LsV} (h : w.ownsRow base 47 1 v n (lsv ls)) (hl : ls.length = n) (hr : ∀ x ∈ ls, RowsAt w x.a x.n x.c x.rs) : ∃ a c, v = .slice a n c ∧ ListsAt w a n c ls := by
  rcases h.2 with ⟨h1, h0⟩ | ⟨g, cap, cur, rfl, hg, hh, hn, hcap, hsz, htake⟩
  · subst h1
    subst h0
    exact ⟨none, 0, rfl, hl, Nat.le_refl _, by omega, fun _ => rfl, fun h => absurd h (Nat.lt_irrefl 0), hr⟩
  · have hlt : g < w.heap.size := (Array.getElem?_eq_some_iff.1 hh).1
    refine ⟨some ⟨g, 0, none⟩, cap, rfl, hl, hn, (by unfold maxLen at hcap; exact hcap), (fun e => by cases e), fun hp => ⟨g, 0, rfl, hlt, fun i hi => ?_⟩, hr⟩
    have := h.cellAt i (by omega)
    rw [Nat.zero_add, this, lsv_get _ _ (by omega)]
theorem RowsOwn.beside {w w' : World} {base base' n n2 : Nat} {v v2 : Value} {l : List RowV} {xs2 : List Value} (h : RowsOwn w base v n l) (ho : w.ownsRow base' 47 1 v2 n2 xs2) (hg : w.grownBy w' v2.ownBlock) : RowsOwn w' base v n l :=
  ⟨h.len, h.own.kept hg (own_ne2 h.own ho (by decide)), h.fits, fun x hx => ⟨(h.labs x hx).1.kept hg (own_ne2 (h.labs x hx).1 ho (by decide)), (h.labs x hx).2⟩⟩
/-- what a list says -/
def tsay (x : LsV) : List Say := x.rs.map RowV.says
theorem flat_say (l : List LsV) : (l.flatMap LsV.rs).map RowV.says = (l.map tsay).flatten := by
  rw [List.map_flatMap, List.flatMap_def]
  rfl
def SmF (g go n c3 i lb lo c xn xc yn yc : Nat) (xa ya : Option Addr) : Nat → Value → Prop
  | 0, u => u = .slice (some ⟨g, go, none⟩) n c3
  | 1, u => u = .int .i64 (i : Int)
  | 2, u => u = .pointer (some ⟨g, go + i, none⟩)
  | 3, u => u = .slice xa xn xc
  | 4, u => u = .slice (some ⟨lb, lo, none⟩) n c
  | 5, u => u = .int .i64 (i : Int)
  | 6, u => u = .pointer (some ⟨lb, lo + i, none⟩)
  | 7, u => u = .slice ya yn yc
  | 8, u => u = .bool true
  | 9, u => u = .bool false
  | _ + 10, _ => True
set_option maxRecDepth 100000 in
set_option maxHeartbeats 8000000 in
theorem merge_rows (la : Option Addr) (n c : Nat) (ls : List LsV) (w : World) (h : ListsAt w la n c ls) :
    Calls Try.prog 9 #[.slice la n c] w fun e w' => e = .returned (.bool true) ∧ Below w.heap.size w w' := by
  obtain ⟨i0, hi, hz0, hz1, hz2⟩ := info_parts lst_info
  have HH := Lib.hid h
  have HL := Lib.hid h.len
  have lcap := h.cap
  have lcm := h.capm
  clear h
  go_enter Try.func9, Try.ntmps9
  go_wp2_with fail
  refine (E.lives16_any w).mono ?_
  rintro e w1 ⟨rfl, hb1⟩
  have HB1 := Lib.hid hb1
  clear hb1
  go_wp2_with fail
  refine (lrows_any (HH.out.kept HB1.out)).mono ?_
  rintro e w2 ⟨b, rfl, rfl, hfew⟩
  cases b with
  | false =>
    clear hfew
    go_wp2_with fail
    refine (E.lives16_any w2).mono ?_
    rintro e w3 ⟨rfl, hb3⟩
    have HB3 := Lib.hid (HB1.out.trans (hb3.mono HB1.out.size))
    clear hb3
    go_wp2_with fail
    go_ret
    exact ⟨rfl, HB3.out⟩
  | true =>
    obtain ⟨hn9, hN80⟩ := hfew rfl
    have HN := Lib.hid hN80
    clear hfew hN80
    have HA2 := Lib.hid (HH.out.kept HB1.out)
    go_wp2_with fail
    go_loopw [3, 5, 21] (fun s3 s5 s21 wr => ∃ (k : Nat) (a3 : Option Addr) (c3 : Nat) (own : List LsV), s21 = .int .i64 (k : Int) ∧ k ≤ n ∧ s3 = .slice a3 k c3 ∧ Hid (wr.ownsRow w2.heap.size 47 1 (.slice a3 k c3) k (lsv own)) ∧ Hid (own.length = k) ∧ Hid (∀ x ∈ own, RowsOwn wr w2.heap.size (.slice x.a x.n x.c) x.n x.rs) ∧ Hid (own.map tsay = (ls.take k).map tsay) ∧ Hid (Below w2.heap.size w2 wr)) (fun _ _ s21 _ => n - (intOf s21).toNat)
    case atStart => exact ⟨0, none, 0, [], rfl, by omega, rfl, Lib.hid (World.ownsRow_nil _ _ _ _), Lib.hid rfl, Lib.hid (fun x hx => by cases hx), Lib.hid rfl, Lib.hid (Below.refl _ _)⟩
    case round =>
      obtain ⟨k, a3, c3, own, rfl, hk, rfl, HO, HOL, HOR, HOS, HB⟩ := hrel
      rename World => wr
      by_cases hkn : k < n
      case pos =>
        have hki : (k : Int) < (n : Int) := by omega
        have hk00 : (0 : Int) ≤ (k : Int) := by omega
        have wk : IntKind.i64.wrap ((k : Int) + 1) = (k : Int) + 1 := IntWalk.i64_in _ (by omega)
        have hxm : ls.getD k ls0 ∈ ls := ls_mem (by have := HL.out; omega)
        have hLr := HA2.out.kept HB.out
        have hxr := hLr.rows _ hxm
        have hx80 : (ls.getD k ls0).n ≤ 1000 := by
          have h1 := hxr.len
          have h2 := len_flat hxm
          have := HN.out
          omega
        obtain ⟨lb, loff, rfl, hlt, hcell⟩ := hLr.cells (by omega)
        have hc := hcell k hkn
        have HTW := Lib.hid (twins_any hxr hx80)
        have HXL := Lib.hid hxr.len
        obtain ⟨x, hx⟩ : ∃ x, x = ls.getD k ls0 := ⟨_, rfl⟩
        rw [← hx] at hc HTW HXL
        have HX := Lib.hid hx
        clear hcell hx hxr hxm hLr hx80
        go_wp2_with fail
        refine HTW.out.mono ?_
        rintro e w5 ⟨v5, rs5, rfl, hro5, hsy5, hb5⟩
        obtain ⟨a5, c5, rfl, _⟩ := hro5.at
        have hs5 := HB.out.size
        have hal : Below w5.heap.size w5 (w5.alloc (.cells #[.slice a5 x.n c5] 47)) := (Below.refl _ _).alloc (Nat.le_refl _) _
        have HB5 := Lib.hid ((HB.out.trans (hb5.mono hs5)).trans (hal.mono (HB.out.trans (hb5.mono hs5)).size))
        have HO5 := Lib.hid (own_below (own_below HO.out hb5) hal)
        have HR5 := Lib.hid (show ∀ y ∈ own ++ [⟨a5, x.n, c5, rs5⟩], RowsOwn (w5.alloc (.cells #[.slice a5 x.n c5] 47)) w2.heap.size (.slice y.a y.n y.c) y.n y.rs from fun y hy => by
          rcases List.mem_append.1 hy with e | e
          · exact ((HOR.out y e).below hb5).below hal
          · rw [List.mem_singleton.1 e]; exact (hro5.mono hs5).below hal)
        have HS5 := Lib.hid (show (own ++ [(⟨a5, x.n, c5, rs5⟩ : LsV)]).map tsay = (ls.take (k + 1)).map tsay from by
          have hkl : k < ls.length := by have := HL.out; omega
          have e1 : rs5.map RowV.says = x.rs.map RowV.says := by
            refine List.ext_getElem (by rw [List.length_map, List.length_map, hro5.len, HXL.out]) fun i h1 h2 => ?_
            rw [List.length_map] at h1 h2
            have := hsy5 i (by rw [← HXL.out]; exact h2)
            unfold atR at this
            simpa [h1, h2] using this
          rw [List.map_append, HOS.out, List.take_add_one, List.map_append, show ls[k]?.toList = [x] from by rw [HX.out, List.getElem?_eq_getElem hkl]; simp [hkl]]
          show _ ++ [rs5.map RowV.says] = _ ++ [x.rs.map RowV.says]
          rw [e1])
        have HSZ5 := Lib.hid HB5.out.size
        clear hro5 hsy5 hb5 hal hs5 HTW
        go_wp2_with (at_builtin; refine wpList_append_own_at _ rfl (.tmp 25) (.tmp 28) 58 rfl w2.heap.size 47 i0 (.slice none 0 0) 1 24 Try.underlying58 hi hz0 hz1 hz2 rfl (by decide) _ k (lsv own) rfl HO5.out ⟨w5.heap.size, 0, none⟩ 1 1 (lsv [⟨a5, x.n, c5, rs5⟩]) rfl rfl (one_src _ _ _) (lsv_one _) (by unfold maxLen; omega) (by omega) HSZ5.out ?_)
        intro v6 w6 ho6 hg6 _ _
        obtain ⟨g6, c6, rfl⟩ := own_some2 ho6 (by omega)
        have HO6 := Lib.hid (show w6.ownsRow w2.heap.size 47 1 (.slice (some ⟨g6, 0, none⟩) (k + 1) c6) (k + 1) (lsv (own ++ [⟨a5, x.n, c5, rs5⟩])) by rw [lsv_append]; exact ho6)
        have HR6 := Lib.hid (show ∀ y ∈ own ++ [(⟨a5, x.n, c5, rs5⟩ : LsV)], RowsOwn w6 w2.heap.size (.slice y.a y.n y.c) y.n y.rs from fun y hy => (HR5.out y hy).beside HO5.out hg6)
        have HB6 := Lib.hid (HB5.out.grown hg6 HB5.out.size (fun g hg => (HO5.out.lt g hg).1))
        have HL6 := Lib.hid (show (own ++ [(⟨a5, x.n, c5, rs5⟩ : LsV)]).length = k + 1 by rw [List.length_append, HOL.out]; rfl)
        clear ho6 hg6
        go_wp2_with fail
        go_roundw
        case rel => exact ⟨k + 1, some ⟨g6, 0, none⟩, c6, _, by go_num, by omega, rfl, HO6, HL6, HR6, HS5, HB6⟩
        case measure => simp [intOf]; omega
      case neg =>
        have hki : ¬ (k : Int) < (n : Int) := by omega
        obtain rfl : k = n := by omega
        obtain ⟨a9, c9, he9, hat⟩ := ListsAt.ofOwn HO.out HOL.out (fun x hx => by
          obtain ⟨a, c, e, hr⟩ := (HOR.out x hx).at
          simp only [Value.slice.injEq, true_and] at e
          obtain ⟨rfl, rfl⟩ := e
          exact hr)
        simp only [Value.slice.injEq, true_and] at he9
        obtain ⟨rfl, rfl⟩ := he9
        have HTS := Lib.hid (show own.map tsay = ls.map tsay from by
          have := HOS.out
          rwa [List.take_of_length_le (by have := HL.out; omega)] at this)
        have HFS := Lib.hid (show (own.flatMap LsV.rs).map RowV.says = (ls.flatMap LsV.rs).map RowV.says by rw [flat_say, flat_say, HTS.out])
        have HN2 := Lib.hid (show (own.flatMap LsV.rs).length ≤ 80 from by
          have h1 := congrArg List.length HFS.out
          rw [List.length_map, List.length_map] at h1
          rw [h1]; exact HN.out)
        have HAT := Lib.hid hat
        have HAR := Lib.hid (HA2.out.kept HB.out)
        have HBW := Lib.hid (HB1.out.trans (HB.out.mono HB1.out.size))
        clear hat HO HOR HOS
        go_wp2_with fail
        refine (mrows_any HAT.out (by have := HN2.out; omega) (by omega)).mono ?_
        rintro e w5 ⟨b5, N5, cc5, rs5, er5, rfl, hra5, hbb5, hout5⟩
        have HAT5 := Lib.hid (HAT.out.kept hbb5)
        have HAR5 := Lib.hid (HAR.out.kept hbb5)
        have HB5 := Lib.hid (HBW.out.trans (hbb5.mono HBW.out.size))
        have HRA5 := Lib.hid hra5
        have HOUT5 := Lib.hid (show MrOut own N5 rs5 er5 from hout5)
        clear hra5 hbb5 hout5
        go_wp2_with fail
        refine (rrows16_any HAR5.out (by have := HN.out; omega) (by omega)).mono ?_
        rintro e w6 ⟨b6, N6, cc6, rs6, er6, rfl, hra6, hbb6, hout6⟩
        have HAT6 := Lib.hid (HAT5.out.kept hbb6)
        have HAR6 := Lib.hid (HAR5.out.kept hbb6)
        have HB6 := Lib.hid (HB5.out.trans (hbb6.mono HB5.out.size))
        have HRA56 := Lib.hid (HRA5.out.kept hbb6)
        have HRA6 := Lib.hid hra6
        have hri : ∀ i, i < k → rises (own.getD i ls0).rs = rises (ls.getD i ls0).rs ∧ (own.getD i ls0).rs.map RowV.says = (ls.getD i ls0).rs.map RowV.says := fun i hi => by
          have h1 := congrArg (fun t => t[i]?) HTS.out
          have ho : i < own.length := by have := HOL.out; omega
          have hl : i < ls.length := by have := HL.out; omega
          simp only [List.getElem?_map, List.getElem?_eq_getElem ho, List.getElem?_eq_getElem hl, Option.map_some, Option.some.injEq] at h1
          have e1 : own.getD i ls0 = own[i] := by simp [ho]
          have e2 : ls.getD i ls0 = ls[i] := by simp [hl]
          rw [e1, e2]
          have h2 : own[i].rs.map RowV.says = ls[i].rs.map RowV.says := h1
          refine ⟨?_, h2⟩
          have f1 := (HAT.out.rows _ (List.getElem_mem ho)).fits
          have f2 := (HAR.out.rows _ (List.getElem_mem hl)).fits
          have h3 := rises_iff f1
          rw [h2] at h3
          have := h3.trans (rises_iff f2).symm
          exact Bool.eq_iff_iff.2 this
        obtain ⟨hee, hss⟩ := mr_agree HRA5.out.len hra6.len ⟨fun ⟨x, hx, e⟩ => by
          obtain ⟨i, hi, rfl⟩ := List.getElem_of_mem hx
          have hl : i < ls.length := by have := HL.out; have := HOL.out; omega
          refine ⟨ls.getD i ls0, ls_mem hl, ?_⟩
          rw [← (hri i (by have := HOL.out; omega)).1, show own.getD i ls0 = own[i] by simp [hi]]
          exact e, fun ⟨x, hx, e⟩ => by
          obtain ⟨i, hi, rfl⟩ := List.getElem_of_mem hx
          have hl : i < own.length := by have := HL.out; have := HOL.out; omega
          refine ⟨own.getD i ls0, ls_mem hl, ?_⟩
          rw [(hri i (by have := HOL.out; omega)).1, show ls.getD i ls0 = ls[i] by simp [hi]]
          exact e⟩ (by rw [HFS.out]) (flat_fits HAT.out) (flat_fits HAR.out) HOUT5.out hout6
        have HRI := Lib.hid hri
        have HSS := Lib.hid (sameRs_of hss)
        subst hee
        clear hra6 hbb6 hout6 hss hri
        go_wp2_with fail
        go_loopw [10, 43] (fun s10 s43 wq => ∃ i : Nat, s43 = .int .i64 (i : Int) ∧ i ≤ k ∧ Hid (Below w6.heap.size w6 wq)) (fun _ s43 _ => k - (intOf s43).toNat)
        case atStart => exact ⟨0, rfl, by omega, Lib.hid (Below.refl _ _)⟩
        case round =>
          obtain ⟨i, rfl, hik, HBQ⟩ := hrel
          rename World => wq
          by_cases hin : i < k
          case pos =>
            have zi : (i : Int) < (k : Int) := by omega
            have zi0 : (0 : Int) ≤ (i : Int) := by omega
            have wi : IntKind.i64.wrap ((i : Int) + 1) = (i : Int) + 1 := IntWalk.i64_in _ (by omega)
            have hX := HAT6.out.kept HBQ.out
            have hY := HAR6.out.kept HBQ.out
            obtain ⟨ob, oo, rfl, hob, hoc⟩ := hX.cells (by omega)
            obtain ⟨lb, lo, rfl, hlb, hlc⟩ := hY.cells (by omega)
            have hxr := hX.rows _ (ls_mem (l := own) (i := i) (by have := HOL.out; omega))
            have hyr := hY.rows _ (ls_mem (l := ls) (i := i) (by have := HL.out; omega))
            have HCX := Lib.hid (And.intro hob (hoc i hin))
            have HCY := Lib.hid (And.intro hlb (hlc i hin))
            have HSM := Lib.hid (show ∀ w7, Below wq.heap.size wq w7 → Calls Try.prog 31 #[.slice (own.getD i ls0).a (own.getD i ls0).n (own.getD i ls0).c, .slice (ls.getD i ls0).a (ls.getD i ls0).n (ls.getD i ls0).c] w7 fun e w' => e = .returned (.bool true) ∧ Below w7.heap.size w7 w' from fun w7 h7 => by
              have := samerows_any (hxr.kept h7) (hyr.kept h7)
              rwa [sameRs_of (HRI.out i hin).2] at this)
            obtain ⟨xa, hxa⟩ : ∃ x, x = (own.getD i ls0).a := ⟨_, rfl⟩
            obtain ⟨xn, hxn⟩ : ∃ x, x = (own.getD i ls0).n := ⟨_, rfl⟩
            obtain ⟨xc, hxc⟩ : ∃ x, x = (own.getD i ls0).c := ⟨_, rfl⟩
            obtain ⟨ya, hya⟩ : ∃ x, x = (ls.getD i ls0).a := ⟨_, rfl⟩
            obtain ⟨yn, hyn⟩ : ∃ x, x = (ls.getD i ls0).n := ⟨_, rfl⟩
            obtain ⟨yc, hyc⟩ : ∃ x, x = (ls.getD i ls0).c := ⟨_, rfl⟩
            rw [← hxa, ← hxn, ← hxc] at HCX
            rw [← hya, ← hyn, ← hyc] at HCY
            rw [← hxa, ← hxn, ← hxc, ← hya, ← hyn, ← hyc] at HSM
            clear hX hY hoc hlc hxr hyr hob hlb hxa hxn hxc hya hyn hyc
            go_wp2_with fail
            refine wp_region_fill (by kernel_rfl) (by kernel_rfl) (by kernel_rfl) (fun w' => Below wq.heap.size wq w') (fun j u _ => SmF ob oo k c3 i lb lo c xn xc yn yc xa ya j u) (Below.drew (Below.refl _ _)) ?_ ?_
            · intro j o ho V w7 K hJ hdep hK
              have HJ := Lib.hid hJ
              have hin : j < 10 := (Array.getElem?_eq_some_iff.1 ho).1
              have hcs : j = 0 ∨ j = 1 ∨ j = 2 ∨ j = 3 ∨ j = 4 ∨ j = 5 ∨ j = 6 ∨ j = 7 ∨ j = 8 ∨ j = 9 := by omega
              clear hin
              rcases hcs with rfl | rfl | rfl | rfl | rfl | rfl | rfl | rfl | rfl | rfl
              · obtain rfl := Option.some.inj ho.symm
                clear hdep ho hJ
                simp only [fill, slotOf, List.size_toArray, List.length_cons, List.length_nil, Nat.reduceAdd, List.getElem?_toArray, List.getElem?_cons_zero, List.getElem?_cons_succ, Option.bind_some, Act.put, List.setIfInBounds_toArray, List.set_cons_zero, List.set_cons_succ] at hK ⊢
                go_simp
                exact hK (.slice (some ⟨ob, oo, none⟩) k c3) _ HJ.out rfl (fun j y h => h) _ rfl
              · obtain rfl := Option.some.inj ho.symm
                clear hdep ho hJ
                simp only [fill, slotOf, List.size_toArray, List.length_cons, List.length_nil, Nat.reduceAdd, List.getElem?_toArray, List.getElem?_cons_zero, List.getElem?_cons_succ, Option.bind_some, Act.put, List.setIfInBounds_toArray, List.set_cons_zero, List.set_cons_succ] at hK ⊢
                go_simp
                exact hK (.int .i64 (i : Int)) _ HJ.out rfl (fun j y h => h) _ rfl
              · obtain rfl := Option.some.inj ho.symm
                have d0 : V 0 = .slice (some ⟨ob, oo, none⟩) k c3 := hdep ⟨0, .data⟩ (by simp) rfl
                have d1 : V 1 = .int .i64 (i : Int) := hdep ⟨1, .data⟩ (by simp) rfl
                clear hdep ho hJ
                simp only [fill, slotOf, List.size_toArray, List.length_cons, List.length_nil, Nat.reduceAdd, List.getElem?_toArray, List.getElem?_cons_zero, List.getElem?_cons_succ, Option.bind_some, Act.put, List.setIfInBounds_toArray, List.set_cons_zero, List.set_cons_succ] at hK ⊢
                rw [d0, d1] at hK ⊢
                go_simp
                exact hK (.pointer (some ⟨ob, oo + i, none⟩)) _ HJ.out rfl (fun j y h => h) _ rfl
              · obtain rfl := Option.some.inj ho.symm
                have d2 : V 2 = .pointer (some ⟨ob, oo + i, none⟩) := hdep ⟨2, .data⟩ (by simp) rfl
                have cc := (HJ.out.cell (p := ⟨ob, oo + i, none⟩) HCX.out.1).trans HCX.out.2
                clear hdep ho hJ
                simp only [fill, slotOf, List.size_toArray, List.length_cons, List.length_nil, Nat.reduceAdd, List.getElem?_toArray, List.getElem?_cons_zero, List.getElem?_cons_succ, Option.bind_some, Act.put, List.setIfInBounds_toArray, List.set_cons_zero, List.set_cons_succ] at hK ⊢
                rw [d2] at hK ⊢
                go_simp
                exact hK (.slice xa xn xc) _ HJ.out rfl (fun j y h => h) _ rfl
              · obtain rfl := Option.some.inj ho.symm
                clear hdep ho hJ
                simp only [fill, slotOf, List.size_toArray, List.length_cons, List.length_nil, Nat.reduceAdd, List.getElem?_toArray, List.getElem?_cons_zero, List.getElem?_cons_succ, Option.bind_some, Act.put, List.setIfInBounds_toArray, List.set_cons_zero, List.set_cons_succ] at hK ⊢
                go_simp
                exact hK (.slice (some ⟨lb, lo, none⟩) k c) _ HJ.out rfl (fun j y h => h) _ rfl
              · obtain rfl := Option.some.inj ho.symm
                clear hdep ho hJ
                simp only [fill, slotOf, List.size_toArray, List.length_cons, List.length_nil, Nat.reduceAdd, List.getElem?_toArray, List.getElem?_cons_zero, List.getElem?_cons_succ, Option.bind_some, Act.put, List.setIfInBounds_toArray, List.set_cons_zero, List.set_cons_succ] at hK ⊢
                go_simp
                exact hK (.int .i64 (i : Int)) _ HJ.out rfl (fun j y h => h) _ rfl
              · obtain rfl := Option.some.inj ho.symm
                have d4 : V 4 = .slice (some ⟨lb, lo, none⟩) k c := hdep ⟨4, .data⟩ (by simp) rfl
                have d5 : V 5 = .int .i64 (i : Int) := hdep ⟨5, .data⟩ (by simp) rfl
                clear hdep ho hJ
                simp only [fill, slotOf, List.size_toArray, List.length_cons, List.length_nil, Nat.reduceAdd, List.getElem?_toArray, List.getElem?_cons_zero, List.getElem?_cons_succ, Option.bind_some, Act.put, List.setIfInBounds_toArray, List.set_cons_zero, List.set_cons_succ] at hK ⊢
                rw [d4, d5] at hK ⊢
                go_simp
                exact hK (.pointer (some ⟨lb, lo + i, none⟩)) _ HJ.out rfl (fun j y h => h) _ rfl
              · obtain rfl := Option.some.inj ho.symm
                have d6 : V 6 = .pointer (some ⟨lb, lo + i, none⟩) := hdep ⟨6, .data⟩ (by simp) rfl
                have cc := (HJ.out.cell (p := ⟨lb, lo + i, none⟩) HCY.out.1).trans HCY.out.2
                clear hdep ho hJ
                simp only [fill, slotOf, List.size_toArray, List.length_cons, List.length_nil, Nat.reduceAdd, List.getElem?_toArray, List.getElem?_cons_zero, List.getElem?_cons_succ, Option.bind_some, Act.put, List.setIfInBounds_toArray, List.set_cons_zero, List.set_cons_succ] at hK ⊢
                rw [d6] at hK ⊢
                go_simp
                exact hK (.slice ya yn yc) _ HJ.out rfl (fun j y h => h) _ rfl
              · obtain rfl := Option.some.inj ho.symm
                have d3 : V 3 = .slice xa xn xc := hdep ⟨3, .data⟩ (by simp) rfl
                have d7 : V 7 = .slice ya yn yc := hdep ⟨7, .data⟩ (by simp) rfl
                clear hdep ho hJ
                simp only [fill, slotOf, List.size_toArray, List.length_cons, List.length_nil, Nat.reduceAdd, List.getElem?_toArray, List.getElem?_cons_zero, List.getElem?_cons_succ, Option.bind_some, Act.put, List.setIfInBounds_toArray, List.set_cons_zero, List.set_cons_succ] at hK ⊢
                rw [d3, d7] at hK ⊢
                go_simp
                refine (HSM.out w7 HJ.out).mono ?_
                rintro e w8 ⟨rfl, hb8⟩
                exact hK (.bool true) _ (HJ.out.trans (hb8.mono HJ.out.size)) rfl (fun j y h => h) _ rfl
              · obtain rfl := Option.some.inj ho.symm
                have d8 : V 8 = .bool true := hdep ⟨8, .data⟩ (by simp) rfl
                clear hdep ho hJ
                simp only [fill, slotOf, List.size_toArray, List.length_cons, List.length_nil, Nat.reduceAdd, List.getElem?_toArray, List.getElem?_cons_zero, List.getElem?_cons_succ, Option.bind_some, Act.put, List.setIfInBounds_toArray, List.set_cons_zero, List.set_cons_succ] at hK ⊢
                rw [d8] at hK ⊢
                go_simp
                exact hK (.bool false) _ HJ.out rfl (fun j y h => h) _ rfl
            · intro V w7 hJ hall
              have d9 : V 9 = .bool false := hall 9 (by decide)
              have HB7 := Lib.hid (HBQ.out.trans (hJ.mono HBQ.out.size))
              clear hall hJ
              simp only [fill, slotOf, List.size_toArray, List.length_cons, List.length_nil, Nat.reduceAdd, List.getElem?_toArray, List.getElem?_cons_zero, List.getElem?_cons_succ, Option.bind_some, Act.put, List.setIfInBounds_toArray, List.set_cons_zero, List.set_cons_succ]
              rw [d9]
              clear d9
              go_wp2_with fail
              go_roundw
              case rel => exact ⟨i + 1, by go_num, by omega, HB7⟩
              case measure => simp [intOf]; omega
          case neg =>
            have zi : ¬ (i : Int) < (k : Int) := by omega
            have HRAQ5 := Lib.hid (HRA56.out.kept HBQ.out)
            have HRAQ6 := Lib.hid (HRA6.out.kept HBQ.out)
            have HBQ2 := Lib.hid (HB6.out.trans (HBQ.out.mono HB6.out.size))
            go_wp2_with fail
            refine (samerows_any HRAQ5.out HRAQ6.out).mono ?_
            rintro e w9 ⟨he, hb9⟩
            rw [HSS.out] at he
            subst he
            have HB9 := Lib.hid (HBQ2.out.trans (hb9.mono HBQ2.out.size))
            clear hb9
            go_wp2_with fail
            go_ret
            exact ⟨rfl, HB9.out⟩
end Go.Proofs.Ytpcgjladooijmaa
