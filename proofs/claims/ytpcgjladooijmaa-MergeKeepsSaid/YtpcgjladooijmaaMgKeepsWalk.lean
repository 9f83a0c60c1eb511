/- The law MergeKeeps, walked. Written by genmgkeeps.py. -/
import Derived.Test.YtpcgjladooijmaaLhKeepsPlain
import Derived.Test.YtpcgjladooijmaaLhRRise
import Derived.Test.YtpcgjladooijmaaLhOpen
import Derived.Test.YtpcgjladooijmaaFc
import Derived.Deep.OwnRows
import Derived.Laws.OwnMore
namespace Go.Proofs.Ytpcgjladooijmaa
open Go.ChangeShapes Go.WideShapes Go.Deep Go.RowKit LabPlain RecPlain
set_option linter.unusedVariables false

/-- numbers as cells -/
def ia (l : List Nat) : Array Value := (l.map fun k : Nat => Value.int .i64 (k : Int)).toArray
theorem ia_get (l : List Nat) (i : Nat) (h : i < l.length) : (ia l)[i]? = some (.int .i64 (l.getD i 0 : Nat)) := by simp [ia, h]
theorem ia_set (l : List Nat) (i v : Nat) : (ia l).setIfInBounds i (.int .i64 (v : Int)) = ia (l.set i v) := by simp [ia, List.map_set]
theorem ia_zero (n : Nat) : madeCells #[.int .i64 0] n = ia (List.replicate n 0) := by
  apply Array.toList_inj.1
  rw [toList_madeCells_one]
  simp [ia]
/-- within one row's round: found, or not yet -/
def St (ls : List LsV) (at' : List Nat) (s : Say) (i : Nat) (fd : Bool) (now : List Nat) : Prop :=
  if fd = true then ∃ k, k < ls.length ∧ at'.getD k 0 < ln2 ls k ∧ (rw2 ls k (at'.getD k 0)).says = s ∧ now = at'.set k (at'.getD k 0 + 1)
  else now = at' ∧ ∀ k, k < i → ¬ (at'.getD k 0 < ln2 ls k ∧ (rw2 ls k (at'.getD k 0)).says = s)
def KfF : Nat → Value → Prop
  | 0, u => u = .bool true
  | 1, u => u = .bool false
  | 2, u => u = .bool false
  | 3, u => u = undef
  | 4, u => u = undef
  | 5, u => u = undef
  | 6, u => u = undef
  | 7, u => u = undef
  | 8, u => u = undef
  | 9, u => u = undef
  | 10, u => u = .bool false
  | 11, u => u = .bool false
  | 12, u => u = undef
  | 13, u => u = undef
  | 14, u => u = undef
  | 15, u => u = undef
  | 16, u => u = undef
  | 17, u => u = undef
  | 18, u => u = undef
  | 19, u => u = undef
  | 20, u => u = undef
  | 21, u => u = .bool false
  | _ + 22, _ => True
def KlF (G n i v : Nat) (ya : Option Addr) (yn yc : Nat) : Nat → Value → Prop
  | 0, u => u = .bool false
  | 1, u => u = .bool true
  | 2, u => u = .bool true
  | 3, u => u = .slice (some ⟨G, 0, none⟩) n n
  | 4, u => u = .int .i64 (i : Int)
  | 5, u => u = .pointer (some ⟨G, i, none⟩)
  | 6, u => u = .int .i64 (v : Int)
  | 7, u => u = .slice ya yn yc
  | 8, u => u = .int .i64 (yn : Int)
  | 9, u => u = .bool false
  | 10, u => u = .bool false
  | 11, u => u = .bool false
  | 12, u => u = undef
  | 13, u => u = undef
  | 14, u => u = undef
  | 15, u => u = undef
  | 16, u => u = undef
  | 17, u => u = undef
  | 18, u => u = undef
  | 19, u => u = undef
  | 20, u => u = undef
  | 21, u => u = .bool false
  | _ + 22, _ => True
def KyF (G n i v yb yo yn yc : Nat) (q r : RowV) (sm : Bool) : Nat → Value → Prop
  | 0, u => u = .bool false
  | 1, u => u = .bool true
  | 2, u => u = .bool true
  | 3, u => u = .slice (some ⟨G, 0, none⟩) n n
  | 4, u => u = .int .i64 (i : Int)
  | 5, u => u = .pointer (some ⟨G, i, none⟩)
  | 6, u => u = .int .i64 (v : Int)
  | 7, u => u = .slice (some ⟨yb, yo, none⟩) yn yc
  | 8, u => u = .int .i64 (yn : Int)
  | 9, u => u = .bool true
  | 10, u => u = .bool true
  | 11, u => u = .bool true
  | 12, u => u = .slice (some ⟨yb, yo, none⟩) yn yc
  | 13, u => u = .slice (some ⟨G, 0, none⟩) n n
  | 14, u => u = .int .i64 (i : Int)
  | 15, u => u = .pointer (some ⟨G, i, none⟩)
  | 16, u => u = .int .i64 (v : Int)
  | 17, u => u = .pointer (some ⟨yb, yo + v * 9, none⟩)
  | 18, u => u = .agg #[.int .i64 q.r.kind, .int .i64 q.r.time, .slice q.r.la q.r.ln q.r.lc, .string q.r.text, .int .i64 q.r.value, .bool q.r.null, .int .i64 q.who, .int .i64 q.sq, .int .i64 q.pl]
  | 19, u => u = .agg #[.int .i64 r.r.kind, .int .i64 r.r.time, .slice r.r.la r.r.ln r.r.lc, .string r.r.text, .int .i64 r.r.value, .bool r.r.null, .int .i64 r.who, .int .i64 r.sq, .int .i64 r.pl]
  | 20, u => u = .bool sm
  | 21, u => u = .bool sm
  | _ + 22, _ => True
theorem ListsAt.keep' {w w' : World} {a : Option Addr} {n c : Nat} {ls : List LsV} (h : ListsAt w a n c ls) (hb : Below w.heap.size w w') : ListsAt w' a n c ls := h.kept hb
theorem box_row {w : World} (r : RowV) (t : TypeId) : ∀ j u, r.cells[j]? = some u → (w.alloc (.cells #[.int .i64 r.r.kind, .int .i64 r.r.time, .slice r.r.la r.r.ln r.r.lc, .string r.r.text, .int .i64 r.r.value, .bool r.r.null, .int .i64 r.who, .int .i64 r.sq, .int .i64 r.pl] t)).cell? ⟨w.heap.size, j, none⟩ = some u := by
  intro j u hu
  rw [cell_of_row _ _ _ _ _ (0, 0) (heap_alloc_new w _), ← hu, RowV.cells, List.getElem?_toArray]
set_option maxRecDepth 100000 in
set_option maxHeartbeats 16000000 in
theorem merge_keeps (la : Option Addr) (n c : Nat) (ls : List LsV) (w : World) (h : ListsAt w la n c ls) :
    Calls Try.prog 10 #[.slice la n c] w fun e w' => e = .returned (.bool true) ∧ Below w.heap.size w w' := by
  have HH := Lib.hid h
  have HL := Lib.hid h.len
  have lcap := h.cap
  have lcm := h.capm
  clear h
  go_enter Try.func10, Try.ntmps10
  go_wp2_with fail
  refine (E.lives16_any w).mono ?_
  rintro e w1 ⟨rfl, hb1⟩
  have HB1 := Lib.hid hb1
  clear hb1
  go_wp2_with fail
  refine (lrows_any (HH.out.kept HB1.out)).mono ?_
  rintro e w2 ⟨b, rfl, rfl, hfew⟩
  cases b with
  | false =>
    clear hfew
    go_wp2_with fail
    refine (E.lives16_any w2).mono ?_
    rintro e w3 ⟨rfl, hb3⟩
    have HB3 := Lib.hid (HB1.out.trans (hb3.mono HB1.out.size))
    clear hb3
    go_wp2_with fail
    go_ret
    exact ⟨rfl, HB3.out⟩
  | true =>
    obtain ⟨hn9, hN80⟩ := hfew rfl
    have HN := Lib.hid hN80
    clear hfew hN80
    have HA2 := Lib.hid (HH.out.kept HB1.out)
    go_wp2_with fail
    refine (mrows_any HA2.out (by have := HN.out; omega) (by omega)).mono ?_
    rintro e w5 ⟨b5, N, cc5, rs, er, rfl, hra, hbb5, hout⟩
    have HB5 := Lib.hid (HB1.out.trans (hbb5.mono HB1.out.size))
    have HA5 := Lib.hid (HA2.out.kept hbb5)
    have HR5 := Lib.hid hra
    rcases hout with ⟨rfl, rfl, _⟩ | ⟨hall, out, hperm, hsrt, hcase⟩
    · clear hra hbb5
      go_wp2_with fail
      go_ret
      exact ⟨rfl, HB5.out⟩
    rcases hcase with ⟨rfl, rfl, _⟩ | ⟨rfl, hri, hsay⟩
    · clear hra hbb5
      go_wp2_with fail
      go_ret
      exact ⟨rfl, HB5.out⟩
    have hfo : ∀ x ∈ out, x.fits := fun x hx => flat_fits HA2.out x (hperm.mem_iff.1 hx)
    have HAL0 := Lib.hid (show Al ls out from ⟨hperm, rises_pw hfo hri, fun x hx => rises_pw (HA2.out.rows x hx).fits (hall x hx)⟩)
    have HON := Lib.hid (show out.length = N from by have h1 := congrArg List.length hsay; simp only [List.length_map] at h1; rw [← h1]; exact hra.len)
    have HNM := Lib.hid (show N ≤ 80 from by have := HON.out; have := HAL0.out.perm.length_eq; have := HN.out; omega)
    have HSAY := Lib.hid hsay
    have HRIS := Lib.hid (show rises rs = true from (rises_iff hra.fits).2 (by rw [hsay]; exact (rises_iff hfo).1 hri))
    have hmk := run_make_row' (P := Try.prog) 63 3 (.int .i64 0) 8 Try.underlying63 (by kernel_rfl) rfl .i64 .i64 n (by omega) (by omega) w5
    obtain ⟨G, hG⟩ : ∃ G, G = w5.heap.size := ⟨_, rfl⟩
    rw [← hG] at hmk
    obtain ⟨w6, hw6⟩ : ∃ w6, w6 = w5.alloc (.cells (madeCells #[.int .i64 0] n) 3) := ⟨_, rfl⟩
    rw [← hw6] at hmk
    have HG6 := Lib.hid (show w6.heap[G]? = some (.cells (ia (List.replicate ls.length 0)) 3 (0, 0)) from by rw [hw6, hG, ia_zero, HL.out]; exact heap_alloc_new w5 _)
    have HB6 := Lib.hid (show Below w5.heap.size w5 w6 from by rw [hw6]; exact (Below.refl _ _).alloc (Nat.le_refl _) _)
    have HG5 := Lib.hid (show w5.heap.size ≤ G from by omega)
    have HRL5 := Lib.hid (show ∀ r ∈ rs, ∀ w', Below w5.heap.size w5 w' → LabsAt w' r.r.la r.r.ln r.r.lc r.r.labs from fun r hr w' h' => (HR5.out.kept h').labs r hr)
    have hcapm := HR5.out.cap
    clear hra hbb5 hall hperm hsrt hri hsay hfo hG hw6
    go_wp2_with fail
    go_loopw [36] (fun s36 wr => ∃ (t : Nat) (at' : List Nat), s36 = .int .i64 (t : Int) ∧ t ≤ N ∧ Hid (wr.heap[G]? = some (.cells (ia at') 3 (0, 0))) ∧ Hid (Kp ls out t at') ∧ Hid (Below w5.heap.size w5 wr)) (fun s36 _ => N - (intOf s36).toNat)
    case atStart => exact ⟨0, _, rfl, by omega, HG6, Lib.hid (Kp.start ls out), HB6⟩
    case round =>
      clear HG6 HB6 hmk
      obtain ⟨t, at', rfl, htN, HGR, HKP, HBR⟩ := hrel
      rename World => wr
      by_cases ht : t < N
      case pos =>
        have zt : (t : Int) < (N : Int) := by omega
        have zt0 : (0 : Int) ≤ (t : Int) := by omega
        have wt : IntKind.i64.wrap ((t : Int) + 1) = (t : Int) + 1 := IntWalk.i64_in _ (by have := HNM.out; omega)
        have hRr := HR5.out.kept HBR.out
        obtain ⟨mb, mo, rfl, hmlt, hmc⟩ := hRr.cells (by omega)
        obtain ⟨r, hr⟩ : ∃ r, r = rs.getD t row0 := ⟨_, rfl⟩
        obtain ⟨d0, d1, d2, d3, d4, d5, d6, d7, d8⟩ := RowsAt.nine hmc ht hr
        have hrm : r ∈ rs := by rw [hr]; exact row_mem (by have := HR5.out.len; omega)
        have HRL := Lib.hid (HRL5.out r hrm)
        have HRO := Lib.hid (show r.says = (out.getD t row0).says from by
          have h1 := congrArg (fun l => l[t]?) HSAY.out
          have h2 : t < rs.length := by have := HR5.out.len; omega
          have h3 : t < out.length := by have := HON.out; omega
          simp only [List.getElem?_map, List.getElem?_eq_getElem h2, List.getElem?_eq_getElem h3, Option.map_some, Option.some.injEq] at h1
          rw [hr, getD_lt h2, getD_lt h3]; exact h1)
        obtain ⟨A, hA⟩ : ∃ A, A = wr.heap.size := ⟨_, rfl⟩
        obtain ⟨wA, hwA⟩ : ∃ wA, wA = wr.alloc (.cells #[.int .i64 r.r.kind, .int .i64 r.r.time, .slice r.r.la r.r.ln r.r.lc, .string r.r.text, .int .i64 r.r.value, .bool r.r.null, .int .i64 r.who, .int .i64 r.sq, .int .i64 r.pl] 51) := ⟨_, rfl⟩
        have hbl : Below wr.heap.size wr wA := by rw [hwA]; exact (Below.refl _ _).alloc (Nat.le_refl _) _
        have HGA := Lib.hid ((hbl.block G (Array.getElem?_eq_some_iff.1 HGR.out).1).trans HGR.out)
        have HXA := Lib.hid (show ∀ j u, r.cells[j]? = some u → wA.cell? ⟨A, j, none⟩ = some u from by rw [hwA, hA]; exact box_row r 51)
        have HBA := Lib.hid (HBR.out.trans (hbl.mono HBR.out.size))
        have HALA := Lib.hid (show A < wA.heap.size from by rw [hwA, hA]; simp)
        have HAG := Lib.hid (show A ≠ G from by have := (Array.getElem?_eq_some_iff.1 HGR.out).1; omega)
        have HWA := Lib.hid hwA
        have HAE := Lib.hid hA
        have HST0 := Lib.hid (show St ls at' r.says 0 false at' from by unfold St; rw [if_neg (by decide)]; exact ⟨rfl, fun k hk => by omega⟩)
        clear hwA hA hbl hr hrm hmc hRr
        go_wp2_with fail
        rw [← HWA.out, ← HAE.out]
        go_wp2_with fail
        go_loopw [8, 42] (fun s8 s42 wq => ∃ (i : Nat) (fd : Bool) (now : List Nat), s42 = .int .i64 (i : Int) ∧ i ≤ n ∧ s8 = .bool fd ∧ Hid (wq.heap[G]? = some (.cells (ia now) 3 (0, 0))) ∧ Hid (St ls at' r.says i fd now) ∧ Hid (∀ j u, r.cells[j]? = some u → wq.cell? ⟨A, j, none⟩ = some u) ∧ Hid (A < wq.heap.size) ∧ Hid (Below w5.heap.size w5 wq)) (fun _ s42 _ => n - (intOf s42).toNat)
        case atStart => exact ⟨0, false, at', rfl, by omega, rfl, HGA, HST0, HXA, HALA, HBA⟩
        case round =>
          clear HGA HST0 HXA HALA HBA HGR HBR d0 d1 d2 d3 d4 d5 d6 d7 d8
          obtain ⟨i, fd, now, rfl, hi, rfl, HG, HST, HXC, HAL, HBQ⟩ := hrel
          rename World => wq
          by_cases hin : i < n
          case neg =>
            have zi : ¬ (i : Int) < (n : Int) := by omega
            have hie : i = n := by omega
            cases fd with
            | false =>
              exfalso
              have h := HST.out
              unfold St at h
              rw [if_neg (by decide)] at h
              obtain ⟨k, hk1, hk2, hk3⟩ := HKP.out.hit HAL0.out (by have := HON.out; omega)
              refine h.2 k (by have := HL.out; omega) ⟨hk2, ?_⟩
              rw [hk3]; exact HRO.out.symm
            | true =>
              have HK2 := Lib.hid (show Kp ls out (t + 1) now from by
                have h := HST.out
                unfold St at h
                rw [if_pos rfl] at h
                obtain ⟨k, hk1, hk2, hk3, hk4⟩ := h
                rw [hk4]
                refine HKP.out.step HAL0.out (by have := HON.out; omega) hk1 hk2 ?_
                rw [rank_says, rank_says, hk3, HRO.out])
              go_wp2_with fail
              go_roundw
              case rel => exact ⟨t + 1, now, by go_num, by omega, HG, HK2, HBQ⟩
              case measure => simp [intOf]; omega
          case pos =>
            have zi : (i : Int) < (n : Int) := by omega
            have zi0 : (0 : Int) ≤ (i : Int) := by omega
            have wi : IntKind.i64.wrap ((i : Int) + 1) = (i : Int) + 1 := IntWalk.i64_in _ (by omega)
            have hLq := HA5.out.keep' HBQ.out
            obtain ⟨lb, loff, rfl, hlt, hcell⟩ := hLq.cells (by omega)
            have hc := hcell i hin
            have hym : ls.getD i ls0 ∈ ls := ls_mem (by have := HL.out; omega)
            have hyr := hLq.rows _ hym
            obtain ⟨v, hv⟩ : ∃ v, v = now.getD i 0 := ⟨_, rfl⟩
            have HV := Lib.hid hv
            have hnl : now.length = n := by
              have h := HST.out
              have h2 := HKP.out.len
              have h3 := HL.out
              unfold St at h
              split at h
              · obtain ⟨k, _, _, _, e⟩ := h
                rw [e, List.length_set]; omega
              · rw [h.1]; omega
            have HNL := Lib.hid hnl
            have HCG := Lib.hid (show G < wq.heap.size ∧ wq.cell? ⟨G, i, none⟩ = some (.int .i64 (v : Int)) from ⟨(Array.getElem?_eq_some_iff.1 HG.out).1, by rw [hv]; exact cell_blk HG.out (ia_get now i (by omega))⟩)
            have HGL := Lib.hid HCG.out.1
            have HYN := Lib.hid (show (ls.getD i ls0).n = ln2 ls i from hyr.len.symm)
            obtain ⟨ya, hya⟩ : ∃ ya, ya = (ls.getD i ls0).a := ⟨_, rfl⟩
            obtain ⟨yn, hyn⟩ : ∃ yn, yn = (ls.getD i ls0).n := ⟨_, rfl⟩
            obtain ⟨yc, hyc⟩ : ∃ yc, yc = (ls.getD i ls0).c := ⟨_, rfl⟩
            rw [← hya, ← hyn, ← hyc] at hc
            rw [← hya, ← hyn, ← hyc] at hyr
            rw [← hyn] at HYN
            have HYM := Lib.hid (show yn ≤ 80 from by
              have h1 := len_flat hym
              have h2 := HN.out
              have h3 := hyr.len
              omega)
            have HYR := Lib.hid hyr
            clear hcell hym hv hnl hya hyn hyc hLq
            cases fd with
            | true =>
              clear hyr
              go_wp2_with fail
              refine wp_region_fill (by kernel_rfl) (by kernel_rfl) (by kernel_rfl) (fun w' => Below wq.heap.size wq w') (fun j u _ => KfF  j u) (Below.drew (Below.refl _ _)) ?_ ?_
              · intro j o ho V w7 K hJ hdep hK
                have HJ := Lib.hid hJ
                have hin : j < 22 := (Array.getElem?_eq_some_iff.1 ho).1
                have hcs : j = 0 ∨ j = 1 ∨ j = 2 ∨ j = 3 ∨ j = 4 ∨ j = 5 ∨ j = 6 ∨ j = 7 ∨ j = 8 ∨ j = 9 ∨ j = 10 ∨ j = 11 ∨ j = 12 ∨ j = 13 ∨ j = 14 ∨ j = 15 ∨ j = 16 ∨ j = 17 ∨ j = 18 ∨ j = 19 ∨ j = 20 ∨ j = 21 := by omega
                clear hin
                rcases hcs with rfl | rfl | rfl | rfl | rfl | rfl | rfl | rfl | rfl | rfl | rfl | rfl | rfl | rfl | rfl | rfl | rfl | rfl | rfl | rfl | rfl | rfl
                · obtain rfl := Option.some.inj ho.symm
                  clear hdep ho hJ
                  simp only [fill, slotOf, List.size_toArray, List.length_cons, List.length_nil, Nat.reduceAdd, List.getElem?_toArray, List.getElem?_cons_zero, List.getElem?_cons_succ, Option.bind_some, Act.put, List.setIfInBounds_toArray, List.set_cons_zero, List.set_cons_succ] at hK ⊢
                  go_simp
                  exact hK (.bool true) _ HJ.out rfl (fun j y h => h) _ rfl
                · obtain rfl := Option.some.inj ho.symm
                  have d0 : V 0 = .bool true := hdep ⟨0, .data⟩ (by simp) rfl
                  clear hdep ho hJ
                  simp only [fill, slotOf, List.size_toArray, List.length_cons, List.length_nil, Nat.reduceAdd, List.getElem?_toArray, List.getElem?_cons_zero, List.getElem?_cons_succ, Option.bind_some, Act.put, List.setIfInBounds_toArray, List.set_cons_zero, List.set_cons_succ] at hK ⊢
                  rw [d0] at hK ⊢
                  go_simp
                  exact hK (.bool false) _ HJ.out rfl (fun j y h => h) _ rfl
                · obtain rfl := Option.some.inj ho.symm
                  have d1 : V 1 = .bool false := hdep ⟨1, .data⟩ (by simp) rfl
                  clear hdep ho hJ
                  simp only [fill, slotOf, List.size_toArray, List.length_cons, List.length_nil, Nat.reduceAdd, List.getElem?_toArray, List.getElem?_cons_zero, List.getElem?_cons_succ, Option.bind_some, Act.put, List.setIfInBounds_toArray, List.set_cons_zero, List.set_cons_succ] at hK ⊢
                  rw [d1] at hK ⊢
                  go_simp
                  exact hK (.bool false) _ HJ.out rfl (fun j y h => h) _ rfl
                · obtain rfl := Option.some.inj ho.symm
                  have d2 : V 2 = .bool false := hdep ⟨2, .guard⟩ (by simp) rfl
                  clear hdep ho hJ
                  simp only [fill, slotOf, List.size_toArray, List.length_cons, List.length_nil, Nat.reduceAdd, List.getElem?_toArray, List.getElem?_cons_zero, List.getElem?_cons_succ, Option.bind_some, Act.put, List.setIfInBounds_toArray, List.set_cons_zero, List.set_cons_succ] at hK ⊢
                  rw [d2] at hK ⊢
                  go_simp
                  exact hK (undef) _ HJ.out rfl (fun j y h => h) _ rfl
                · obtain rfl := Option.some.inj ho.symm
                  have d2 : V 2 = .bool false := hdep ⟨2, .guard⟩ (by simp) rfl
                  clear hdep ho hJ
                  simp only [fill, slotOf, List.size_toArray, List.length_cons, List.length_nil, Nat.reduceAdd, List.getElem?_toArray, List.getElem?_cons_zero, List.getElem?_cons_succ, Option.bind_some, Act.put, List.setIfInBounds_toArray, List.set_cons_zero, List.set_cons_succ] at hK ⊢
                  rw [d2] at hK ⊢
                  go_simp
                  exact hK (undef) _ HJ.out rfl (fun j y h => h) _ rfl
                · obtain rfl := Option.some.inj ho.symm
                  have d2 : V 2 = .bool false := hdep ⟨2, .guard⟩ (by simp) rfl
                  clear hdep ho hJ
                  simp only [fill, slotOf, List.size_toArray, List.length_cons, List.length_nil, Nat.reduceAdd, List.getElem?_toArray, List.getElem?_cons_zero, List.getElem?_cons_succ, Option.bind_some, Act.put, List.setIfInBounds_toArray, List.set_cons_zero, List.set_cons_succ] at hK ⊢
                  rw [d2] at hK ⊢
                  go_simp
                  exact hK (undef) _ HJ.out rfl (fun j y h => h) _ rfl
                · obtain rfl := Option.some.inj ho.symm
                  have d2 : V 2 = .bool false := hdep ⟨2, .guard⟩ (by simp) rfl
                  clear hdep ho hJ
                  simp only [fill, slotOf, List.size_toArray, List.length_cons, List.length_nil, Nat.reduceAdd, List.getElem?_toArray, List.getElem?_cons_zero, List.getElem?_cons_succ, Option.bind_some, Act.put, List.setIfInBounds_toArray, List.set_cons_zero, List.set_cons_succ] at hK ⊢
                  rw [d2] at hK ⊢
                  go_simp
                  exact hK (undef) _ HJ.out rfl (fun j y h => h) _ rfl
                · obtain rfl := Option.some.inj ho.symm
                  have d2 : V 2 = .bool false := hdep ⟨2, .guard⟩ (by simp) rfl
                  clear hdep ho hJ
                  simp only [fill, slotOf, List.size_toArray, List.length_cons, List.length_nil, Nat.reduceAdd, List.getElem?_toArray, List.getElem?_cons_zero, List.getElem?_cons_succ, Option.bind_some, Act.put, List.setIfInBounds_toArray, List.set_cons_zero, List.set_cons_succ] at hK ⊢
                  rw [d2] at hK ⊢
                  go_simp
                  exact hK (undef) _ HJ.out rfl (fun j y h => h) _ rfl
                · obtain rfl := Option.some.inj ho.symm
                  have d2 : V 2 = .bool false := hdep ⟨2, .guard⟩ (by simp) rfl
                  clear hdep ho hJ
                  simp only [fill, slotOf, List.size_toArray, List.length_cons, List.length_nil, Nat.reduceAdd, List.getElem?_toArray, List.getElem?_cons_zero, List.getElem?_cons_succ, Option.bind_some, Act.put, List.setIfInBounds_toArray, List.set_cons_zero, List.set_cons_succ] at hK ⊢
                  rw [d2] at hK ⊢
                  go_simp
                  exact hK (undef) _ HJ.out rfl (fun j y h => h) _ rfl
                · obtain rfl := Option.some.inj ho.symm
                  have d2 : V 2 = .bool false := hdep ⟨2, .guard⟩ (by simp) rfl
                  clear hdep ho hJ
                  simp only [fill, slotOf, List.size_toArray, List.length_cons, List.length_nil, Nat.reduceAdd, List.getElem?_toArray, List.getElem?_cons_zero, List.getElem?_cons_succ, Option.bind_some, Act.put, List.setIfInBounds_toArray, List.set_cons_zero, List.set_cons_succ] at hK ⊢
                  rw [d2] at hK ⊢
                  go_simp
                  exact hK (undef) _ HJ.out rfl (fun j y h => h) _ rfl
                · obtain rfl := Option.some.inj ho.symm
                  have d2 : V 2 = .bool false := hdep ⟨2, .data⟩ (by simp) rfl
                  have d9 : V 9 = undef := hdep ⟨9, .data⟩ (by simp) rfl
                  clear hdep ho hJ
                  simp only [fill, slotOf, List.size_toArray, List.length_cons, List.length_nil, Nat.reduceAdd, List.getElem?_toArray, List.getElem?_cons_zero, List.getElem?_cons_succ, Option.bind_some, Act.put, List.setIfInBounds_toArray, List.set_cons_zero, List.set_cons_succ] at hK ⊢
                  rw [d2, d9] at hK ⊢
                  go_simp
                  exact hK (.bool false) _ HJ.out rfl (fun j y h => h) _ rfl
                · obtain rfl := Option.some.inj ho.symm
                  have d10 : V 10 = .bool false := hdep ⟨10, .data⟩ (by simp) rfl
                  clear hdep ho hJ
                  simp only [fill, slotOf, List.size_toArray, List.length_cons, List.length_nil, Nat.reduceAdd, List.getElem?_toArray, List.getElem?_cons_zero, List.getElem?_cons_succ, Option.bind_some, Act.put, List.setIfInBounds_toArray, List.set_cons_zero, List.set_cons_succ] at hK ⊢
                  rw [d10] at hK ⊢
                  go_simp
                  exact hK (.bool false) _ HJ.out rfl (fun j y h => h) _ rfl
                · obtain rfl := Option.some.inj ho.symm
                  have d11 : V 11 = .bool false := hdep ⟨11, .guard⟩ (by simp) rfl
                  clear hdep ho hJ
                  simp only [fill, slotOf, List.size_toArray, List.length_cons, List.length_nil, Nat.reduceAdd, List.getElem?_toArray, List.getElem?_cons_zero, List.getElem?_cons_succ, Option.bind_some, Act.put, List.setIfInBounds_toArray, List.set_cons_zero, List.set_cons_succ] at hK ⊢
                  rw [d11] at hK ⊢
                  go_simp
                  exact hK (undef) _ HJ.out rfl (fun j y h => h) _ rfl
                · obtain rfl := Option.some.inj ho.symm
                  have d11 : V 11 = .bool false := hdep ⟨11, .guard⟩ (by simp) rfl
                  clear hdep ho hJ
                  simp only [fill, slotOf, List.size_toArray, List.length_cons, List.length_nil, Nat.reduceAdd, List.getElem?_toArray, List.getElem?_cons_zero, List.getElem?_cons_succ, Option.bind_some, Act.put, List.setIfInBounds_toArray, List.set_cons_zero, List.set_cons_succ] at hK ⊢
                  rw [d11] at hK ⊢
                  go_simp
                  exact hK (undef) _ HJ.out rfl (fun j y h => h) _ rfl
                · obtain rfl := Option.some.inj ho.symm
                  have d11 : V 11 = .bool false := hdep ⟨11, .guard⟩ (by simp) rfl
                  clear hdep ho hJ
                  simp only [fill, slotOf, List.size_toArray, List.length_cons, List.length_nil, Nat.reduceAdd, List.getElem?_toArray, List.getElem?_cons_zero, List.getElem?_cons_succ, Option.bind_some, Act.put, List.setIfInBounds_toArray, List.set_cons_zero, List.set_cons_succ] at hK ⊢
                  rw [d11] at hK ⊢
                  go_simp
                  exact hK (undef) _ HJ.out rfl (fun j y h => h) _ rfl
                · obtain rfl := Option.some.inj ho.symm
                  have d11 : V 11 = .bool false := hdep ⟨11, .guard⟩ (by simp) rfl
                  clear hdep ho hJ
                  simp only [fill, slotOf, List.size_toArray, List.length_cons, List.length_nil, Nat.reduceAdd, List.getElem?_toArray, List.getElem?_cons_zero, List.getElem?_cons_succ, Option.bind_some, Act.put, List.setIfInBounds_toArray, List.set_cons_zero, List.set_cons_succ] at hK ⊢
                  rw [d11] at hK ⊢
                  go_simp
                  exact hK (undef) _ HJ.out rfl (fun j y h => h) _ rfl
                · obtain rfl := Option.some.inj ho.symm
                  have d11 : V 11 = .bool false := hdep ⟨11, .guard⟩ (by simp) rfl
                  clear hdep ho hJ
                  simp only [fill, slotOf, List.size_toArray, List.length_cons, List.length_nil, Nat.reduceAdd, List.getElem?_toArray, List.getElem?_cons_zero, List.getElem?_cons_succ, Option.bind_some, Act.put, List.setIfInBounds_toArray, List.set_cons_zero, List.set_cons_succ] at hK ⊢
                  rw [d11] at hK ⊢
                  go_simp
                  exact hK (undef) _ HJ.out rfl (fun j y h => h) _ rfl
                · obtain rfl := Option.some.inj ho.symm
                  have d11 : V 11 = .bool false := hdep ⟨11, .guard⟩ (by simp) rfl
                  clear hdep ho hJ
                  simp only [fill, slotOf, List.size_toArray, List.length_cons, List.length_nil, Nat.reduceAdd, List.getElem?_toArray, List.getElem?_cons_zero, List.getElem?_cons_succ, Option.bind_some, Act.put, List.setIfInBounds_toArray, List.set_cons_zero, List.set_cons_succ] at hK ⊢
                  rw [d11] at hK ⊢
                  go_simp
                  exact hK (undef) _ HJ.out rfl (fun j y h => h) _ rfl
                · obtain rfl := Option.some.inj ho.symm
                  have d11 : V 11 = .bool false := hdep ⟨11, .guard⟩ (by simp) rfl
                  clear hdep ho hJ
                  simp only [fill, slotOf, List.size_toArray, List.length_cons, List.length_nil, Nat.reduceAdd, List.getElem?_toArray, List.getElem?_cons_zero, List.getElem?_cons_succ, Option.bind_some, Act.put, List.setIfInBounds_toArray, List.set_cons_zero, List.set_cons_succ] at hK ⊢
                  rw [d11] at hK ⊢
                  go_simp
                  exact hK (undef) _ HJ.out rfl (fun j y h => h) _ rfl
                · obtain rfl := Option.some.inj ho.symm
                  have d11 : V 11 = .bool false := hdep ⟨11, .guard⟩ (by simp) rfl
                  clear hdep ho hJ
                  simp only [fill, slotOf, List.size_toArray, List.length_cons, List.length_nil, Nat.reduceAdd, List.getElem?_toArray, List.getElem?_cons_zero, List.getElem?_cons_succ, Option.bind_some, Act.put, List.setIfInBounds_toArray, List.set_cons_zero, List.set_cons_succ] at hK ⊢
                  rw [d11] at hK ⊢
                  go_simp
                  exact hK (undef) _ HJ.out rfl (fun j y h => h) _ rfl
                · obtain rfl := Option.some.inj ho.symm
                  have d11 : V 11 = .bool false := hdep ⟨11, .guard⟩ (by simp) rfl
                  clear hdep ho hJ
                  simp only [fill, slotOf, List.size_toArray, List.length_cons, List.length_nil, Nat.reduceAdd, List.getElem?_toArray, List.getElem?_cons_zero, List.getElem?_cons_succ, Option.bind_some, Act.put, List.setIfInBounds_toArray, List.set_cons_zero, List.set_cons_succ] at hK ⊢
                  rw [d11] at hK ⊢
                  go_simp
                  exact hK (undef) _ HJ.out rfl (fun j y h => h) _ rfl
                · obtain rfl := Option.some.inj ho.symm
                  have d11 : V 11 = .bool false := hdep ⟨11, .data⟩ (by simp) rfl
                  have d20 : V 20 = undef := hdep ⟨20, .data⟩ (by simp) rfl
                  clear hdep ho hJ
                  simp only [fill, slotOf, List.size_toArray, List.length_cons, List.length_nil, Nat.reduceAdd, List.getElem?_toArray, List.getElem?_cons_zero, List.getElem?_cons_succ, Option.bind_some, Act.put, List.setIfInBounds_toArray, List.set_cons_zero, List.set_cons_succ] at hK ⊢
                  rw [d11, d20] at hK ⊢
                  go_simp
                  exact hK (.bool false) _ HJ.out rfl (fun j y h => h) _ rfl
              · intro V w7 hJ hall
                have d21 : V 21 = .bool false := hall 21 (by decide)
                have HB7 := Lib.hid hJ
                clear hall hJ
                simp only [fill, slotOf, List.size_toArray, List.length_cons, List.length_nil, Nat.reduceAdd, List.getElem?_toArray, List.getElem?_cons_zero, List.getElem?_cons_succ, Option.bind_some, Act.put, List.setIfInBounds_toArray, List.set_cons_zero, List.set_cons_succ]
                rw [d21]
                clear d21
                have HG7 := Lib.hid ((HB7.out.block G HGL.out).trans HG.out)
                have HX7 := Lib.hid (show ∀ j u, r.cells[j]? = some u → w7.cell? ⟨A, j, none⟩ = some u from fun j u hu => (HB7.out.cell (p := ⟨A, j, none⟩) HAL.out).trans (HXC.out j u hu))
                have HB57 := Lib.hid (HBQ.out.trans (HB7.out.mono HBQ.out.size))
                have HAL7 := Lib.hid (Nat.lt_of_lt_of_le HAL.out HB7.out.size)
                have HST2 := Lib.hid (show St ls at' r.says (i + 1) true now from HST.out)
                go_wp2_with fail
                go_roundw
                case rel => exact ⟨i + 1, true, now, by go_num, by omega, rfl, HG7, HST2, HX7, HAL7, HB57⟩
                case measure => simp [intOf]; omega
            | false =>
              by_cases hvy : v < yn
              case neg =>
                have zv : ¬ (v : Int) < (yn : Int) := by omega
                have zvd : decide ((v : Int) < (yn : Int)) = false := decide_eq_false zv
                clear hyr
                go_wp2_with fail
                refine wp_region_fill (by kernel_rfl) (by kernel_rfl) (by kernel_rfl) (fun w' => Below wq.heap.size wq w') (fun j u _ => KlF G n i v ya yn yc j u) (Below.drew (Below.refl _ _)) ?_ ?_
                · intro j o ho V w7 K hJ hdep hK
                  have HJ := Lib.hid hJ
                  have hin : j < 22 := (Array.getElem?_eq_some_iff.1 ho).1
                  have hcs : j = 0 ∨ j = 1 ∨ j = 2 ∨ j = 3 ∨ j = 4 ∨ j = 5 ∨ j = 6 ∨ j = 7 ∨ j = 8 ∨ j = 9 ∨ j = 10 ∨ j = 11 ∨ j = 12 ∨ j = 13 ∨ j = 14 ∨ j = 15 ∨ j = 16 ∨ j = 17 ∨ j = 18 ∨ j = 19 ∨ j = 20 ∨ j = 21 := by omega
                  clear hin
                  rcases hcs with rfl | rfl | rfl | rfl | rfl | rfl | rfl | rfl | rfl | rfl | rfl | rfl | rfl | rfl | rfl | rfl | rfl | rfl | rfl | rfl | rfl | rfl
                  · obtain rfl := Option.some.inj ho.symm
                    clear hdep ho hJ
                    simp only [fill, slotOf, List.size_toArray, List.length_cons, List.length_nil, Nat.reduceAdd, List.getElem?_toArray, List.getElem?_cons_zero, List.getElem?_cons_succ, Option.bind_some, Act.put, List.setIfInBounds_toArray, List.set_cons_zero, List.set_cons_succ] at hK ⊢
                    go_simp
                    exact hK (.bool false) _ HJ.out rfl (fun j y h => h) _ rfl
                  · obtain rfl := Option.some.inj ho.symm
                    have d0 : V 0 = .bool false := hdep ⟨0, .data⟩ (by simp) rfl
                    clear hdep ho hJ
                    simp only [fill, slotOf, List.size_toArray, List.length_cons, List.length_nil, Nat.reduceAdd, List.getElem?_toArray, List.getElem?_cons_zero, List.getElem?_cons_succ, Option.bind_some, Act.put, List.setIfInBounds_toArray, List.set_cons_zero, List.set_cons_succ] at hK ⊢
                    rw [d0] at hK ⊢
                    go_simp
                    exact hK (.bool true) _ HJ.out rfl (fun j y h => h) _ rfl
                  · obtain rfl := Option.some.inj ho.symm
                    have d1 : V 1 = .bool true := hdep ⟨1, .data⟩ (by simp) rfl
                    clear hdep ho hJ
                    simp only [fill, slotOf, List.size_toArray, List.length_cons, List.length_nil, Nat.reduceAdd, List.getElem?_toArray, List.getElem?_cons_zero, List.getElem?_cons_succ, Option.bind_some, Act.put, List.setIfInBounds_toArray, List.set_cons_zero, List.set_cons_succ] at hK ⊢
                    rw [d1] at hK ⊢
                    go_simp
                    exact hK (.bool true) _ HJ.out rfl (fun j y h => h) _ rfl
                  · obtain rfl := Option.some.inj ho.symm
                    have d2 : V 2 = .bool true := hdep ⟨2, .guard⟩ (by simp) rfl
                    clear hdep ho hJ
                    simp only [fill, slotOf, List.size_toArray, List.length_cons, List.length_nil, Nat.reduceAdd, List.getElem?_toArray, List.getElem?_cons_zero, List.getElem?_cons_succ, Option.bind_some, Act.put, List.setIfInBounds_toArray, List.set_cons_zero, List.set_cons_succ] at hK ⊢
                    rw [d2] at hK ⊢
                    go_simp
                    exact hK (.slice (some ⟨G, 0, none⟩) n n) _ HJ.out rfl (fun j y h => h) _ rfl
                  · obtain rfl := Option.some.inj ho.symm
                    have d2 : V 2 = .bool true := hdep ⟨2, .guard⟩ (by simp) rfl
                    clear hdep ho hJ
                    simp only [fill, slotOf, List.size_toArray, List.length_cons, List.length_nil, Nat.reduceAdd, List.getElem?_toArray, List.getElem?_cons_zero, List.getElem?_cons_succ, Option.bind_some, Act.put, List.setIfInBounds_toArray, List.set_cons_zero, List.set_cons_succ] at hK ⊢
                    rw [d2] at hK ⊢
                    go_simp
                    exact hK (.int .i64 (i : Int)) _ HJ.out rfl (fun j y h => h) _ rfl
                  · obtain rfl := Option.some.inj ho.symm
                    have d3 : V 3 = .slice (some ⟨G, 0, none⟩) n n := hdep ⟨3, .data⟩ (by simp) rfl
                    have d4 : V 4 = .int .i64 (i : Int) := hdep ⟨4, .data⟩ (by simp) rfl
                    have d2 : V 2 = .bool true := hdep ⟨2, .guard⟩ (by simp) rfl
                    clear hdep ho hJ
                    simp only [fill, slotOf, List.size_toArray, List.length_cons, List.length_nil, Nat.reduceAdd, List.getElem?_toArray, List.getElem?_cons_zero, List.getElem?_cons_succ, Option.bind_some, Act.put, List.setIfInBounds_toArray, List.set_cons_zero, List.set_cons_succ] at hK ⊢
                    rw [d3, d4, d2] at hK ⊢
                    go_simp
                    exact hK (.pointer (some ⟨G, i, none⟩)) _ HJ.out rfl (fun j y h => h) _ rfl
                  · obtain rfl := Option.some.inj ho.symm
                    have d5 : V 5 = .pointer (some ⟨G, i, none⟩) := hdep ⟨5, .data⟩ (by simp) rfl
                    have d2 : V 2 = .bool true := hdep ⟨2, .guard⟩ (by simp) rfl
                    have cc0 := (HJ.out.cell (p := ⟨G, i, none⟩) HCG.out.1).trans HCG.out.2
                    clear hdep ho hJ
                    simp only [fill, slotOf, List.size_toArray, List.length_cons, List.length_nil, Nat.reduceAdd, List.getElem?_toArray, List.getElem?_cons_zero, List.getElem?_cons_succ, Option.bind_some, Act.put, List.setIfInBounds_toArray, List.set_cons_zero, List.set_cons_succ] at hK ⊢
                    rw [d5, d2] at hK ⊢
                    go_simp
                    exact hK (.int .i64 (v : Int)) _ HJ.out rfl (fun j y h => h) _ rfl
                  · obtain rfl := Option.some.inj ho.symm
                    have d2 : V 2 = .bool true := hdep ⟨2, .guard⟩ (by simp) rfl
                    clear hdep ho hJ
                    simp only [fill, slotOf, List.size_toArray, List.length_cons, List.length_nil, Nat.reduceAdd, List.getElem?_toArray, List.getElem?_cons_zero, List.getElem?_cons_succ, Option.bind_some, Act.put, List.setIfInBounds_toArray, List.set_cons_zero, List.set_cons_succ] at hK ⊢
                    rw [d2] at hK ⊢
                    go_simp
                    exact hK (.slice ya yn yc) _ HJ.out rfl (fun j y h => h) _ rfl
                  · obtain rfl := Option.some.inj ho.symm
                    have d7 : V 7 = .slice ya yn yc := hdep ⟨7, .data⟩ (by simp) rfl
                    have d2 : V 2 = .bool true := hdep ⟨2, .guard⟩ (by simp) rfl
                    clear hdep ho hJ
                    simp only [fill, slotOf, List.size_toArray, List.length_cons, List.length_nil, Nat.reduceAdd, List.getElem?_toArray, List.getElem?_cons_zero, List.getElem?_cons_succ, Option.bind_some, Act.put, List.setIfInBounds_toArray, List.set_cons_zero, List.set_cons_succ] at hK ⊢
                    rw [d7, d2] at hK ⊢
                    go_simp
                    exact hK (.int .i64 (yn : Int)) _ HJ.out rfl (fun j y h => h) _ rfl
                  · obtain rfl := Option.some.inj ho.symm
                    have d6 : V 6 = .int .i64 (v : Int) := hdep ⟨6, .data⟩ (by simp) rfl
                    have d8 : V 8 = .int .i64 (yn : Int) := hdep ⟨8, .data⟩ (by simp) rfl
                    have d2 : V 2 = .bool true := hdep ⟨2, .guard⟩ (by simp) rfl
                    clear hdep ho hJ
                    simp only [fill, slotOf, List.size_toArray, List.length_cons, List.length_nil, Nat.reduceAdd, List.getElem?_toArray, List.getElem?_cons_zero, List.getElem?_cons_succ, Option.bind_some, Act.put, List.setIfInBounds_toArray, List.set_cons_zero, List.set_cons_succ] at hK ⊢
                    rw [d6, d8, d2] at hK ⊢
                    go_simp
                    exact hK (.bool false) _ HJ.out rfl (fun j y h => h) _ rfl
                  · obtain rfl := Option.some.inj ho.symm
                    have d2 : V 2 = .bool true := hdep ⟨2, .data⟩ (by simp) rfl
                    have d9 : V 9 = .bool false := hdep ⟨9, .data⟩ (by simp) rfl
                    clear hdep ho hJ
                    simp only [fill, slotOf, List.size_toArray, List.length_cons, List.length_nil, Nat.reduceAdd, List.getElem?_toArray, List.getElem?_cons_zero, List.getElem?_cons_succ, Option.bind_some, Act.put, List.setIfInBounds_toArray, List.set_cons_zero, List.set_cons_succ] at hK ⊢
                    rw [d2, d9] at hK ⊢
                    go_simp
                    exact hK (.bool false) _ HJ.out rfl (fun j y h => h) _ rfl
                  · obtain rfl := Option.some.inj ho.symm
                    have d10 : V 10 = .bool false := hdep ⟨10, .data⟩ (by simp) rfl
                    clear hdep ho hJ
                    simp only [fill, slotOf, List.size_toArray, List.length_cons, List.length_nil, Nat.reduceAdd, List.getElem?_toArray, List.getElem?_cons_zero, List.getElem?_cons_succ, Option.bind_some, Act.put, List.setIfInBounds_toArray, List.set_cons_zero, List.set_cons_succ] at hK ⊢
                    rw [d10] at hK ⊢
                    go_simp
                    exact hK (.bool false) _ HJ.out rfl (fun j y h => h) _ rfl
                  · obtain rfl := Option.some.inj ho.symm
                    have d11 : V 11 = .bool false := hdep ⟨11, .guard⟩ (by simp) rfl
                    clear hdep ho hJ
                    simp only [fill, slotOf, List.size_toArray, List.length_cons, List.length_nil, Nat.reduceAdd, List.getElem?_toArray, List.getElem?_cons_zero, List.getElem?_cons_succ, Option.bind_some, Act.put, List.setIfInBounds_toArray, List.set_cons_zero, List.set_cons_succ] at hK ⊢
                    rw [d11] at hK ⊢
                    go_simp
                    exact hK (undef) _ HJ.out rfl (fun j y h => h) _ rfl
                  · obtain rfl := Option.some.inj ho.symm
                    have d11 : V 11 = .bool false := hdep ⟨11, .guard⟩ (by simp) rfl
                    clear hdep ho hJ
                    simp only [fill, slotOf, List.size_toArray, List.length_cons, List.length_nil, Nat.reduceAdd, List.getElem?_toArray, List.getElem?_cons_zero, List.getElem?_cons_succ, Option.bind_some, Act.put, List.setIfInBounds_toArray, List.set_cons_zero, List.set_cons_succ] at hK ⊢
                    rw [d11] at hK ⊢
                    go_simp
                    exact hK (undef) _ HJ.out rfl (fun j y h => h) _ rfl
                  · obtain rfl := Option.some.inj ho.symm
                    have d11 : V 11 = .bool false := hdep ⟨11, .guard⟩ (by simp) rfl
                    clear hdep ho hJ
                    simp only [fill, slotOf, List.size_toArray, List.length_cons, List.length_nil, Nat.reduceAdd, List.getElem?_toArray, List.getElem?_cons_zero, List.getElem?_cons_succ, Option.bind_some, Act.put, List.setIfInBounds_toArray, List.set_cons_zero, List.set_cons_succ] at hK ⊢
                    rw [d11] at hK ⊢
                    go_simp
                    exact hK (undef) _ HJ.out rfl (fun j y h => h) _ rfl
                  · obtain rfl := Option.some.inj ho.symm
                    have d11 : V 11 = .bool false := hdep ⟨11, .guard⟩ (by simp) rfl
                    clear hdep ho hJ
                    simp only [fill, slotOf, List.size_toArray, List.length_cons, List.length_nil, Nat.reduceAdd, List.getElem?_toArray, List.getElem?_cons_zero, List.getElem?_cons_succ, Option.bind_some, Act.put, List.setIfInBounds_toArray, List.set_cons_zero, List.set_cons_succ] at hK ⊢
                    rw [d11] at hK ⊢
                    go_simp
                    exact hK (undef) _ HJ.out rfl (fun j y h => h) _ rfl
                  · obtain rfl := Option.some.inj ho.symm
                    have d11 : V 11 = .bool false := hdep ⟨11, .guard⟩ (by simp) rfl
                    clear hdep ho hJ
                    simp only [fill, slotOf, List.size_toArray, List.length_cons, List.length_nil, Nat.reduceAdd, List.getElem?_toArray, List.getElem?_cons_zero, List.getElem?_cons_succ, Option.bind_some, Act.put, List.setIfInBounds_toArray, List.set_cons_zero, List.set_cons_succ] at hK ⊢
                    rw [d11] at hK ⊢
                    go_simp
                    exact hK (undef) _ HJ.out rfl (fun j y h => h) _ rfl
                  · obtain rfl := Option.some.inj ho.symm
                    have d11 : V 11 = .bool false := hdep ⟨11, .guard⟩ (by simp) rfl
                    clear hdep ho hJ
                    simp only [fill, slotOf, List.size_toArray, List.length_cons, List.length_nil, Nat.reduceAdd, List.getElem?_toArray, List.getElem?_cons_zero, List.getElem?_cons_succ, Option.bind_some, Act.put, List.setIfInBounds_toArray, List.set_cons_zero, List.set_cons_succ] at hK ⊢
                    rw [d11] at hK ⊢
                    go_simp
                    exact hK (undef) _ HJ.out rfl (fun j y h => h) _ rfl
                  · obtain rfl := Option.some.inj ho.symm
                    have d11 : V 11 = .bool false := hdep ⟨11, .guard⟩ (by simp) rfl
                    clear hdep ho hJ
                    simp only [fill, slotOf, List.size_toArray, List.length_cons, List.length_nil, Nat.reduceAdd, List.getElem?_toArray, List.getElem?_cons_zero, List.getElem?_cons_succ, Option.bind_some, Act.put, List.setIfInBounds_toArray, List.set_cons_zero, List.set_cons_succ] at hK ⊢
                    rw [d11] at hK ⊢
                    go_simp
                    exact hK (undef) _ HJ.out rfl (fun j y h => h) _ rfl
                  · obtain rfl := Option.some.inj ho.symm
                    have d11 : V 11 = .bool false := hdep ⟨11, .guard⟩ (by simp) rfl
                    clear hdep ho hJ
                    simp only [fill, slotOf, List.size_toArray, List.length_cons, List.length_nil, Nat.reduceAdd, List.getElem?_toArray, List.getElem?_cons_zero, List.getElem?_cons_succ, Option.bind_some, Act.put, List.setIfInBounds_toArray, List.set_cons_zero, List.set_cons_succ] at hK ⊢
                    rw [d11] at hK ⊢
                    go_simp
                    exact hK (undef) _ HJ.out rfl (fun j y h => h) _ rfl
                  · obtain rfl := Option.some.inj ho.symm
                    have d11 : V 11 = .bool false := hdep ⟨11, .guard⟩ (by simp) rfl
                    clear hdep ho hJ
                    simp only [fill, slotOf, List.size_toArray, List.length_cons, List.length_nil, Nat.reduceAdd, List.getElem?_toArray, List.getElem?_cons_zero, List.getElem?_cons_succ, Option.bind_some, Act.put, List.setIfInBounds_toArray, List.set_cons_zero, List.set_cons_succ] at hK ⊢
                    rw [d11] at hK ⊢
                    go_simp
                    exact hK (undef) _ HJ.out rfl (fun j y h => h) _ rfl
                  · obtain rfl := Option.some.inj ho.symm
                    have d11 : V 11 = .bool false := hdep ⟨11, .data⟩ (by simp) rfl
                    have d20 : V 20 = undef := hdep ⟨20, .data⟩ (by simp) rfl
                    clear hdep ho hJ
                    simp only [fill, slotOf, List.size_toArray, List.length_cons, List.length_nil, Nat.reduceAdd, List.getElem?_toArray, List.getElem?_cons_zero, List.getElem?_cons_succ, Option.bind_some, Act.put, List.setIfInBounds_toArray, List.set_cons_zero, List.set_cons_succ] at hK ⊢
                    rw [d11, d20] at hK ⊢
                    go_simp
                    exact hK (.bool false) _ HJ.out rfl (fun j y h => h) _ rfl
                · intro V w7 hJ hall
                  have d21 : V 21 = .bool false := hall 21 (by decide)
                  have HB7 := Lib.hid hJ
                  clear hall hJ
                  simp only [fill, slotOf, List.size_toArray, List.length_cons, List.length_nil, Nat.reduceAdd, List.getElem?_toArray, List.getElem?_cons_zero, List.getElem?_cons_succ, Option.bind_some, Act.put, List.setIfInBounds_toArray, List.set_cons_zero, List.set_cons_succ]
                  rw [d21]
                  clear d21
                  have HG7 := Lib.hid ((HB7.out.block G HGL.out).trans HG.out)
                  have HX7 := Lib.hid (show ∀ j u, r.cells[j]? = some u → w7.cell? ⟨A, j, none⟩ = some u from fun j u hu => (HB7.out.cell (p := ⟨A, j, none⟩) HAL.out).trans (HXC.out j u hu))
                  have HB57 := Lib.hid (HBQ.out.trans (HB7.out.mono HBQ.out.size))
                  have HAL7 := Lib.hid (Nat.lt_of_lt_of_le HAL.out HB7.out.size)
                  have HST2 := Lib.hid (show St ls at' r.says (i + 1) false now from by
                    have h := HST.out
                    unfold St at h ⊢
                    rw [if_neg (by decide)] at h ⊢
                    refine ⟨h.1, fun k hk hh => ?_⟩
                    rcases Nat.lt_or_ge k i with g | g
                    · exact h.2 k g hh
                    · obtain rfl : k = i := by omega
                      rw [← h.1] at hh
                      have h1 := hh.1
                      have h2 := HV.out
                      have h3 := HYN.out
                      omega)
                  go_wp2_with fail
                  go_roundw
                  case rel => exact ⟨i + 1, false, now, by go_num, by omega, rfl, HG7, HST2, HX7, HAL7, HB57⟩
                  case measure => simp [intOf]; omega
              case pos =>
                have zv : (v : Int) < (yn : Int) := by omega
                have zvd : decide ((v : Int) < (yn : Int)) = true := decide_eq_true zv
                have zv0 : (0 : Int) ≤ (v : Int) := by omega
                obtain ⟨yb, yo, rfl, hyb, hyc2⟩ := hyr.cells (by omega)
                obtain ⟨q, hq⟩ : ∃ q, q = (ls.getD i ls0).rs.getD v row0 := ⟨_, rfl⟩
                have HQ := Lib.hid (show q = rw2 ls i v from hq)
                have hqm : q ∈ (ls.getD i ls0).rs := by rw [hq]; exact row_mem (by have := hyr.len; omega)
                have HCQ := Lib.hid (And.intro hyb (RowsAt.nine hyc2 hvy hq))
                have HCR := Lib.hid (show A < wq.heap.size ∧ wq.cell? ⟨A, 0, none⟩ = some (.int .i64 r.r.kind) ∧ wq.cell? ⟨A, 0 + 1, none⟩ = some (.int .i64 r.r.time) ∧ wq.cell? ⟨A, 0 + 2, none⟩ = some (.slice r.r.la r.r.ln r.r.lc) ∧ wq.cell? ⟨A, 0 + 3, none⟩ = some (.string r.r.text) ∧ wq.cell? ⟨A, 0 + 4, none⟩ = some (.int .i64 r.r.value) ∧ wq.cell? ⟨A, 0 + 5, none⟩ = some (.bool r.r.null) ∧ wq.cell? ⟨A, 0 + 6, none⟩ = some (.int .i64 r.who) ∧ wq.cell? ⟨A, 0 + 7, none⟩ = some (.int .i64 r.sq) ∧ wq.cell? ⟨A, 0 + 8, none⟩ = some (.int .i64 r.pl) from ⟨HAL.out, HXC.out 0 _ rfl, HXC.out 1 _ rfl, HXC.out 2 _ rfl, HXC.out 3 _ rfl, HXC.out 4 _ rfl, HXC.out 5 _ rfl, HXC.out 6 _ rfl, HXC.out 7 _ rfl, HXC.out 8 _ rfl⟩)
                obtain ⟨sm, hsm⟩ : ∃ sm, sm = sameB q r := ⟨_, rfl⟩
                have HSAME := Lib.hid (show ∀ w7, Below wq.heap.size wq w7 → Calls Try.prog 38 #[.agg #[.int .i64 q.r.kind, .int .i64 q.r.time, .slice q.r.la q.r.ln q.r.lc, .string q.r.text, .int .i64 q.r.value, .bool q.r.null, .int .i64 q.who, .int .i64 q.sq, .int .i64 q.pl], .agg #[.int .i64 r.r.kind, .int .i64 r.r.time, .slice r.r.la r.r.ln r.r.lc, .string r.r.text, .int .i64 r.r.value, .bool r.r.null, .int .i64 r.who, .int .i64 r.sq, .int .i64 r.pl]] w7 fun e w' => e = .returned (.bool sm) ∧ Below w7.heap.size w7 w' from fun w7 h7 => by
                  rw [hsm]
                  exact rsame_any q r ((hyr.kept h7).labs q hqm) ((HRL.out wq HBQ.out).kept h7))
                have HSM := Lib.hid hsm
                clear hyr hyc2 hq hqm hyb hsm
                go_wp2_with fail
                refine wp_region_fill (by kernel_rfl) (by kernel_rfl) (by kernel_rfl) (fun w' => Below wq.heap.size wq w') (fun j u _ => KyF G n i v yb yo yn yc q r sm j u) (Below.drew (Below.refl _ _)) ?_ ?_
                · intro j o ho V w7 K hJ hdep hK
                  have HJ := Lib.hid hJ
                  have hin : j < 22 := (Array.getElem?_eq_some_iff.1 ho).1
                  have hcs : j = 0 ∨ j = 1 ∨ j = 2 ∨ j = 3 ∨ j = 4 ∨ j = 5 ∨ j = 6 ∨ j = 7 ∨ j = 8 ∨ j = 9 ∨ j = 10 ∨ j = 11 ∨ j = 12 ∨ j = 13 ∨ j = 14 ∨ j = 15 ∨ j = 16 ∨ j = 17 ∨ j = 18 ∨ j = 19 ∨ j = 20 ∨ j = 21 := by omega
                  clear hin
                  rcases hcs with rfl | rfl | rfl | rfl | rfl | rfl | rfl | rfl | rfl | rfl | rfl | rfl | rfl | rfl | rfl | rfl | rfl | rfl | rfl | rfl | rfl | rfl
                  · obtain rfl := Option.some.inj ho.symm
                    clear hdep ho hJ
                    simp only [fill, slotOf, List.size_toArray, List.length_cons, List.length_nil, Nat.reduceAdd, List.getElem?_toArray, List.getElem?_cons_zero, List.getElem?_cons_succ, Option.bind_some, Act.put, List.setIfInBounds_toArray, List.set_cons_zero, List.set_cons_succ] at hK ⊢
                    go_simp
                    exact hK (.bool false) _ HJ.out rfl (fun j y h => h) _ rfl
                  · obtain rfl := Option.some.inj ho.symm
                    have d0 : V 0 = .bool false := hdep ⟨0, .data⟩ (by simp) rfl
                    clear hdep ho hJ
                    simp only [fill, slotOf, List.size_toArray, List.length_cons, List.length_nil, Nat.reduceAdd, List.getElem?_toArray, List.getElem?_cons_zero, List.getElem?_cons_succ, Option.bind_some, Act.put, List.setIfInBounds_toArray, List.set_cons_zero, List.set_cons_succ] at hK ⊢
                    rw [d0] at hK ⊢
                    go_simp
                    exact hK (.bool true) _ HJ.out rfl (fun j y h => h) _ rfl
                  · obtain rfl := Option.some.inj ho.symm
                    have d1 : V 1 = .bool true := hdep ⟨1, .data⟩ (by simp) rfl
                    clear hdep ho hJ
                    simp only [fill, slotOf, List.size_toArray, List.length_cons, List.length_nil, Nat.reduceAdd, List.getElem?_toArray, List.getElem?_cons_zero, List.getElem?_cons_succ, Option.bind_some, Act.put, List.setIfInBounds_toArray, List.set_cons_zero, List.set_cons_succ] at hK ⊢
                    rw [d1] at hK ⊢
                    go_simp
                    exact hK (.bool true) _ HJ.out rfl (fun j y h => h) _ rfl
                  · obtain rfl := Option.some.inj ho.symm
                    have d2 : V 2 = .bool true := hdep ⟨2, .guard⟩ (by simp) rfl
                    clear hdep ho hJ
                    simp only [fill, slotOf, List.size_toArray, List.length_cons, List.length_nil, Nat.reduceAdd, List.getElem?_toArray, List.getElem?_cons_zero, List.getElem?_cons_succ, Option.bind_some, Act.put, List.setIfInBounds_toArray, List.set_cons_zero, List.set_cons_succ] at hK ⊢
                    rw [d2] at hK ⊢
                    go_simp
                    exact hK (.slice (some ⟨G, 0, none⟩) n n) _ HJ.out rfl (fun j y h => h) _ rfl
                  · obtain rfl := Option.some.inj ho.symm
                    have d2 : V 2 = .bool true := hdep ⟨2, .guard⟩ (by simp) rfl
                    clear hdep ho hJ
                    simp only [fill, slotOf, List.size_toArray, List.length_cons, List.length_nil, Nat.reduceAdd, List.getElem?_toArray, List.getElem?_cons_zero, List.getElem?_cons_succ, Option.bind_some, Act.put, List.setIfInBounds_toArray, List.set_cons_zero, List.set_cons_succ] at hK ⊢
                    rw [d2] at hK ⊢
                    go_simp
                    exact hK (.int .i64 (i : Int)) _ HJ.out rfl (fun j y h => h) _ rfl
                  · obtain rfl := Option.some.inj ho.symm
                    have d3 : V 3 = .slice (some ⟨G, 0, none⟩) n n := hdep ⟨3, .data⟩ (by simp) rfl
                    have d4 : V 4 = .int .i64 (i : Int) := hdep ⟨4, .data⟩ (by simp) rfl
                    have d2 : V 2 = .bool true := hdep ⟨2, .guard⟩ (by simp) rfl
                    clear hdep ho hJ
                    simp only [fill, slotOf, List.size_toArray, List.length_cons, List.length_nil, Nat.reduceAdd, List.getElem?_toArray, List.getElem?_cons_zero, List.getElem?_cons_succ, Option.bind_some, Act.put, List.setIfInBounds_toArray, List.set_cons_zero, List.set_cons_succ] at hK ⊢
                    rw [d3, d4, d2] at hK ⊢
                    go_simp
                    exact hK (.pointer (some ⟨G, i, none⟩)) _ HJ.out rfl (fun j y h => h) _ rfl
                  · obtain rfl := Option.some.inj ho.symm
                    have d5 : V 5 = .pointer (some ⟨G, i, none⟩) := hdep ⟨5, .data⟩ (by simp) rfl
                    have d2 : V 2 = .bool true := hdep ⟨2, .guard⟩ (by simp) rfl
                    have cc0 := (HJ.out.cell (p := ⟨G, i, none⟩) HCG.out.1).trans HCG.out.2
                    clear hdep ho hJ
                    simp only [fill, slotOf, List.size_toArray, List.length_cons, List.length_nil, Nat.reduceAdd, List.getElem?_toArray, List.getElem?_cons_zero, List.getElem?_cons_succ, Option.bind_some, Act.put, List.setIfInBounds_toArray, List.set_cons_zero, List.set_cons_succ] at hK ⊢
                    rw [d5, d2] at hK ⊢
                    go_simp
                    exact hK (.int .i64 (v : Int)) _ HJ.out rfl (fun j y h => h) _ rfl
                  · obtain rfl := Option.some.inj ho.symm
                    have d2 : V 2 = .bool true := hdep ⟨2, .guard⟩ (by simp) rfl
                    clear hdep ho hJ
                    simp only [fill, slotOf, List.size_toArray, List.length_cons, List.length_nil, Nat.reduceAdd, List.getElem?_toArray, List.getElem?_cons_zero, List.getElem?_cons_succ, Option.bind_some, Act.put, List.setIfInBounds_toArray, List.set_cons_zero, List.set_cons_succ] at hK ⊢
                    rw [d2] at hK ⊢
                    go_simp
                    exact hK (.slice (some ⟨yb, yo, none⟩) yn yc) _ HJ.out rfl (fun j y h => h) _ rfl
                  · obtain rfl := Option.some.inj ho.symm
                    have d7 : V 7 = .slice (some ⟨yb, yo, none⟩) yn yc := hdep ⟨7, .data⟩ (by simp) rfl
                    have d2 : V 2 = .bool true := hdep ⟨2, .guard⟩ (by simp) rfl
                    clear hdep ho hJ
                    simp only [fill, slotOf, List.size_toArray, List.length_cons, List.length_nil, Nat.reduceAdd, List.getElem?_toArray, List.getElem?_cons_zero, List.getElem?_cons_succ, Option.bind_some, Act.put, List.setIfInBounds_toArray, List.set_cons_zero, List.set_cons_succ] at hK ⊢
                    rw [d7, d2] at hK ⊢
                    go_simp
                    exact hK (.int .i64 (yn : Int)) _ HJ.out rfl (fun j y h => h) _ rfl
                  · obtain rfl := Option.some.inj ho.symm
                    have d6 : V 6 = .int .i64 (v : Int) := hdep ⟨6, .data⟩ (by simp) rfl
                    have d8 : V 8 = .int .i64 (yn : Int) := hdep ⟨8, .data⟩ (by simp) rfl
                    have d2 : V 2 = .bool true := hdep ⟨2, .guard⟩ (by simp) rfl
                    clear hdep ho hJ
                    simp only [fill, slotOf, List.size_toArray, List.length_cons, List.length_nil, Nat.reduceAdd, List.getElem?_toArray, List.getElem?_cons_zero, List.getElem?_cons_succ, Option.bind_some, Act.put, List.setIfInBounds_toArray, List.set_cons_zero, List.set_cons_succ] at hK ⊢
                    rw [d6, d8, d2] at hK ⊢
                    go_simp
                    exact hK (.bool true) _ HJ.out rfl (fun j y h => h) _ rfl
                  · obtain rfl := Option.some.inj ho.symm
                    have d2 : V 2 = .bool true := hdep ⟨2, .data⟩ (by simp) rfl
                    have d9 : V 9 = .bool true := hdep ⟨9, .data⟩ (by simp) rfl
                    clear hdep ho hJ
                    simp only [fill, slotOf, List.size_toArray, List.length_cons, List.length_nil, Nat.reduceAdd, List.getElem?_toArray, List.getElem?_cons_zero, List.getElem?_cons_succ, Option.bind_some, Act.put, List.setIfInBounds_toArray, List.set_cons_zero, List.set_cons_succ] at hK ⊢
                    rw [d2, d9] at hK ⊢
                    go_simp
                    exact hK (.bool true) _ HJ.out rfl (fun j y h => h) _ rfl
                  · obtain rfl := Option.some.inj ho.symm
                    have d10 : V 10 = .bool true := hdep ⟨10, .data⟩ (by simp) rfl
                    clear hdep ho hJ
                    simp only [fill, slotOf, List.size_toArray, List.length_cons, List.length_nil, Nat.reduceAdd, List.getElem?_toArray, List.getElem?_cons_zero, List.getElem?_cons_succ, Option.bind_some, Act.put, List.setIfInBounds_toArray, List.set_cons_zero, List.set_cons_succ] at hK ⊢
                    rw [d10] at hK ⊢
                    go_simp
                    exact hK (.bool true) _ HJ.out rfl (fun j y h => h) _ rfl
                  · obtain rfl := Option.some.inj ho.symm
                    have d11 : V 11 = .bool true := hdep ⟨11, .guard⟩ (by simp) rfl
                    clear hdep ho hJ
                    simp only [fill, slotOf, List.size_toArray, List.length_cons, List.length_nil, Nat.reduceAdd, List.getElem?_toArray, List.getElem?_cons_zero, List.getElem?_cons_succ, Option.bind_some, Act.put, List.setIfInBounds_toArray, List.set_cons_zero, List.set_cons_succ] at hK ⊢
                    rw [d11] at hK ⊢
                    go_simp
                    exact hK (.slice (some ⟨yb, yo, none⟩) yn yc) _ HJ.out rfl (fun j y h => h) _ rfl
                  · obtain rfl := Option.some.inj ho.symm
                    have d11 : V 11 = .bool true := hdep ⟨11, .guard⟩ (by simp) rfl
                    clear hdep ho hJ
                    simp only [fill, slotOf, List.size_toArray, List.length_cons, List.length_nil, Nat.reduceAdd, List.getElem?_toArray, List.getElem?_cons_zero, List.getElem?_cons_succ, Option.bind_some, Act.put, List.setIfInBounds_toArray, List.set_cons_zero, List.set_cons_succ] at hK ⊢
                    rw [d11] at hK ⊢
                    go_simp
                    exact hK (.slice (some ⟨G, 0, none⟩) n n) _ HJ.out rfl (fun j y h => h) _ rfl
                  · obtain rfl := Option.some.inj ho.symm
                    have d11 : V 11 = .bool true := hdep ⟨11, .guard⟩ (by simp) rfl
                    clear hdep ho hJ
                    simp only [fill, slotOf, List.size_toArray, List.length_cons, List.length_nil, Nat.reduceAdd, List.getElem?_toArray, List.getElem?_cons_zero, List.getElem?_cons_succ, Option.bind_some, Act.put, List.setIfInBounds_toArray, List.set_cons_zero, List.set_cons_succ] at hK ⊢
                    rw [d11] at hK ⊢
                    go_simp
                    exact hK (.int .i64 (i : Int)) _ HJ.out rfl (fun j y h => h) _ rfl
                  · obtain rfl := Option.some.inj ho.symm
                    have d13 : V 13 = .slice (some ⟨G, 0, none⟩) n n := hdep ⟨13, .data⟩ (by simp) rfl
                    have d14 : V 14 = .int .i64 (i : Int) := hdep ⟨14, .data⟩ (by simp) rfl
                    have d11 : V 11 = .bool true := hdep ⟨11, .guard⟩ (by simp) rfl
                    clear hdep ho hJ
                    simp only [fill, slotOf, List.size_toArray, List.length_cons, List.length_nil, Nat.reduceAdd, List.getElem?_toArray, List.getElem?_cons_zero, List.getElem?_cons_succ, Option.bind_some, Act.put, List.setIfInBounds_toArray, List.set_cons_zero, List.set_cons_succ] at hK ⊢
                    rw [d13, d14, d11] at hK ⊢
                    go_simp
                    exact hK (.pointer (some ⟨G, i, none⟩)) _ HJ.out rfl (fun j y h => h) _ rfl
                  · obtain rfl := Option.some.inj ho.symm
                    have d15 : V 15 = .pointer (some ⟨G, i, none⟩) := hdep ⟨15, .data⟩ (by simp) rfl
                    have d11 : V 11 = .bool true := hdep ⟨11, .guard⟩ (by simp) rfl
                    have cc0 := (HJ.out.cell (p := ⟨G, i, none⟩) HCG.out.1).trans HCG.out.2
                    clear hdep ho hJ
                    simp only [fill, slotOf, List.size_toArray, List.length_cons, List.length_nil, Nat.reduceAdd, List.getElem?_toArray, List.getElem?_cons_zero, List.getElem?_cons_succ, Option.bind_some, Act.put, List.setIfInBounds_toArray, List.set_cons_zero, List.set_cons_succ] at hK ⊢
                    rw [d15, d11] at hK ⊢
                    go_simp
                    exact hK (.int .i64 (v : Int)) _ HJ.out rfl (fun j y h => h) _ rfl
                  · obtain rfl := Option.some.inj ho.symm
                    have d12 : V 12 = .slice (some ⟨yb, yo, none⟩) yn yc := hdep ⟨12, .data⟩ (by simp) rfl
                    have d16 : V 16 = .int .i64 (v : Int) := hdep ⟨16, .data⟩ (by simp) rfl
                    have d11 : V 11 = .bool true := hdep ⟨11, .guard⟩ (by simp) rfl
                    clear hdep ho hJ
                    simp only [fill, slotOf, List.size_toArray, List.length_cons, List.length_nil, Nat.reduceAdd, List.getElem?_toArray, List.getElem?_cons_zero, List.getElem?_cons_succ, Option.bind_some, Act.put, List.setIfInBounds_toArray, List.set_cons_zero, List.set_cons_succ] at hK ⊢
                    rw [d12, d16, d11] at hK ⊢
                    go_simp
                    exact hK (.pointer (some ⟨yb, yo + v * 9, none⟩)) _ HJ.out rfl (fun j y h => h) _ rfl
                  · obtain rfl := Option.some.inj ho.symm
                    have d17 : V 17 = .pointer (some ⟨yb, yo + v * 9, none⟩) := hdep ⟨17, .data⟩ (by simp) rfl
                    have d11 : V 11 = .bool true := hdep ⟨11, .guard⟩ (by simp) rfl
                    have cc0 := (HJ.out.cell (p := ⟨yb, yo + v * 9, none⟩) HCQ.out.1).trans HCQ.out.2.1
                    have cc1 := (HJ.out.cell (p := ⟨yb, yo + v * 9 + 1, none⟩) HCQ.out.1).trans HCQ.out.2.2.1
                    have cc2 := (HJ.out.cell (p := ⟨yb, yo + v * 9 + 2, none⟩) HCQ.out.1).trans HCQ.out.2.2.2.1
                    have cc3 := (HJ.out.cell (p := ⟨yb, yo + v * 9 + 3, none⟩) HCQ.out.1).trans HCQ.out.2.2.2.2.1
                    have cc4 := (HJ.out.cell (p := ⟨yb, yo + v * 9 + 4, none⟩) HCQ.out.1).trans HCQ.out.2.2.2.2.2.1
                    have cc5 := (HJ.out.cell (p := ⟨yb, yo + v * 9 + 5, none⟩) HCQ.out.1).trans HCQ.out.2.2.2.2.2.2.1
                    have cc6 := (HJ.out.cell (p := ⟨yb, yo + v * 9 + 6, none⟩) HCQ.out.1).trans HCQ.out.2.2.2.2.2.2.2.1
                    have cc7 := (HJ.out.cell (p := ⟨yb, yo + v * 9 + 7, none⟩) HCQ.out.1).trans HCQ.out.2.2.2.2.2.2.2.2.1
                    have cc8 := (HJ.out.cell (p := ⟨yb, yo + v * 9 + 8, none⟩) HCQ.out.1).trans HCQ.out.2.2.2.2.2.2.2.2.2
                    clear hdep ho hJ
                    simp only [fill, slotOf, List.size_toArray, List.length_cons, List.length_nil, Nat.reduceAdd, List.getElem?_toArray, List.getElem?_cons_zero, List.getElem?_cons_succ, Option.bind_some, Act.put, List.setIfInBounds_toArray, List.set_cons_zero, List.set_cons_succ] at hK ⊢
                    rw [d17, d11] at hK ⊢
                    go_simp
                    exact hK (.agg #[.int .i64 q.r.kind, .int .i64 q.r.time, .slice q.r.la q.r.ln q.r.lc, .string q.r.text, .int .i64 q.r.value, .bool q.r.null, .int .i64 q.who, .int .i64 q.sq, .int .i64 q.pl]) _ HJ.out rfl (fun j y h => h) _ rfl
                  · obtain rfl := Option.some.inj ho.symm
                    have d11 : V 11 = .bool true := hdep ⟨11, .guard⟩ (by simp) rfl
                    have cc0 := (HJ.out.cell (p := ⟨A, 0, none⟩) HCR.out.1).trans HCR.out.2.1
                    have cc1 := (HJ.out.cell (p := ⟨A, 0 + 1, none⟩) HCR.out.1).trans HCR.out.2.2.1
                    have cc2 := (HJ.out.cell (p := ⟨A, 0 + 2, none⟩) HCR.out.1).trans HCR.out.2.2.2.1
                    have cc3 := (HJ.out.cell (p := ⟨A, 0 + 3, none⟩) HCR.out.1).trans HCR.out.2.2.2.2.1
                    have cc4 := (HJ.out.cell (p := ⟨A, 0 + 4, none⟩) HCR.out.1).trans HCR.out.2.2.2.2.2.1
                    have cc5 := (HJ.out.cell (p := ⟨A, 0 + 5, none⟩) HCR.out.1).trans HCR.out.2.2.2.2.2.2.1
                    have cc6 := (HJ.out.cell (p := ⟨A, 0 + 6, none⟩) HCR.out.1).trans HCR.out.2.2.2.2.2.2.2.1
                    have cc7 := (HJ.out.cell (p := ⟨A, 0 + 7, none⟩) HCR.out.1).trans HCR.out.2.2.2.2.2.2.2.2.1
                    have cc8 := (HJ.out.cell (p := ⟨A, 0 + 8, none⟩) HCR.out.1).trans HCR.out.2.2.2.2.2.2.2.2.2
                    clear hdep ho hJ
                    simp only [fill, slotOf, List.size_toArray, List.length_cons, List.length_nil, Nat.reduceAdd, List.getElem?_toArray, List.getElem?_cons_zero, List.getElem?_cons_succ, Option.bind_some, Act.put, List.setIfInBounds_toArray, List.set_cons_zero, List.set_cons_succ] at hK ⊢
                    rw [d11] at hK ⊢
                    go_simp
                    exact hK (.agg #[.int .i64 r.r.kind, .int .i64 r.r.time, .slice r.r.la r.r.ln r.r.lc, .string r.r.text, .int .i64 r.r.value, .bool r.r.null, .int .i64 r.who, .int .i64 r.sq, .int .i64 r.pl]) _ HJ.out rfl (fun j y h => h) _ rfl
                  · obtain rfl := Option.some.inj ho.symm
                    have d18 : V 18 = .agg #[.int .i64 q.r.kind, .int .i64 q.r.time, .slice q.r.la q.r.ln q.r.lc, .string q.r.text, .int .i64 q.r.value, .bool q.r.null, .int .i64 q.who, .int .i64 q.sq, .int .i64 q.pl] := hdep ⟨18, .data⟩ (by simp) rfl
                    have d19 : V 19 = .agg #[.int .i64 r.r.kind, .int .i64 r.r.time, .slice r.r.la r.r.ln r.r.lc, .string r.r.text, .int .i64 r.r.value, .bool r.r.null, .int .i64 r.who, .int .i64 r.sq, .int .i64 r.pl] := hdep ⟨19, .data⟩ (by simp) rfl
                    have d11 : V 11 = .bool true := hdep ⟨11, .guard⟩ (by simp) rfl
                    clear hdep ho hJ
                    simp only [fill, slotOf, List.size_toArray, List.length_cons, List.length_nil, Nat.reduceAdd, List.getElem?_toArray, List.getElem?_cons_zero, List.getElem?_cons_succ, Option.bind_some, Act.put, List.setIfInBounds_toArray, List.set_cons_zero, List.set_cons_succ] at hK ⊢
                    rw [d18, d19, d11] at hK ⊢
                    go_simp
                    refine (HSAME.out w7 HJ.out).mono ?_
                    rintro e w8 ⟨rfl, hb8⟩
                    exact hK (.bool sm) _ (HJ.out.trans (hb8.mono HJ.out.size)) rfl (fun j y h => h) _ rfl
                  · obtain rfl := Option.some.inj ho.symm
                    have d11 : V 11 = .bool true := hdep ⟨11, .data⟩ (by simp) rfl
                    have d20 : V 20 = .bool sm := hdep ⟨20, .data⟩ (by simp) rfl
                    clear hdep ho hJ
                    simp only [fill, slotOf, List.size_toArray, List.length_cons, List.length_nil, Nat.reduceAdd, List.getElem?_toArray, List.getElem?_cons_zero, List.getElem?_cons_succ, Option.bind_some, Act.put, List.setIfInBounds_toArray, List.set_cons_zero, List.set_cons_succ] at hK ⊢
                    rw [d11, d20] at hK ⊢
                    go_simp
                    exact hK (.bool sm) _ HJ.out rfl (fun j y h => h) _ rfl
                · intro V w7 hJ hall
                  have d21 : V 21 = .bool sm := hall 21 (by decide)
                  have HB7 := Lib.hid hJ
                  clear hall hJ
                  simp only [fill, slotOf, List.size_toArray, List.length_cons, List.length_nil, Nat.reduceAdd, List.getElem?_toArray, List.getElem?_cons_zero, List.getElem?_cons_succ, Option.bind_some, Act.put, List.setIfInBounds_toArray, List.set_cons_zero, List.set_cons_succ]
                  rw [d21]
                  clear d21
                  have HG7 := Lib.hid ((HB7.out.block G HGL.out).trans HG.out)
                  have HX7 := Lib.hid (show ∀ j u, r.cells[j]? = some u → w7.cell? ⟨A, j, none⟩ = some u from fun j u hu => (HB7.out.cell (p := ⟨A, j, none⟩) HAL.out).trans (HXC.out j u hu))
                  have HB57 := Lib.hid (HBQ.out.trans (HB7.out.mono HBQ.out.size))
                  have HAL7 := Lib.hid (Nat.lt_of_lt_of_le HAL.out HB7.out.size)
                  cases sm with
                  | false =>
                    have HST2 := Lib.hid (show St ls at' r.says (i + 1) false now from by
                      have h := HST.out
                      unfold St at h ⊢
                      rw [if_neg (by decide)] at h ⊢
                      refine ⟨h.1, fun k hk hh => ?_⟩
                      rcases Nat.lt_or_ge k i with g | g
                      · exact h.2 k g hh
                      · obtain rfl : k = i := by omega
                        rw [← h.1, ← HV.out, ← HQ.out] at hh
                        have := sameB_iff.2 hh.2
                        rw [← HSM.out] at this
                        cases this)
                    go_wp2_with fail
                    go_roundw
                    case rel => exact ⟨i + 1, false, now, by go_num, by omega, rfl, HG7, HST2, HX7, HAL7, HB57⟩
                    case measure => simp [intOf]; omega
                  | true =>
                    have hnow : now = at' := by
                      have h := HST.out
                      unfold St at h
                      rw [if_neg (by decide)] at h
                      exact h.1
                    have HST2 := Lib.hid (show St ls at' r.says (i + 1) true (now.set i (v + 1)) from by
                      unfold St
                      rw [if_pos rfl]
                      refine ⟨i, by have := HL.out; omega, ?_, ?_, ?_⟩
                      · rw [← hnow, ← HV.out, ← HYN.out]; exact hvy
                      · rw [← hnow, ← HV.out, ← HQ.out]; exact sameB_iff.1 HSM.out.symm
                      · rw [← hnow, ← HV.out])
                    have cg7 : w7.cell? ⟨G, i, none⟩ = some (.int .i64 (v : Int)) := by
                      rw [HV.out]
                      exact cell_blk HG7.out (ia_get now i (by have := HNL.out; omega))
                    have fg7 : w7.frozen? ⟨G, i, none⟩ = false := by simp [World.frozen?, HG7.out]
                    have wv : IntKind.i64.wrap ((v : Int) + 1) = (v : Int) + 1 := IntWalk.i64_in _ (by have := HYM.out; omega)
                    have HG8 := Lib.hid (show (w7.setCell ⟨G, i, none⟩ (.int .i64 ((v : Int) + 1))).heap[G]? = some (.cells (ia (now.set i (v + 1))) 3 (0, 0)) from by
                      rw [← ia_set]
                      exact heap_setCell_same w7 G i _ _ _ HG7.out)
                    have HX8 := Lib.hid (show ∀ j u, r.cells[j]? = some u → (w7.setCell ⟨G, i, none⟩ (.int .i64 ((v : Int) + 1))).cell? ⟨A, j, none⟩ = some u from fun j u hu => cell_set_other (HX7.out j u hu) HAG.out)
                    have HB8 := Lib.hid (HB57.out.setCell (p := ⟨G, i, none⟩) HG5.out (.int .i64 ((v : Int) + 1)))
                    have HAL8 := Lib.hid (show A < (w7.setCell ⟨G, i, none⟩ (.int .i64 ((v : Int) + 1))).heap.size from by simpa [World.setCell] using HAL7.out)
                    go_wp2_with fail
                    go_roundw
                    case rel => exact ⟨i + 1, true, now.set i (v + 1), by go_num, by omega, rfl, HG8, HST2, HX8, HAL8, HB8⟩
                    case measure => simp [intOf]; omega
      case neg =>
        have zt : ¬ (t : Int) < (N : Int) := by omega
        obtain rfl : t = N := by omega
        have HKD := Lib.hid (show ∀ i, i < n → at'.getD i 0 = ln2 ls i from fun i hi => by
          have h := HKP.out
          rw [← HON.out] at h
          exact h.done HAL0.out (by have := HL.out; omega))
        have HATL := Lib.hid (show at'.length = n from by rw [HKP.out.len]; exact HL.out)
        go_wp2_with fail
        go_loopw [81] (fun s81 wq => ∃ i : Nat, s81 = .int .i64 (i : Int) ∧ i ≤ n ∧ wq = wr) (fun s81 _ => n - (intOf s81).toNat)
        case atStart => exact ⟨0, rfl, by omega, rfl⟩
        case round =>
          obtain ⟨i, rfl, hi, rfl⟩ := hrel
          by_cases hin : i < n
          case pos =>
            have zi : (i : Int) < (n : Int) := by omega
            have zi0 : (0 : Int) ≤ (i : Int) := by omega
            have wi : IntKind.i64.wrap ((i : Int) + 1) = (i : Int) + 1 := IntWalk.i64_in _ (by omega)
            have hLq := HA5.out.kept HBR.out
            obtain ⟨lb, loff, rfl, hlt, hcell⟩ := hLq.cells (by omega)
            have hc := hcell i hin
            have hyr := hLq.rows _ (ls_mem (l := ls) (i := i) (by have := HL.out; omega))
            have hcg := cell_blk HGR.out (ia_get at' i (by have := HATL.out; omega))
            rw [HKD.out i hin, show ln2 ls i = (ls.getD i ls0).n from hyr.len] at hcg
            obtain ⟨yn, hyn⟩ : ∃ yn, yn = (ls.getD i ls0).n := ⟨_, rfl⟩
            rw [← hyn] at hcg hc
            clear hcell hyr hLq hyn
            go_wp2_with fail
            go_roundw
            case rel => exact ⟨i + 1, by go_num, by omega, trivial⟩
            case measure => simp [intOf]; omega
          case neg =>
            have zi : ¬ (i : Int) < (n : Int) := by omega
            go_wp2_with fail
            refine (rrising_any (HR5.out.kept HBR.out) (by have := HNM.out; omega)).mono ?_
            rintro e w9 ⟨he, hb9⟩
            rw [HRIS.out] at he
            subst he
            have HB9 := Lib.hid (HB5.out.trans ((HBR.out.trans (hb9.mono HBR.out.size)).mono HB5.out.size))
            clear hb9
            go_wp2_with fail
            go_ret
            exact ⟨rfl, HB9.out⟩
end Go.Proofs.Ytpcgjladooijmaa
