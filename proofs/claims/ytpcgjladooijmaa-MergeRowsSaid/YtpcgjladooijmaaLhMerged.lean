/- merge.merged, walked: all rows, in order. -/
import Derived.Test.YtpcgjladooijmaaLhPush
import Derived.Test.YtpcgjladooijmaaLhMg
import Derived.Test.YtpcgjladooijmaaRecRows
namespace Go.Proofs.Ytpcgjladooijmaa
open Go.ChangeShapes Go.WideShapes Go.Deep Go.RowKit LabPlain RecPlain Hp
set_option linter.unusedVariables false

def ls0 : LsV := ⟨none, 0, 0, []⟩
/-- lists of rows in a slice -/
structure ListsAt (w : World) (a : Option Addr) (n c : Nat) (ls : List LsV) : Prop where
  len : ls.length = n
  cap : n ≤ c
  capm : c ≤ 9223372036854775807
  nl : a = none → c = 0
  cells : 0 < n → ∃ b off, a = some ⟨b, off, none⟩ ∧ b < w.heap.size ∧ ∀ i, i < n → w.cell? ⟨b, off + i, none⟩ = some (.slice (ls.getD i ls0).a (ls.getD i ls0).n (ls.getD i ls0).c)
  rows : ∀ x ∈ ls, RowsAt w x.a x.n x.c x.rs
theorem ListsAt.kept {w w' : World} {a : Option Addr} {n c : Nat} {ls : List LsV} (h : ListsAt w a n c ls) (hb : Below w.heap.size w w') : ListsAt w' a n c ls :=
  ⟨h.len, h.cap, h.capm, h.nl, fun hn => by
    obtain ⟨b, off, ha, hlt, hc⟩ := h.cells hn
    exact ⟨b, off, ha, Nat.lt_of_lt_of_le hlt hb.size, fun i hi => (hb.cell (p := ⟨b, off + i, none⟩) hlt).trans (hc i hi)⟩, fun x hx => (h.rows x hx).kept hb⟩
theorem ls_mem {l : List LsV} {i : Nat} (h : i < l.length) : l.getD i ls0 ∈ l := by
  rw [show l.getD i ls0 = l[i] by simp [h]]
  exact List.getElem_mem h
theorem RowsAt.rest {w : World} {b off n c : Nat} {l : List RowV} (h : RowsAt w (some ⟨b, off, none⟩) n c l) (hn : 1 < n) : RowsAt w (some ⟨b, off + 9, none⟩) (n - 1) (c - 1) l.tail := by
  have h1 := h.len
  have h2 := h.cap
  have h3 := h.capm
  obtain ⟨b', off', ha, hlt, hc⟩ := h.cells (by omega)
  cases ha
  refine ⟨by rw [List.length_tail]; omega, by omega, by omega, (fun e => by cases e), fun x hx => h.fits x (List.mem_of_mem_tail hx), fun x hx => h.labs x (List.mem_of_mem_tail hx), fun _ => ⟨b, off + 9, rfl, hlt, fun i hi j u hu => ?_⟩⟩
  have he : l.tail.getD i row0 = l.getD (i + 1) row0 := by
    cases l with
    | nil => rfl
    | cons x r => rfl
  rw [he] at hu
  rw [← hc (i + 1) (by omega) j u hu]
  congr 2
  omega
/-- a row of rows that a call owns, beside a heap -/
theorem own_hp {W w w' : World} {p q m : Nat} {og : Option Nat} {z : Nat → LsV} {base n : Nat} {v : Value} {xs : List Value} (h : w.ownsRow base 51 9 v n xs) (hh : LhO W w p q og m z) (k : HpKept w w' p og) (hp : p < base) : w'.ownsRow base 51 9 v n xs := by
  refine ⟨h.1, ?_⟩
  rcases h.2 with h0 | ⟨g, cap, cur, rfl, hg, hb, r⟩
  · exact .inl h0
  · refine .inr ⟨g, cap, cur, rfl, hg, ?_, r⟩
    rw [k.block g (Array.getElem?_eq_some_iff.1 hb).1 (by omega) (fun e => ?_)]
    · exact hb
    · rcases hh.2 with ⟨h1, _⟩ | ⟨g', c', h1, _, _, h2⟩
      · rw [h1] at e; cases e
      · rw [h1] at e
        cases e
        obtain ⟨cur', hc', _⟩ := h2.bk
        rw [hb] at hc'
        have : 51 = 47 := by
          have := Option.some.inj hc'
          simp only [Obj.cells.injEq] at this
          exact this.2.1
        exact absurd this (by decide)
theorem LhO.beside {W w w' : World} {p q n : Nat} {og : Option Nat} {z : Nat → LsV} {base N : Nat} {v : Value} {xs : List Value} (h : LhO W w p q og n z) (ho : w.ownsRow base 51 9 v N xs) (hg : w.grownBy w' v.ownBlock) (hp : p < base) (hq : q < base) (hB : W.heap.size ≤ base) : LhO W w' p q og n z := by
  have hlt := h.lt.2
  have hown := ho.lt
  have hnp : some p ≠ v.ownBlock := fun e => by have := (hown p e.symm).1; omega
  have hnq : some q ≠ v.ownBlock := fun e => by have := (hown q e.symm).1; omega
  have hbw : Below W.heap.size W w' := h.1.2.1.grown hg h.1.2.1.size (fun k hk => by have := (hown k hk).1; omega)
  obtain ⟨⟨a1, a2, a3, a4, a5, a6⟩, hh⟩ := h
  have a3' : w'.cell? ⟨q, 0, none⟩ = _ := hg.cell a3 hnq
  refine ⟨⟨a1, hbw, a3', a4, a5, a6⟩, ?_⟩
  rcases hh with ⟨h0, h1, h2⟩ | ⟨g, c, h0, h1, h2, h3⟩
  · exact .inl ⟨h0, h1, (hg.block p hlt hnp).trans h2⟩
  · refine .inr ⟨g, c, h0, h1, h2, ?_⟩
    obtain ⟨cur, hc, hs, hv⟩ := h3.bk
    have hng : some g ≠ v.ownBlock := fun e => by
      rcases ho.2 with ⟨rfl, _⟩ | ⟨g', cap, cur', rfl, _, hb, _⟩
      · cases e
      · have : g = g' := Option.some.inj e
        subst this
        rw [hb] at hc
        have : 51 = 47 := by
          have := Option.some.inj hc
          simp only [Obj.cells.injEq] at this
          exact this.2.1
        exact absurd this (by decide)
    exact ⟨(hg.block p hlt hnp).trans h3.hd, ⟨cur, (hg.block g (Array.getElem?_eq_some_iff.1 hc).1 hng).trans hc, hs, hv⟩, h3.nc, h3.ne, h3.ok, hbw, h3.pb, h3.gb, a3', h3.bq.2⟩
def curL (ok : Bool) (x : LsV) : List LsV := if ok then [x] else []
/-- Pop, whatever the heap holds -/
theorem lpop_any {W w : World} {p q m : Nat} {og : Option Nat} {z : Nat → LsV} (h : LhO W w p q og m z) (hz : Ok (ky z) m) (hn : m < 1000000000) :
    Calls Try.prog 79 #[.pointer (some ⟨p, 0, none⟩)] w fun e w' => ∃ ok x n y, e = .returned (.tuple #[.slice x.a x.n x.c, .bool ok]) ∧ LhO W w' p q og n y ∧ Ok (ky y) n ∧ n = m - 1 ∧ (curL ok x ++ Lh.hl n y).Perm (Lh.hl m z) ∧ (ok = true → LsOk W x ∧ ∀ u ∈ Lh.hl n y, x.key ≤ u.key) ∧ (ok = false → n = 0) ∧ HpKept w w' p og := by
  cases m with
  | zero =>
    refine (lpop_empty h).mono ?_
    rintro e w' ⟨rfl, hb⟩
    exact ⟨false, ls0, 0, z, rfl, h.kept hb, hz, rfl, List.Perm.refl _, (fun e => by cases e), fun _ => rfl, HpKept.ofBelow hb p og⟩
  | succ m =>
    refine (lpop_own h hz (by omega)).mono ?_
    rintro e w' ⟨rfl, ⟨y, hy, hok, hp⟩, hk⟩
    have hp2 : (curL true (z 0) ++ Lh.hl m y).Perm (Lh.hl (m + 1) z) := (List.perm_append_comm).trans hp
    refine ⟨true, z 0, m, y, rfl, hy, hok, rfl, hp2, fun _ => ⟨h.1.2.2.2.2.2 0 (by omega), fun u hu => ?_⟩, (fun e => by cases e), hk⟩
    have hu2 : u ∈ Lh.hl (m + 1) z := hp2.mem_iff.1 (List.mem_append_right _ hu)
    obtain ⟨k, hk, rfl⟩ := Lh.hl_mem.1 hu2
    exact hz.least k hk
def lenL : Value → Nat
  | .slice _ n _ => n
  | _ => 0
set_option maxRecDepth 100000 in
set_option maxHeartbeats 8000000 in
theorem merged_any {W : World} {a : Option Addr} {n c : Nat} {ls : List LsV} (h : ListsAt W a n c ls) (hr : ∀ x ∈ ls, rises x.rs = true) (hN : (ls.flatMap LsV.rs).length ≤ 1000) (hn : n ≤ 1000) :
    Calls Try.prog 61 #[.func (.func 35) #[] #[], .slice a n c] W fun e w' => ∃ v out, e = .returned v ∧ w'.ownsRow W.heap.size 51 9 v out.length (rcells out) ∧ out.Perm (ls.flatMap LsV.rs) ∧ out.Pairwise (fun a b => a.rank ≤ b.rank) ∧ Below W.heap.size W w' := by
  obtain ⟨i0, hi, hz0, hz1, hz2⟩ := info_parts row_info
  obtain ⟨q, hq⟩ : ∃ q, q = W.heap.size := ⟨_, rfl⟩
  obtain ⟨w1, hw1⟩ : ∃ w1, w1 = W.alloc (.cells #[.func (.func 35) #[] #[]] 55) := ⟨_, rfl⟩
  have hb1 : Below W.heap.size W w1 := by rw [hw1]; exact (Below.refl _ _).alloc (Nat.le_refl _) _
  have hq1 : w1.cell? ⟨q, 0, none⟩ = some (.func (.func 35) #[] #[]) := by rw [hw1, hq]; exact cell_blk (heap_alloc_new W _) rfl
  have hs1 : w1.heap.size = W.heap.size + 1 := by rw [hw1]; simp
  have hfm : ∀ (fn : Fn) (first cap : Array Value) (w : World), (Instr.makeFunc fn first cap).run Try.prog w = .ok (.func fn first cap) w := fun _ _ _ _ => rfl
  have HH := Lib.hid h
  have HR := Lib.hid hr
  have HNN := Lib.hid hN
  have HL := Lib.hid h.len
  have HW1 := Lib.hid hw1
  have HB1 := Lib.hid hb1
  have HQ1 := Lib.hid hq1
  have HS1 := Lib.hid hs1
  have HQE := Lib.hid hq
  have lcap := h.cap
  have lcm := h.capm
  clear h hr hN hw1 hb1 hq1 hs1 hq
  go_enter Try.func61, Try.ntmps61
  go_wp2_with fail
  rw [← HW1.out, ← HQE.out]
  go_wp2_with fail
  refine (lnew_own HQ1.out).mono ?_
  rintro e w2 ⟨rfl, hw2⟩
  obtain ⟨p, hp⟩ : ∃ p, p = w1.heap.size := ⟨_, rfl⟩
  have hpq : p = W.heap.size + 1 := hp.trans HS1.out
  have hb2 : Below w1.heap.size w1 w2 := by rw [hw2]; exact (Below.refl _ _).alloc (Nat.le_refl _) _
  have hq2 : w2.cell? ⟨q, 0, none⟩ = some (.func (.func 35) #[] #[]) := (hb2.cell (p := ⟨q, 0, none⟩) (World.block_lt_of_cell? w1 _ HQ1.out)).trans HQ1.out
  have hbw2 : Below W.heap.size W w2 := HB1.out.trans (hb2.mono HB1.out.size)
  have hs2 : w2.heap.size = p + 1 := by rw [hw2, hp]; simp
  have HP2 := Lib.hid (show LhO W w2 p q none 0 (fun _ => ls0) from ⟨⟨by omega, hbw2, hq2, by have := HQE.out; omega, (fun e => by cases e), fun k hk => by omega⟩, .inl ⟨rfl, rfl, by rw [hw2, hp]; exact heap_alloc_new w1 _⟩⟩)
  have HB2 := Lib.hid hbw2
  have HPE := Lib.hid (And.intro hpq HQE.out)
  have HS2 := Lib.hid hs2
  rw [← hp]
  clear hw2 hb2 hq2 hbw2 hs2 hp hpq HQ1 HB1 HW1 HS1 HQE
  go_wp2_with fail
  go_loopw [7, 15] (fun s7 s15 wr => ∃ (k : Nat) (og : Option Nat) (m : Nat) (z : Nat → LsV), s15 = .int .i64 (k : Int) ∧ k ≤ n ∧ m ≤ k ∧ Hid (LhO W wr p q og m z) ∧ Hid (Ok (ky z) m) ∧ Hid (((Lh.hl m z).flatMap LsV.rs).Perm ((ls.take k).flatMap LsV.rs)) ∧ Hid (∀ x ∈ Lh.hl m z, x.rs ≠ [] ∧ rises x.rs = true) ∧ Hid (w2.heap.size ≤ wr.heap.size)) (fun _ s15 _ => n - (intOf s15).toNat)
  case atStart => exact ⟨0, none, 0, fun _ => ls0, rfl, by omega, by omega, HP2, Lib.hid (fun k h0 h1 => by omega), Lib.hid (List.Perm.refl _), Lib.hid (fun x hx => by simp [Lh.hl] at hx), Lib.hid (Nat.le_refl _)⟩
  case round =>
    clear HP2
    obtain ⟨k, og, m, z, rfl, hk, hmk, HP, HO, HF, HX, HB⟩ := hrel
    rename World => wr
    have HBW := Lib.hid HP.out.1.2.1
    by_cases hkn : k < n
    case pos =>
      have hki : (k : Int) < (n : Int) := by omega
      have hk00 : (0 : Int) ≤ (k : Int) := by omega
      have wk : IntKind.i64.wrap ((k : Int) + 1) = (k : Int) + 1 := IntWalk.i64_in _ (by omega)
      obtain ⟨lb, loff, rfl, hlt, hcell⟩ := (HH.out.kept HBW.out).cells (by omega)
      have hc := hcell k hkn
      obtain ⟨x, hx⟩ : ∃ x, x = ls.getD k ls0 := ⟨_, rfl⟩
      rw [← hx] at hc
      have hxm : x ∈ ls := by rw [hx]; exact ls_mem (by have := HL.out; omega)
      have hxr := HH.out.rows x hxm
      have HTK := Lib.hid (show (ls.take (k + 1)).flatMap LsV.rs = (ls.take k).flatMap LsV.rs ++ x.rs from by
        have hkl : k < ls.length := by have := HL.out; omega
        rw [List.take_add_one, List.flatMap_append, show ls[k]?.toList = [x] from by rw [hx, List.getElem?_eq_getElem hkl]; simp [hkl]]
        simp)
      obtain ⟨xa, xn, xc, xr⟩ := x
      simp only at hc hxr
      by_cases hx0 : 0 < xn
      case pos =>
        have zx : (0 : Int) < (xn : Int) := by omega
        have HXO := Lib.hid (show LsOk W ⟨xa, xn, xc, xr⟩ from ⟨hxr, hx0⟩)
        have HXR := Lib.hid (HR.out _ hxm)
        have hxne : xr ≠ [] := fun e => by have := hxr.len; rw [e] at this; simp at this; omega
        clear hcell hx hxr hxm
        go_wp2_with fail
        refine (lpush_own HXO.out HP.out HO.out (by omega)).mono ?_
        rintro e w5 ⟨rfl, ⟨og5, y5, hp5, hok5, hpm5, hog5⟩, hk5⟩
        have HP5 := Lib.hid hp5
        have HO5 := Lib.hid hok5
        have HB5 := Lib.hid (Nat.le_trans HB.out hk5.size)
        have HF5 := Lib.hid (show ((Lh.hl (m + 1) y5).flatMap LsV.rs).Perm ((ls.take (k + 1)).flatMap LsV.rs) from by
          rw [HTK.out]
          refine (hpm5.flatMap_right _).trans ?_
          rw [List.flatMap_append]
          refine (HF.out.append_right _).trans ?_
          simp)
        have HX5 := Lib.hid (show ∀ u ∈ Lh.hl (m + 1) y5, u.rs ≠ [] ∧ rises u.rs = true from fun u hu => by
          rcases List.mem_append.1 (hpm5.mem_iff.1 hu) with e | e
          · exact HX.out u e
          · rw [List.mem_singleton.1 e]; exact ⟨hxne, HXR.out⟩)
        clear hp5 hok5 hpm5 hog5 hk5
        go_wp2_with fail
        go_roundw
        case rel => exact ⟨k + 1, og5, m + 1, y5, by go_num, by omega, by omega, HP5, HO5, HF5, HX5, HB5⟩
        case measure => simp [intOf]; omega
      case neg =>
        obtain rfl : xn = 0 := by omega
        have hxe : xr = [] := List.eq_nil_of_length_eq_zero hxr.len
        have HF5 := Lib.hid (show ((Lh.hl m z).flatMap LsV.rs).Perm ((ls.take (k + 1)).flatMap LsV.rs) from by
          rw [HTK.out]
          show List.Perm _ ((ls.take k).flatMap LsV.rs ++ xr)
          rw [hxe, List.append_nil]; exact HF.out)
        clear hcell hx hxr hxm hxe
        go_wp2_with fail
        go_roundw
        case rel => exact ⟨k + 1, og, m, z, by go_num, by omega, by omega, HP, HO, HF5, HX, HB⟩
        case measure => simp [intOf]; omega
    case neg =>
      have hki : ¬ (k : Int) < (n : Int) := by omega
      obtain rfl : k = n := by omega
      have HMG := Lib.hid (show Mg (ls.flatMap LsV.rs) [] (Lh.hl m z) from ⟨by
        have := HF.out
        rw [List.take_of_length_le (by have := HL.out; omega)] at this
        simpa using this, List.Pairwise.nil, (fun o ho => by cases ho), fun u hu => ⟨(HX.out u hu).1, rises_pw (by
          obtain ⟨j, hj, rfl⟩ := Lh.hl_mem.1 hu
          exact (HP.out.1.2.2.2.2.2 j hj).at'.fits) (HX.out u hu).2⟩⟩)
      clear HF HX
      go_wp2_with fail
      refine (lpop_any HP.out HO.out (by omega)).mono ?_
      rintro e w5 ⟨ok5, x5, m5, z5, rfl, hp5, ho5, hm5, hpm5, hx5, hn5, hk5⟩
      have HP5 := Lib.hid hp5
      have HO5 := Lib.hid ho5
      have HX5 := Lib.hid hx5
      have HN5 := Lib.hid hn5
      have HMG5 := Lib.hid (HMG.out.turn hpm5)
      have HB5 := Lib.hid (Nat.le_trans HB.out hk5.size)
      clear hp5 ho5 hx5 hn5 hpm5 hk5 HP HO HMG HB HBW
      go_wp2_with fail
      go_loopw [8, 9, 10] (fun s8 s9 s10 wr => ∃ (ok : Bool) (x : LsV) (og : Option Nat) (m : Nat) (z : Nat → LsV) (out : List RowV) (N : Nat), s9 = .slice x.a x.n x.c ∧ s10 = .bool ok ∧ m ≤ k ∧ lenL s8 = N ∧ Hid (wr.ownsRow w2.heap.size 51 9 s8 N (rcells out)) ∧ Hid (out.length = N) ∧ Hid (LhO W wr p q og m z) ∧ Hid (Ok (ky z) m) ∧ Hid (Mg (ls.flatMap LsV.rs) out (curL ok x ++ Lh.hl m z)) ∧ Hid (ok = true → LsOk W x ∧ ∀ u ∈ Lh.hl m z, x.key ≤ u.key) ∧ Hid (ok = false → m = 0) ∧ Hid (w2.heap.size ≤ wr.heap.size)) (fun s8 _ _ _ => (ls.flatMap LsV.rs).length - lenL s8)
      case atStart => exact ⟨ok5, x5, og, m5, z5, [], 0, rfl, rfl, by omega, rfl, Lib.hid (World.ownsRow_nil _ _ _ _), Lib.hid rfl, HP5, HO5, HMG5, HX5, HN5, HB5⟩
      case round =>
        clear HP5 HO5 HX5 HN5 HMG5 HB5
        obtain ⟨ok, x, og, m, z, out, N, rfl, rfl, hmk, hlen, HOW, HOL, HP, HO, HM, HX, HN, HSZ⟩ := hrel
        rename World => wr
        have HBW := Lib.hid HP.out.1.2.1
        cases ok with
        | false =>
          have hm0 := HN.out rfl
          subst hm0
          have HE := Lib.hid (show out.Perm (ls.flatMap LsV.rs) by
            have := HM.out.perm
            simpa [curL, Lh.hl] using this)
          have HSR := Lib.hid HM.out.srt
          have HOWN := Lib.hid (HOW.out.mono (show W.heap.size ≤ w2.heap.size by have := HS2.out; have := HPE.out.1; omega))
          rw [← HOL.out] at HOWN
          go_wp2_with fail
          go_ret
          exact ⟨_, rfl, out, HOWN.out, HE.out, HSR.out, HBW.out⟩
        | true =>
          obtain ⟨hxo, hxk⟩ := HX.out rfl
          have HM1 := Lib.hid (show Mg (ls.flatMap LsV.rs) out (x :: Lh.hl m z) from HM.out)
          obtain ⟨r, t, hrt⟩ : ∃ r t, x.rs = r :: t := by
            have h1 := hxo.at'.len
            have h2 := hxo.pos
            cases hx : x.rs with
            | nil => rw [hx] at h1; simp at h1; omega
            | cons r t => exact ⟨r, t, rfl⟩
          have hNlt : N < (ls.flatMap LsV.rs).length := by
            have h1 := HM1.out.perm.length_eq
            rw [List.flatMap_cons, hrt] at h1
            have h2 := HOL.out
            simp only [List.length_append, List.length_cons] at h1
            omega
          have hN1000 : N < 1000 := Nat.lt_of_lt_of_le hNlt HNN.out
          have hwx := (hxo.keep HBW.out).at'
          obtain ⟨b, off, hxa, hxb, hcell⟩ := hwx.cells hxo.pos
          have hr0 : r = x.rs.getD 0 row0 := by rw [hrt]; rfl
          obtain ⟨d0, d1, d2, d3, d4, d5, d6, d7, d8⟩ := RowsAt.nine hcell hxo.pos hr0
          simp only [Nat.zero_mul, Nat.add_zero] at d0 d1 d2 d3 d4 d5 d6 d7 d8
          obtain ⟨xa, xn, xc, xr⟩ := x
          simp only at hxa hrt hxo hxk hwx hcell hr0
          subst hxa
          have hx0 : 0 < xn := hxo.pos
          have HRT := Lib.hid hrt
          have HXO := Lib.hid hxo
          have HXK := Lib.hid hxk
          have HO2 := Lib.hid (HOW.out.alloc (.cells #[.int .i64 r.r.kind, .int .i64 r.r.time, .slice r.r.la r.r.ln r.r.lc, .string r.r.text, .int .i64 r.r.value, .bool r.r.null, .int .i64 r.who, .int .i64 r.sq, .int .i64 r.pl] 51))
          have HP2 := Lib.hid (HP.out.kept ((Below.refl _ _).alloc (Nat.le_refl _) (.cells #[.int .i64 r.r.kind, .int .i64 r.r.time, .slice r.r.la r.r.ln r.r.lc, .string r.r.text, .int .i64 r.r.value, .bool r.r.null, .int .i64 r.who, .int .i64 r.sq, .int .i64 r.pl] 51)))
          have HSRC := Lib.hid (row_src wr r 51)
          have hsz2 : w2.heap.size ≤ (wr.alloc (.cells #[.int .i64 r.r.kind, .int .i64 r.r.time, .slice r.r.la r.r.ln r.r.lc, .string r.r.text, .int .i64 r.r.value, .bool r.r.null, .int .i64 r.who, .int .i64 r.sq, .int .i64 r.pl] 51)).heap.size := by have := HSZ.out; simp; omega
          have HSZ2 := Lib.hid hsz2
          clear hcell hr0 hrt hxo hxk hwx hsz2 HM HX HN
          go_wp2_with (at_builtin; refine wpList_append_own_at _ rfl (.tmp 37) (.tmp 41) 47 rfl w2.heap.size 51 i0 _ 9 96 Try.underlying47 hi hz0 hz1 hz2 rfl (by decide) _ _ _ rfl HO2.out ⟨wr.heap.size, 0, none⟩ 1 1 r.cells rfl rfl HSRC.out (rcells_one _) (by unfold maxLen; omega) (by omega) HSZ2.out ?_)
          intro v5 w5 ho5 hg5 _ _
          obtain ⟨g5, c5, rfl⟩ := own_some2 ho5 (by omega)
          have HOW5 := Lib.hid (show w5.ownsRow w2.heap.size 51 9 (.slice (some ⟨g5, 0, none⟩) (N + 1) c5) (N + 1) (rcells (out ++ [r])) by rw [rcells_snoc]; exact ho5)
          have HP5 := Lib.hid (HP2.out.beside HO2.out hg5 (by have := HS2.out; omega) (by have := HS2.out; have := HPE.out; omega) (by have := HS2.out; have := HPE.out; omega))
          have HOL5 := Lib.hid (show (out ++ [r]).length = N + 1 by rw [List.length_append, HOL.out]; rfl)
          have HSZ5 := Lib.hid (Nat.le_trans HSZ2.out hg5.size)
          clear ho5 hg5
          by_cases hx1 : 1 < xn
          case neg =>
            obtain rfl : xn = 1 := by omega
            have HM5 := Lib.hid (HM1.out.last HXK.out (r := r) (by
              have h1 := HXO.out.at'.len
              simp only at h1
              rw [HRT.out] at h1
              have : t = [] := List.eq_nil_of_length_eq_zero (by simpa using h1)
              show xr = [r]
              rw [HRT.out, this]))
            go_wp2_with fail
            refine (lpop_any HP5.out HO.out (by omega)).mono ?_
            rintro e w6 ⟨ok6, x6, m6, z6, rfl, hp6, ho6, hm6, hpm6, hx6, hn6, hk6⟩
            have HP6 := Lib.hid hp6
            have HO6 := Lib.hid ho6
            have HX6 := Lib.hid hx6
            have HN6 := Lib.hid hn6
            have HM6 := Lib.hid (HM5.out.turn hpm6)
            have HOW6 := Lib.hid (own_hp HOW5.out HP5.out hk6 (by have := HS2.out; omega))
            have HSZ6 := Lib.hid (Nat.le_trans HSZ5.out hk6.size)
            clear hp6 ho6 hx6 hn6 hpm6 hk6
            go_wp2_with fail
            go_roundw
            case rel => exact ⟨ok6, x6, og, m6, z6, out ++ [r], N + 1, rfl, rfl, by omega, rfl, HOW6, HOL5, HP6, HO6, HM6, HX6, HN6, HSZ6⟩
            case measure => simp only [hlen]; simp only [lenL]; omega
          case pos =>
            have HXT := Lib.hid (show LsOk W ⟨some ⟨b, off + 9, none⟩, xn - 1, xc - 1, xr.tail⟩ from ⟨HXO.out.at'.rest hx1, by show 0 < xn - 1; omega⟩)
            have HM5 := Lib.hid (HM1.out.step (x' := ⟨some ⟨b, off + 9, none⟩, xn - 1, xc - 1, xr.tail⟩) HXK.out HRT.out (show xr.tail = t by rw [show xr = r :: t from HRT.out]; rfl) (fun e => by
              have h1 := HXO.out.at'.len
              simp only at h1
              rw [show xr = r :: t from HRT.out, e] at h1
              simp at h1
              omega))
            have hxc := HXO.out.at'.cap
            simp only at hxc
            have zc1 : ¬ xc = 1 := by omega
            have zn1 : (1 : Int) < (xn : Int) := by omega
            have zn2 : (1 : Int) ≤ (xn : Int) := by omega
            have zn3 : 1 ≤ xn := by omega
            go_wp2_with fail
            refine (lpush_own HXT.out HP5.out HO.out (by omega)).mono ?_
            rintro e w6 ⟨rfl, ⟨og6, y6, hp6, hok6, hpm6, hog6⟩, hk6⟩
            have HP6 := Lib.hid hp6
            have HO6 := Lib.hid hok6
            have HM6 := Lib.hid (HM5.out.turn (hpm6.trans (List.perm_append_comm (l₂ := [_]))))
            have HOW6 := Lib.hid (own_hp HOW5.out HP5.out hk6 (by have := HS2.out; omega))
            have HSZ6 := Lib.hid (Nat.le_trans HSZ5.out hk6.size)
            clear hp6 hok6 hpm6 hk6 hog6
            go_wp2_with fail
            refine (lpop_any HP6.out HO6.out (by omega)).mono ?_
            rintro e w7 ⟨ok7, x7, m7, z7, rfl, hp7, ho7, hm7, hpm7, hx7, hn7, hk7⟩
            have HP7 := Lib.hid hp7
            have HO7 := Lib.hid ho7
            have HX7 := Lib.hid hx7
            have HN7 := Lib.hid hn7
            have HM7 := Lib.hid (HM6.out.turn hpm7)
            have HOW7 := Lib.hid (own_hp HOW6.out HP6.out hk7 (by have := HS2.out; omega))
            have HSZ7 := Lib.hid (Nat.le_trans HSZ6.out hk7.size)
            have hm7k : m7 ≤ k := by omega
            clear hp7 ho7 hx7 hn7 hpm7 hk7
            go_wp2_with fail
            go_roundw
            case rel => exact ⟨ok7, x7, og6, m7, z7, out ++ [r], N + 1, rfl, rfl, hm7k, rfl, HOW7, HOL5, HP7, HO7, HM7, HX7, HN7, HSZ7⟩
            case measure => simp only [hlen]; simp only [lenL]; omega
end Go.Proofs.Ytpcgjladooijmaa
