/- A bay's Drain, walked; things as the program has them (keyed). -/
import Derived.Test.YtpcohkhdbjimgaaByC
import Derived.Test.YtpcohkhdbjimgaaByKeys
namespace Go.Proofs.Ytpcohkhdbjimgaa
open Go.RowKit Go.Conc
set_option linter.unusedVariables false

set_option maxRecDepth 100000 in
set_option maxHeartbeats 1000000 in
theorem drain_own {w : World} {B C room : Nat} {xs : List Int} (h : BoxAt w B C room xs) (hl : xs.length ≤ 2048) :
    Calls Try.prog 13 #[.pointer (some ⟨B, 0, none⟩)] w fun e w' => ∃ a c, e = .returned (.slice a xs.length c) ∧ w'.ownsRow w.heap.size 3 1 (.slice a xs.length c) xs.length (iv xs) ∧ BoxAt w' B C room [] ∧ w.grownBy w' (some C) := by
  obtain ⟨i0, hi, hz0, hz1, hz2⟩ := info_parts int_info
  have HX := Lib.hid h
  have HLT := Lib.hid (And.intro h.ltB h.ltC)
  clear h
  go_enter Try.func13, Try.ntmps13
  go_wp2_with fail
  refine (take_any HX.out).mono ?_
  rintro e w1 ⟨rfl, hx1, hg1⟩
  have HX1 := Lib.hid hx1
  have HG1 := Lib.hid hg1
  have HO1 := Lib.hid (World.ownsRow_nil w1 w.heap.size 3 1)
  clear hx1 hg1
  go_wp2_with fail
  go_loopw [3, 4, 5] (fun s3 s4 s5 wr => ∃ (done pend : List Int) (m cp : Nat) (a : Option Addr), s3 = .slice a m cp ∧ s4 = .int .i64 (pend.getD 0 0) ∧ s5 = .bool (decide (0 < pend.length)) ∧ Hid (done.length = m) ∧ Hid (xs = done ++ pend) ∧ Hid (BoxAt wr B C room pend.tail) ∧ Hid (wr.ownsRow w.heap.size 3 1 (.slice a m cp) m (iv done)) ∧ Hid (w.grownBy wr (some C))) (fun s3 _ _ _ => xs.length - lenOf s3)
  case atStart => exact ⟨[], xs, 0, 0, none, rfl, rfl, rfl, Lib.hid rfl, Lib.hid rfl, HX1, HO1, HG1⟩
  case round =>
    clear HX1 HO1 HG1
    obtain ⟨done, pend, m, cp, a, rfl, rfl, rfl, HM, HP, HXR, HO, HG⟩ := hrel
    rename World => wr
    have hsz := HG.out.size
    cases pend with
    | nil =>
      rw [show decide (0 < ([] : List Int).length) = false from by simp]
      have HPD := Lib.hid (show done = xs by have := HP.out; simpa using this.symm)
      have hml : m = xs.length := by rw [← HM.out, HPD.out]
      subst hml
      go_wp2_with fail
      go_ret
      refine ⟨_, _, rfl, ?_, HXR.out, HG.out⟩
      have := HO.out
      rw [HPD.out] at this
      exact this
    | cons x r =>
      rw [show decide (0 < (x :: r).length) = true from by simp, show (x :: r).getD 0 0 = x from rfl]
      have hdl : m + 1 + r.length = xs.length := by have := congrArg List.length HP.out; rw [List.length_append, List.length_cons, HM.out] at this; omega
      have HXA := Lib.hid (show BoxAt (wr.alloc (.cells #[.int .i64 x] 3)) B C room r from HXR.out.kept ((Below.refl _ _).alloc (Nat.le_refl _) _))
      have HOA := Lib.hid (HO.out.alloc (.cells #[.int .i64 x] 3))
      have HGA := Lib.hid (grown_below HG.out ((Below.refl _ _).alloc (Nat.le_refl _) (.cells #[.int .i64 x] 3)))
      go_wp2_with (at_builtin; refine wpList_append_own_at _ rfl (.tmp 17) (.tmp 19) 30 rfl w.heap.size 3 i0 (.int .i64 0) 1 8 Try.underlying30 hi hz0 hz1 hz2 rfl (by decide) _ _ _ rfl HOA.out ⟨wr.heap.size, 0, none⟩ 1 1 [.int .i64 x] rfl rfl (one_src _ _ _) (iv_one [x]) (by unfold maxLen; omega) (by omega) (by simp; omega) ?_)
      intro v5 w5 ho5 hg5 _ _
      obtain ⟨g5, c5, rfl⟩ := own_some2 ho5 (by omega)
      have hrow : ∀ g, (Value.slice a m cp).ownBlock = some g → w.heap.size ≤ g := fun g hg => (HOA.out.lt g hg).1
      have hltB := HLT.out.1
      have hltC := HLT.out.2
      have HX5 := Lib.hid (HXA.out.grown' hg5 (fun e => by have := hrow B e; omega) (fun e => by have := hrow C e; omega))
      have HG5 := Lib.hid (grown_over HGA.out hg5 (fun g e => .inl (hrow g e)))
      have HO5 := Lib.hid (show w5.ownsRow w.heap.size 3 1 (.slice (some ⟨g5, 0, none⟩) (m + 1) c5) (m + 1) (iv (done ++ [x])) by rw [iv_append]; exact ho5)
      clear ho5 hg5 hrow
      go_wp2_with fail
      refine (take_any HX5.out).mono ?_
      rintro e w6 ⟨rfl, hx6, hg6⟩
      have HX6 := Lib.hid hx6
      have HG6 := Lib.hid (grown_over HG5.out hg6 (fun g e => .inr e))
      have HO6 := Lib.hid (HO5.out.kept hg6 (.inr (fun e => by have := (HO5.out.lt g5 rfl).1; simp [Value.ownBlock] at e; omega)))
      clear hx6 hg6
      go_wp2_with fail
      go_roundw
      case rel => exact ⟨done ++ [x], r, m + 1, c5, _, rfl, rfl, rfl, Lib.hid (by rw [List.length_append, HM.out]; rfl), Lib.hid (by rw [HP.out]; simp), HX6, HO6, HG6⟩
      case measure => simp [lenOf] <;> omega
theorem own_ne2 {w : World} {base base' : Nat} {e e' : TypeId} {size size' : Nat} {v v' : Value} {n n' : Nat} {xs xs' : List Value} (h : w.ownsRow base e size v n xs) (h' : w.ownsRow base' e' size' v' n' xs') (hne : e ≠ e') : v.ownBlock = none ∨ v.ownBlock ≠ v'.ownBlock := by
  rcases h.2 with ⟨rfl, _⟩ | ⟨g, cap, cur, rfl, _, hg, _⟩
  · exact .inl rfl
  · rcases h'.2 with ⟨rfl, _⟩ | ⟨g', cap', cur', rfl, _, hg', _⟩
    · exact .inr (by simp [Value.ownBlock])
    · refine .inr fun e1 => ?_
      simp [Value.ownBlock] at e1
      subst e1
      rw [hg] at hg'
      simp at hg'
      exact hne hg'.2

theorem own_neB {w : World} {base n k : Nat} {e : TypeId} {v : Value} {xs : List Value} (h : w.ownsRow base e k v n xs) {b : Nat} {cs : Array Value} {t : TypeId} {fr : Nat × Nat} (hb : w.heap[b]? = some (.cells cs t fr)) (hne : t ≠ e) : v.ownBlock ≠ some b := by
  intro g
  rcases h.2 with ⟨rfl, _⟩ | ⟨g', cap, cur, rfl, _, hg, _⟩
  · cases g
  · simp [Value.ownBlock] at g
    subst g
    rw [hb] at hg
    cases hg; exact hne rfl
theorem own_neO {w : World} {base n k : Nat} {e : TypeId} {v : Value} {xs : List Value} (h : w.ownsRow base e k v n xs) {b : Nat} {o : Obj} (hb : w.heap[b]? = some o) (hne : ∀ cs t fr, o ≠ .cells cs t fr) : v.ownBlock ≠ some b := by
  intro g
  rcases h.2 with ⟨rfl, _⟩ | ⟨g', cap, cur, rfl, _, hg, _⟩
  · cases g
  · simp [Value.ownBlock] at g
    subst g
    rw [hb] at hg
    cases hg; exact hne _ _ _ rfl
theorem BayAt.grow {w w' : World} {Y M room : Nat} {l : List (ByteArray × BoxV)} (h : BayAt w Y M room l) {base n k : Nat} {e : TypeId} {v : Value} {xs : List Value} (ho : w.ownsRow base e k v n xs) (h1 : 67 ≠ e) (h2 : 64 ≠ e) (hg : w.grownBy w' v.ownBlock) : BayAt w' Y M room l := by
  refine h.same (fun b hb => hg.block b (h.lt hb) fun g => ?_) (fun p hp => hg.block _ (h.box p hp).ltB fun g => own_neB ho (h.box p hp).blk h2 g.symm)
  rcases hb with e1 | e1 | ⟨p, hp, e1⟩
  · rw [e1] at g; exact own_neB ho h.blk h1 g.symm
  · obtain ⟨es, c, hm⟩ := gm_obj h.map
    rw [e1] at g; exact own_neO ho hm (fun _ _ _ e => by cases e) g.symm
  · obtain ⟨s, r, hc⟩ := (h.box p hp).ch
    rw [e1] at g; exact own_neO ho hc (fun _ _ _ e => by cases e) g.symm
theorem Frm.own {F : Nat → Prop} {a b c : World} (h : Frm F a b) {base n k : Nat} {e : TypeId} {v : Value} {xs : List Value} (ho : b.ownsRow base e k v n xs) (hb : a.heap.size ≤ base) (hg : b.grownBy c v.ownBlock) : Frm F a c :=
  ⟨hg.os.trans h.os, hg.tape.trans h.tape, hg.output.trans h.output, Nat.le_trans h.size hg.size, fun i hi hf => (hg.block i (Nat.lt_of_lt_of_le hi h.size) (fun e => by
    have := (ho.lt i e.symm).1
    omega)).trans (h.block i hi hf)⟩
theorem GM.clear2 {κ α : Type} {lit : κ → Lit} {f : α → Value} {l : List (κ × α)} {T : MTy} {w : World} {M : Nat} (h : GM T lit f w M l) :
    ∃ w', (∀ ty, (Builtin.clear_ #[T.t] ty #[.map (some M)]).run Try.prog w = .ok (.tuple #[]) w') ∧ GM T lit f w' M [] ∧ w.mapTurned w' M := by
  obtain ⟨w', h1, h2, h3⟩ := h.clear 0
  refine ⟨w', fun ty => ?_, h2, h3⟩
  rw [← h1]
  rfl
def kz (k : ByteArray) (xs : List Int) : List (ByteArray × Int) := xs.map fun z => (k, z)
theorem kz_snoc (k : ByteArray) (xs : List Int) (z : Int) : kz k (xs ++ [z]) = kz k xs ++ [(k, z)] := by unfold kz; rw [List.map_append]; rfl
theorem kz_len (k : ByteArray) (xs : List Int) : (kz k xs).length = xs.length := by unfold kz; rw [List.length_map]
def drainL (l : List (ByteArray × BoxV)) : List (ByteArray × Int) := l.flatMap fun p => kz p.1 p.2.xs
theorem drainL_succ {l : List (ByteArray × BoxV)} {i : Nat} {p : ByteArray × BoxV} (h : l[i]? = some p) : drainL (l.take (i + 1)) = drainL (l.take i) ++ kz p.1 p.2.xs := by
  unfold drainL
  rw [List.take_add_one, h, Option.toList_some, List.flatMap_append, List.flatMap_cons, List.flatMap_nil, List.append_nil]
theorem drainL_le {l : List (ByteArray × BoxV)} (i : Nat) : (drainL (l.take i)).length ≤ (drainL l).length := by
  have h1 : drainL l = drainL (l.take i) ++ drainL (l.drop i) := by
    unfold drainL
    rw [← List.flatMap_append, List.take_append_drop]
  rw [h1, List.length_append]
  omega
theorem info_kd : (Try.prog.info? 47).map (fun i => (i.zero, i.size, i.bytes)) = some (some (.agg #[.string ByteArray.empty, .int .i64 0]), 2, 24) := by kernel_rfl
def DrnP (w : World) (Y M room : Nat) (l : List (ByteArray × BoxV)) (e : Ending) (w' : World) : Prop :=
  ∃ a c N, e = .returned (.slice a N c) ∧ w'.ownsRow w.heap.size 47 2 (.slice a N c) N (KdS.flat (drainL l)) ∧ N = (drainL l).length ∧ BayAt w' Y M room [] ∧ Frm (BayF Y M l) w w'
set_option maxRecDepth 100000 in
set_option maxHeartbeats 16000000 in
theorem bdrain_any {w : World} {Y M room : Nat} {l : List (ByteArray × BoxV)} (h : BayAt w Y M room l) (hlk : ∀ p ∈ l, p.1.size ≤ 1000000000000000) (hr : room ≤ 2048) (hll : l.length ≤ 100000) (hdr : (drainL l).length ≤ 1000000) :
    Calls Try.prog 22 #[.pointer (some ⟨Y, 0, none⟩)] w (DrnP w Y M room l) := by
  have HH := Lib.hid h
  have HLK := Lib.hid hlk
  have HAP := Lib.hid h.map.apart
  have hYlt := h.lt (.inl rfl)
  have y1 := cell_blk2 h.blk (i := 1) (u := .map (some M)) rfl
  have H1 := Lib.hid (keysB_any (some M) w)
  have H2 := Lib.hid (sortedB_any h.map hll)
  clear h hlk
  go_enter Try.func22, Try.ntmps22
  go_wp2_with fail
  refine H1.out.mono ?_
  rintro e w1 ⟨rfl, rfl⟩
  go_wp2_with fail
  refine H2.out.mono ?_
  rintro e W2 ⟨v, rfl, hrow, hb2'⟩
  rw [kys_flat] at hrow
  have hb2 : Below w.heap.size w W2 := ((Below.refl _ _).alloc (Nat.le_refl _) _).trans (hb2'.mono (Nat.le_succ _))
  obtain ⟨N, hN⟩ : ∃ N, N = l.length := ⟨_, rfl⟩
  rw [← hN] at hrow
  have HNN := Lib.hid hN
  have hN1 : N ≤ 100000 := by rw [hN]; exact hll
  have hcur : ∀ g, v.ownBlock = some g → w.heap.size ≤ g ∧ ∃ cur, W2.heap[g]? = some (.cells cur 9 (0, 0)) := by
    intro g hg
    rcases hrow.2 with ⟨rfl, hz⟩ | ⟨g', cap, cu, rfl, hbg, hh, _⟩
    · cases hg
    · cases hg; exact ⟨Nat.le_trans (Nat.le_succ _) hbg, _, hh⟩
  obtain ⟨a, c, rfl, hget⟩ := row_get (S := KeyS) (l := l.map (·.1)) hrow (by rw [List.length_map, hN]) (fun _ _ => trivial)
  have HCUR := Lib.hid hcur
  have HGET := Lib.hid hget
  have HY2 := Lib.hid (HH.out.below hb2)
  have HF2 := Lib.hid (Frm.ofBelow (F := BayF Y M l) hb2)
  have HO2 := Lib.hid (World.ownsRow_nil W2 w.heap.size 47 2)
  clear hrow hb2' hcur hget hN H1 H2 y1 hb2
  go_wp2_with fail
  go_loopw [3, 17] (fun s3 s17 wr => ∃ (i on oc : Nat) (oa : Option Addr) (li : List (ByteArray × BoxV)), i ≤ N ∧ s17 = .int .i64 i ∧ s3 = .slice oa on oc ∧ Hid (on = (drainL (l.take i)).length) ∧ Hid (wr.ownsRow w.heap.size 47 2 (.slice oa on oc) on (KdS.flat (drainL (l.take i)))) ∧ Hid (BayAt wr Y M room li) ∧ Hid (∀ j p, i ≤ j → l[j]? = some p → p ∈ li) ∧ Hid (∀ b, BayF Y M li b → BayF Y M l b) ∧ Hid (Frm (BayF Y M l) w wr) ∧ Hid (∀ g, a = some ⟨g, 0, none⟩ → wr.heap[g]? = W2.heap[g]?)) (fun _ s17 _ => N - (intOf s17).toNat)
  case atStart => exact ⟨0, 0, 0, none, l, by omega, rfl, rfl, Lib.hid rfl, HO2, HY2, Lib.hid (fun j p _ hp => List.mem_of_getElem? hp), Lib.hid (fun b hb => hb), HF2, Lib.hid (fun _ _ => rfl)⟩
  case round =>
    clear HO2 HY2 HF2
    obtain ⟨i, on, oc, oa, li, hiN, rfl, rfl, HON, HO, HY, HMM, HSB, HF, HEQ⟩ := hrel
    rename World => wr
    have honl : on ≤ 1000000 := by rw [HON.out]; exact Nat.le_trans (drainL_le i) hdr
    by_cases hk2 : i < N
    · obtain ⟨p, hpi⟩ : ∃ p, l[i]? = some p := ⟨_, List.getElem?_eq_getElem (by rw [← HNN.out]; exact hk2)⟩
      have hpm : p ∈ l := List.mem_of_getElem? hpi
      obtain ⟨g, ha, hgb, hgl, hcell⟩ := HGET.out i hk2
      obtain ⟨k, hkk⟩ : ∃ k, k = p.1 := ⟨_, rfl⟩
      obtain ⟨bb, hbb⟩ : ∃ bb, bb = p.2 := ⟨_, rfl⟩
      have hc1 := hcell 0 (.string k) (by rw [List.getD_eq_getElem?_getD, List.getElem?_map, hpi, hkk]; rfl)
      rw [show i * KeyS.K + 0 = i from Nat.mul_one i] at hc1
      have hck : wr.cell? ⟨g, i, none⟩ = some (.string k) := by
        rw [← hc1]
        unfold World.cell?
        simp only [HEQ.out g ha]
      have hks : k.size ≤ 1000000000000000 := by rw [hkk]; exact HLK.out p hpm
      have hpl := HMM.out i p (Nat.le_refl _) hpi
      have hgk : getK slit k li = some bb := by rw [hkk, hbb]; exact get_of_mem litS HY.out.map.apart hpl
      have hlB : (Instr.lookup 65 (.map (some M)) (.string k) false).run Try.prog wr = .ok (.pointer (some ⟨bb.B, 0, none⟩)) wr := by
        have := lookB HY.out.map k hks
        rwa [hgk] at this
      have hbx := HY.out.box (k, bb) (get_mem slit_inj hgk)
      have hfit := HY.out.fit (k, bb) (get_mem slit_inj hgk)
      simp only at hbx hfit
      have HDR := Lib.hid (drain_own hbx (by omega))
      have y1 := cell_blk2 HY.out.blk (i := 1) (u := .map (some M)) rfl
      have HGK := Lib.hid hgk
      have HPI := Lib.hid hpi
      have HKB := Lib.hid (show k = p.1 ∧ bb = p.2 from ⟨hkk, hbb⟩)
      have HBX := Lib.hid hbx
      have hCl : bb.C < w.heap.size := HH.out.lt (HSB.out bb.C (.inr (.inr ⟨(k, bb), get_mem slit_inj hgk, rfl⟩)))
      have hCF := Lib.hid (HSB.out bb.C (.inr (.inr ⟨(k, bb), get_mem slit_inj hgk, rfl⟩)))
      have zi : (i : Int) < (N : Int) := by omega
      have zi0 : (0 : Int) ≤ (i : Int) := by omega
      have wi : IntKind.i64.wrap ((i : Int) + 1) = (i : Int) + 1 := IntWalk.i64_in _ (by omega)
      obtain ⟨m, hm⟩ : ∃ m, m = bb.xs.length := ⟨_, rfl⟩
      rw [← hm] at HDR hfit
      have HMX := Lib.hid hm
      have hmb : m ≤ 2048 := by omega
      have hsum : on + m ≤ 1000000 := by
        have h1 := drainL_le (l := l) (i + 1)
        rw [drainL_succ hpi, List.length_append, kz_len, ← hbb, ← hm, ← HON.out] at h1
        omega
      clear hpi hpm hcell hc1 hgb hgl hkk hbb hpl hgk hbx hm
      subst ha
      go_wp2_with fail
      refine HDR.out.mono ?_
      rintro e W4 ⟨ra, rc, rfl, hro, hbx4, hg4⟩
      have HY4 := Lib.hid (bay_put HY.out HGK.out hbx4 hg4 (Nat.zero_le _))
      have HF4 := Lib.hid (HF.out.grown (.inl hCF.out) hg4)
      have HRO := Lib.hid hro
      have hCh : ∀ cs t fr, wr.heap[bb.C]? ≠ some (.cells cs t fr) := fun cs t fr e => by
        obtain ⟨s, r, hc⟩ := HBX.out.ch
        rw [hc] at e; cases e
      have HO4 := Lib.hid (show W4.ownsRow w.heap.size 47 2 (.slice oa on oc) on (KdS.flat (drainL (l.take i))) from HO.out.kept hg4 (by
        cases hv : (Value.slice oa on oc).ownBlock with
        | none => exact .inl rfl
        | some g9 =>
          refine .inr fun e => ?_
          simp only [Option.some.injEq] at e
          have := (HO.out.lt g9 hv).1
          omega))
      have HEQ4 : Hid (W4.heap[g]? = W2.heap[g]?) := Lib.hid (by
        obtain ⟨hg1, cu, hcu⟩ := HCUR.out g rfl
        have h1 := HEQ.out g rfl
        rw [← h1]
        refine hg4.block g ?_ (fun e => by simp only [Option.some.injEq] at e; omega)
        rw [hcu] at h1
        exact (Array.getElem?_eq_some_iff.1 h1).1)
      have hz4 : wr.heap.size ≤ W4.heap.size := hg4.size
      have hzw : w.heap.size ≤ wr.heap.size := HF.out.size
      clear hro hbx4 hg4 hlB hck y1 hCh HDR HO HF HEQ
      go_wp2_with fail
      go_loopw [3, 29] (fun s3 s29 wq => ∃ (j oc : Nat) (oa : Option Addr), j ≤ m ∧ s29 = .int .i64 j ∧ s3 = .slice oa (on + j) oc ∧ Hid (wq.ownsRow w.heap.size 47 2 (.slice oa (on + j) oc) (on + j) (KdS.flat (drainL (l.take i) ++ kz k (bb.xs.take j)))) ∧ Hid (wq.ownsRow wr.heap.size 3 1 (.slice ra m rc) m (iv bb.xs)) ∧ Hid (BayAt wq Y M room (setXs k [] li)) ∧ Hid (Frm (BayF Y M l) w wq) ∧ Hid (wq.heap[g]? = W2.heap[g]?)) (fun _ s29 _ => m - (intOf s29).toNat)
      case atStart => exact ⟨0, oc, oa, by omega, rfl, rfl, Lib.hid (by rw [List.take_zero, show kz k [] = [] from rfl, List.append_nil]; exact HO4.out), HRO, HY4, HF4, HEQ4⟩
      case round =>
        clear HO4 HRO HY4 HF4 HEQ4
        obtain ⟨j, oc, oa, hj, rfl, rfl, HO, HR, HYq, HF, HEQ⟩ := hrel
        rename World => wq
        by_cases hjm : j < m
        · obtain ⟨a9, c9, he9, hat, hge⟩ := IntsAt.ofOwn HR.out
          cases he9
          obtain ⟨b9, o9, hra, _, hcz⟩ := hat.cells (by omega)
          have hcj := hcz j hjm
          obtain ⟨z, hz⟩ : ∃ z, z = bb.xs.getD j 0 := ⟨_, rfl⟩
          rw [← hz] at hcj
          have hTK := Lib.hid (show bb.xs.take (j + 1) = bb.xs.take j ++ [z] from by
            rw [List.take_add_one, List.getElem?_eq_getElem (by rw [← HMX.out]; exact hjm), hz, List.getD_eq_getElem?_getD, List.getElem?_eq_getElem (by rw [← HMX.out]; exact hjm)]
            rfl)
          have zj : (j : Int) < (m : Int) := by omega
          have zj0 : (0 : Int) ≤ (j : Int) := by omega
          have wj : IntKind.i64.wrap ((j : Int) + 1) = (j : Int) + 1 := IntWalk.i64_in _ (by omega)
          have hba : Below wq.heap.size wq (wq.alloc (.cells #[.string k, .int .i64 z] 47)) := (Below.refl _ _).alloc (Nat.le_refl _) _
          have HOA := Lib.hid (own_below HO.out hba)
          have HRA := Lib.hid (own_below HR.out hba)
          have HYA := Lib.hid (HYq.out.below hba)
          have HFA := Lib.hid (HF.out.below hba)
          have HSRC := Lib.hid (KdS.src wq (k, z) 47 (cs := #[.string k, .int .i64 z]) rfl)
          have hwq : w.heap.size ≤ wq.heap.size := HF.out.size
          obtain ⟨i0, hi, hz0, hz1, hz2⟩ := info_parts info_kd
          clear hat hge hcz hz hba HO HR HYq HF
          subst hra
          go_wp2_with (at_builtin; refine wpList_append_own_at _ rfl (.tmp 33) (.tmp 37) 48 rfl w.heap.size 47 i0 _ 2 24 Try.underlying48 hi hz0 hz1 hz2 rfl (by decide) _ _ _ rfl HOA.out ⟨wq.heap.size, 0, none⟩ 1 1 (KdS.f (k, z)) rfl rfl HSRC.out (KdS.one (k, z)) (by unfold maxLen; omega) (by omega) (by rw [World.size_alloc]; omega) ?_)
          intro v8 w8 ho8 hg8 _ hat8
          obtain ⟨g8, c8, rfl⟩ := own_some2 ho8 (by omega)
          have HY8 := Lib.hid (HYA.out.grow HOA.out (by decide) (by decide) hg8)
          have HR8 := Lib.hid (HRA.out.kept hg8 (own_ne2 HRA.out HOA.out (by decide)))
          have HF8 := Lib.hid (HFA.out.own HOA.out (Nat.le_refl _) hg8)
          have HO8 : Hid (w8.ownsRow w.heap.size 47 2 (.slice (some ⟨g8, 0, none⟩) (on + j + 1) c8) (on + j + 1) (KdS.flat (drainL (l.take i) ++ kz k (bb.xs.take (j + 1))))) := Lib.hid (by
            rw [hTK.out, kz_snoc, ← List.append_assoc, Sty.flat_snoc]
            exact ho8)
          have HEQ8 : Hid (w8.heap[g]? = W2.heap[g]?) := Lib.hid (by
            obtain ⟨hg1, cu, hcu⟩ := HCUR.out g rfl
            have h1 := HEQ.out.trans hcu
            have h2 : (wq.alloc (.cells #[.string k, .int .i64 z] 47)).heap[g]? = some (.cells cu 9 (0, 0)) := (Below.heap_alloc _ _ _ (Array.getElem?_eq_some_iff.1 h1).1).trans h1
            rw [hcu]
            exact (hg8.block g (Array.getElem?_eq_some_iff.1 h2).1 (fun e => own_neB HOA.out h2 (by decide) e.symm)).trans h2)
          clear ho8 hg8 hat8 hcj
          go_wp2_with fail
          go_roundw
          case rel => exact ⟨j + 1, c8, some ⟨g8, 0, none⟩, by omega, by push_cast; rfl, rfl, HO8, HR8, HY8, HF8, HEQ8⟩
          case measure => simp only [intOf]; omega
        · obtain rfl : j = m := by omega
          have HDL := Lib.hid (show drainL (l.take (i + 1)) = drainL (l.take i) ++ kz k bb.xs from by rw [drainL_succ HPI.out, HKB.out.1, HKB.out.2])
          have HON2 := Lib.hid (show on + j = (drainL (l.take (i + 1))).length from by rw [HDL.out, List.length_append, kz_len, ← HON.out, ← HMX.out])
          have HO9 : Hid (wq.ownsRow w.heap.size 47 2 (.slice oa (on + j) oc) (on + j) (KdS.flat (drainL (l.take (i + 1))))) := Lib.hid (by
            have := HO.out
            rw [show bb.xs.take j = bb.xs from List.take_of_length_le (by rw [← HMX.out]; exact Nat.le_refl _)] at this
            rw [HDL.out]
            exact this)
          have HMM2 := Lib.hid (show ∀ j' p', i + 1 ≤ j' → l[j']? = some p' → p' ∈ setXs k [] li from fun j' p' hj' hp' => by
            have h1 := HMM.out j' p' (by omega) hp'
            have hne : p'.1 ≠ k := fun e => by
              rw [HKB.out.1] at e
              obtain ⟨q1, q2⟩ := List.getElem?_eq_some_iff.1 HPI.out
              obtain ⟨q3, q4⟩ := List.getElem?_eq_some_iff.1 hp'
              have := List.pairwise_iff_getElem.1 HAP.out i j' q1 q3 (by omega)
              rw [q2, q4, e] at this
              exact this rfl
            unfold setXs
            exact List.mem_map.2 ⟨p', h1, if_neg hne⟩)
          have HSB2 := Lib.hid (show ∀ b, BayF Y M (setXs k [] li) b → BayF Y M l b from fun b hb => by
            rcases hb with e | e | ⟨q, hq, e⟩
            · exact .inl e
            · exact .inr (.inl e)
            · unfold setXs at hq
              obtain ⟨q', hq', rfl⟩ := List.mem_map.1 hq
              have e2 : (if q'.1 = k then (q'.1, ({ q'.2 with xs := [] } : BoxV)) else q').2.C = q'.2.C := by split <;> rfl
              rw [e2] at e
              exact HSB.out b (.inr (.inr ⟨q', hq', e⟩)))
          have HEQ2 := Lib.hid (show ∀ g', some (⟨g, 0, none⟩ : Addr) = some ⟨g', 0, none⟩ → wq.heap[g']? = W2.heap[g']? from fun g' e => by cases e; exact HEQ.out)
          go_wp2_with fail
          go_roundw
          case rel => exact ⟨i + 1, on + j, oc, oa, setXs k [] li, by omega, by push_cast; rfl, rfl, HON2, HO9, HYq, HMM2, HSB2, HF, HEQ2⟩
          case measure => simp only [intOf]; omega
    · have e : i = N := by omega
      have y1 := cell_blk2 HY.out.blk (i := 1) (u := .map (some M)) rfl
      obtain ⟨W9, hcl, hm9, htn⟩ := GM.clear2 HY.out.map
      have hcl2 : ∀ ty, (Builtin.clear_ #[65] ty #[.map (some M)]).run Try.prog wr = .ok (.tuple #[]) W9 := hcl
      have hF9 : Frm (fun i => i = M) wr W9 := (Frm.refl (fun i => i = M) wr).turned (.inl rfl) htn
      obtain ⟨es, cl, hmb⟩ := gm_obj HY.out.map
      have HY9 := Lib.hid (show BayAt W9 Y M room [] from ⟨hF9.at HY.out.blk (fun e => by have := HY.out.blk; rw [e, hmb] at this; cases this), hm9, (fun p hp => by cases hp), (fun p hp => by cases hp), fun p hp => by cases hp⟩)
      have HO9 := Lib.hid (show W9.ownsRow w.heap.size 47 2 (.slice oa on oc) on (KdS.flat (drainL l)) from by
        have h1 := HO.out.kept (row := some M) ⟨hF9.os, hF9.tape, hF9.output, hF9.size, fun i hi hn => hF9.block i hi (fun e => hn (by rw [e]))⟩ (.inr (own_neO HO.out hmb (fun _ _ _ e => by cases e)))
        rwa [List.take_of_length_le (by rw [e, HNN.out]; exact Nat.le_refl _)] at h1)
      have HON9 := Lib.hid (show on = (drainL l).length from by rw [HON.out, List.take_of_length_le (by rw [e, HNN.out]; exact Nat.le_refl _)])
      have HF9 := Lib.hid (HF.out.turned (.inl (.inr (.inl rfl))) htn)
      clear hcl hm9 htn hF9 hmb
      go_wp2_with fail
      first | go_ret2 | go_ret
      exact ⟨oa, oc, on, rfl, HO9.out, HON9.out, HY9.out, HF9.out⟩
end Go.Proofs.Ytpcohkhdbjimgaa
