/- All that a store tells, as a text: dump, walked. Written by genstodmp.py. -/
import Derived.Test.YtjafagfhkpaciaaStoStp
import Derived.BigRegion
import Derived.Deep.CutBlock
import Derived.WalkSmall
import Derived.Test.YtjafagfhkpaciaaPutU
import Derived.Test.YtjafagfhkpaciaaFill0
namespace Go.Proofs.Ytjafagfhkpaciaa
open Go.RowKit NumsPlain
set_option linter.unusedVariables false

def nT (z : Int) : ByteArray := bs (pu z.toNat)
def objT (p : ByteArray × ObjS) : ByteArray := p.1 ++ ByteArray.mk #[0] ++ nT p.2.ver ++ nT p.2.born ++ nT ((p.2.data.size : Nat) : Int) ++ p.2.data
def uplT (p : Int × UplS) : ByteArray := ByteArray.mk #[1] ++ p.2.key ++ nT p.1 ++ nT ((psz p.2.parts : Nat) : Int)
def dumpO (l : List (ByteArray × ObjS)) : Nat → ByteArray
  | 0 => { data := #[] }
  | k + 1 => dumpO l k ++ (match l[k]? with | some p => objT p | none => { data := #[] })
def dumpU (l : List (Int × UplS)) (t : ByteArray) : Nat → ByteArray
  | 0 => t
  | k + 1 => dumpU l t k ++ (match l[k]? with | some p => uplT p | none => { data := #[] })
def dumpT (σ : Sto) : ByteArray := dumpU σ.ups (dumpO σ.objs σ.objs.length) σ.ups.length ++ nT σ.now ++ nT σ.size
theorem dumpO_succ {l : List (ByteArray × ObjS)} {k : Nat} {p : ByteArray × ObjS} (h : l[k]? = some p) : dumpO l (k + 1) = dumpO l k ++ objT p := by
  show dumpO l k ++ _ = _
  rw [h]
theorem dumpU_succ {l : List (Int × UplS)} {t : ByteArray} {k : Nat} {p : Int × UplS} (h : l[k]? = some p) : dumpU l t (k + 1) = dumpU l t k ++ uplT p := by
  show dumpU l t k ++ _ = _
  rw [h]
theorem nT_size {z : Int} (h0 : 0 ≤ z) (h1 : z ≤ 9223372036854775807) : (nT z).size ≤ 10 := by
  unfold nT
  rw [bs_sizeS]
  exact pu_ten (by omega)
theorem rputz (z : Int) (h0 : 0 ≤ z) (h1 : z ≤ 9223372036854775807) (X : List Nat) (hX : X = pu z.toNat) (w : World) :
    Calls Try.prog 35 #[.int .u64 z] w fun e w' => ∃ g c, e = .returned (.slice (some ⟨g, 0, none⟩) X.length c) ∧ BytesAt w' (some ⟨g, 0, none⟩) X.length c X ∧ Below w.heap.size w w' := by
  obtain ⟨n, rfl⟩ := Int.eq_ofNat_of_zero_le h0
  rw [hX]
  refine (rputu n (by omega) w).mono ?_
  rintro e w' ⟨g, c, rfl, _, h2, h3⟩
  exact ⟨g, c, rfl, h2, h3⟩
/-- of the uploads behind the one ahead of this the first is this -/
theorem opened_first {l : List (Int × UplS)} (h : l.Pairwise fun p q => (ilit p.1).before (ilit q.1) = true) : ∀ {i : Nat} {p : Int × UplS}, l[i]? = some p → ∃ r, pageL (fun k => decide (p.1 - 1 < k)) (fun p => (⟨p.2.key, p.1, ((psz p.2.parts : Nat) : Int), p.2.born⟩ : ItemV)) l = ⟨p.2.key, p.1, ((psz p.2.parts : Nat) : Int), p.2.born⟩ :: r := by
  induction l with
  | nil => intro i p hi; cases hi
  | cons y l ih =>
    obtain ⟨h1, h2⟩ := List.pairwise_cons.1 h
    intro i p hi
    unfold pageL at ih ⊢
    cases i with
    | zero =>
      obtain rfl : y = p := by simpa using hi
      rw [List.filter_cons, if_pos (by simp; omega), List.map_cons]
      exact ⟨_, rfl⟩
    | succ i =>
      have hm : p ∈ l := List.mem_of_getElem? (by simpa using hi)
      have hb := h1 p hm
      simp only [ilit, Lit.before, decide_eq_true_eq] at hb
      rw [List.filter_cons, if_neg (by simp; omega)]
      exact ih h2 (by simpa using hi)
theorem StIn.zero {base : Nat} {W : World} {s : Nat} {σ : Sto} (h : StIn base W s σ) : StIn 0 W s σ := by
  obtain ⟨_, ⟨Mo, Mu, h1, _⟩ | h2⟩ := h
  · exact ⟨Nat.zero_le _, .inl ⟨Mo, Mu, h1, fun b _ => Nat.zero_le _⟩⟩
  · exact ⟨Nat.zero_le _, .inr h2⟩
theorem StIn.rise {base : Nat} {W : World} {s : Nat} {σ : Sto} (h : StIn base W s σ) : (σ.ups.Pairwise fun p q => (ilit p.1).before (ilit q.1) = true) ∧ (σ.objs.Pairwise fun p q => (slit p.1).before (slit q.1) = true) := by
  obtain ⟨_, ⟨Mo, Mu, h1, _⟩ | ⟨_, h2⟩⟩ := h
  · exact ⟨h1.upl.rise, h1.obj.rise⟩
  · rw [h2]; exact ⟨List.Pairwise.nil, List.Pairwise.nil⟩
/-- what Get answers -/
def GetIs (σ : Sto) (ky : ByteArray) (e : Ending) (W' : World) : Prop := ∃ x b ga gn gc, e = .returned (repV x (oldVer σ ky) b 0 (.slice ga gn gc) (.slice none 0 0) false) ∧ (x = if (objOf σ ky).isSome = true then 0 else 7) ∧ (∀ o, objOf σ ky = some o → b = o.born ∧ BytesAt W' ga gn gc (numsOf o.data))
/-- what a list is told by -/
def SeesIs (W : World) (L : List ItemV) (e : Ending) (W' : World) : Prop := ∃ la ln lc, e = .returned (repV 0 0 0 0 (.slice none 0 0) (.slice la ln lc) (decide (16 < L.length))) ∧ ln ≤ 16 ∧ ln = (L.take 16).length ∧ W'.ownsRow W.heap.size 46 4 (.slice la ln lc) ln (ItemS.flat (L.take 16))
def opnL (σ : Sto) (id : Int) : List ItemV := pageL (fun k => decide (id < k)) (fun p => (⟨p.2.key, p.1, ((psz p.2.parts : Nat) : Int), p.2.born⟩ : ItemV)) σ.ups
set_option maxRecDepth 100000 in
set_option maxHeartbeats 16000000 in
theorem dump_gen {base : Nat} {w : World} {s : Nat} {σ : Sto} (I : World → Prop) (h : I w) (hbs : base ≤ w.heap.size) (hi : Inv σ) (hv : σ.ver ≤ 1000) (hidb : σ.id ≤ 1000) (hnw : σ.now ≤ 1099511627775)
    (hib : ∀ W W', I W → Below W.heap.size W W' → I W') (hin : ∀ W, I W → StIn 0 W s σ)
    (hig : ∀ (W : World) (ky : ByteArray), I W → base ≤ W.heap.size → ky.size ≤ 1000000000000000 → Calls Try.prog 12 #[.pointer (some ⟨s, 0, none⟩), .agg #[.int .i64 3, .string ky, .slice none 0 0, .int .i64 0, .int .i64 0, .int .i64 0, .int .i64 0]] W fun e W' => Below base W W' ∧ KeepC W W' ∧ I W' ∧ GetIs σ ky e W')
    (hio : ∀ (W : World) (id : Int), I W → base ≤ W.heap.size → Calls Try.prog 12 #[.pointer (some ⟨s, 0, none⟩), .agg #[.int .i64 11, .string { data := #[] }, .slice none 0 0, .int .i64 0, .int .i64 0, .int .i64 0, .int .i64 id]] W fun e W' => Below base W W' ∧ KeepC W W' ∧ I W' ∧ SeesIs W (opnL σ id) e W') :
    Calls Try.prog 15 #[.pointer (some ⟨s, 0, none⟩)] w fun e w' => e = .returned (.string (dumpT σ)) ∧ Below base w w' ∧ KeepC w w' ∧ I w' := by
  have HS := Lib.hid h
  have HIB := Lib.hid hib
  have HIN := Lib.hid hin
  have HIG := Lib.hid hig
  have HIO := Lib.hid hio
  clear hib hin hig hio
  have HI := Lib.hid hi
  have HBS := Lib.hid hbs
  have HKY := Lib.hid (keys_st (HIN.out _ h) (by have := hi.nob; omega))
  clear h hi hbs
  go_enter Try.func15, Try.ntmps15
  go_wp2_with fail
  refine HKY.out.mono ?_
  rintro e w3 ⟨v, rfl, hrow, hb3⟩
  obtain ⟨N, hN⟩ : ∃ N, N = σ.objs.length := ⟨_, rfl⟩
  rw [← hN] at hrow
  have HNN := Lib.hid hN
  have hN512 : N ≤ 512 := by rw [hN]; exact HI.out.nob
  have hcur : ∀ g, v.ownBlock = some g → ∃ cur, w3.heap[g]? = some (.cells cur 9 (0, 0)) := by
    intro g hg
    rcases hrow.2 with ⟨rfl, hz⟩ | ⟨g', cap, cu, rfl, hbg, hh, _⟩
    · cases hg
    · cases hg; exact ⟨_, hh⟩
  obtain ⟨a, c, rfl, hget⟩ := row_get (S := KeyS) (l := σ.objs.map (·.1)) hrow (by rw [List.length_map, hN]) (fun _ _ => trivial)
  have HCUR := Lib.hid hcur
  have HGET := Lib.hid hget
  have HB3 := Lib.hid (hb3.mono HBS.out)
  have HS3 := Lib.hid (HIB.out _ _ HS.out hb3)
  have HK3 : Hid (KeepC w w3) := Lib.hid (fun b cs t fr g _ => (hb3.block _ (Array.getElem?_eq_some_iff.1 g).1).trans g)
  have HZ3 := Lib.hid hb3.size
  clear hrow hb3 hcur hget hN HKY HS
  go_wp2_with fail
  go_loopw [3, 13] (fun s3 s13 wr => ∃ (i : Nat) (T : ByteArray), i ≤ N ∧ s13 = .int .i64 i ∧ s3 = .string T ∧ T.size ≤ 300000 * i ∧ Hid (T = dumpO σ.objs i) ∧ Hid (∀ g, a = some ⟨g, 0, none⟩ → wr.heap[g]? = w3.heap[g]?) ∧ Hid (I wr) ∧ Hid (Below base w wr) ∧ Hid (KeepC w wr)) (fun _ s13 _ => N - (intOf s13).toNat)
  case atStart => exact ⟨0, { data := #[] }, by omega, rfl, rfl, by decide, Lib.hid rfl, Lib.hid (fun _ _ => rfl), HS3, HB3, HK3⟩
  case round =>
    clear HS3 HB3 HK3
    obtain ⟨i, T, hiN, rfl, rfl, hTs, HT, HEQ, HS, HB, HK⟩ := hrel
    rename World => wr
    by_cases hk2 : i < N
    · obtain ⟨p, hpi⟩ : ∃ p, σ.objs[i]? = some p := ⟨_, List.getElem?_eq_getElem (by rw [← HNN.out]; exact hk2)⟩
      have hpm : p ∈ σ.objs := List.mem_of_getElem? hpi
      obtain ⟨g, ha, hgb, hgl, hcell⟩ := HGET.out i hk2
      obtain ⟨k, hkk⟩ : ∃ k, k = p.1 := ⟨_, rfl⟩
      obtain ⟨d, hdd⟩ : ∃ d, d = p.2.data := ⟨_, rfl⟩
      obtain ⟨vr, hvr⟩ : ∃ vr, vr = p.2.ver := ⟨_, rfl⟩
      obtain ⟨bo, hbo⟩ : ∃ bo, bo = p.2.born := ⟨_, rfl⟩
      have hc1 := hcell 0 (.string k) (by rw [map_getD hpi, hkk]; rfl)
      rw [show i * KeyS.K + 0 = i from Nat.mul_one i] at hc1
      have hck : wr.cell? ⟨g, i, none⟩ = some (.string k) := by rw [← hc1]; exact cell_of_heap (HEQ.out g ha)
      have hAp := Apt.of ((HIN.out _ HS.out).sat (Nat.zero_le _)).choose_spec.choose_spec.1
      have hob : objOf σ p.1 = some p.2 := get_of_mem litS hAp.obj hpm
      have hov : oldVer σ p.1 = p.2.ver := by unfold oldVer; rw [hob]
      have HGT := Lib.hid (HIG.out _ p.1 HS.out (Nat.le_trans HBS.out HB.out.size) (key_small HI.out p hpm))
      rw [← hkk] at HGT
      have HOV := Lib.hid (show oldVer σ k = vr by rw [hkk, hov, hvr])
      rw [← hkk] at hob
      have HOB := Lib.hid hob
      have HPI := Lib.hid hpi
      obtain ⟨q1, q2, q3, q4, q5, q6⟩ := HI.out.obj p hpm
      rw [← hkk] at q1
      rw [← hdd] at q2
      rw [← hvr] at q3 q4
      rw [← hbo] at q5 q6
      have hks : k.size ≤ 40 := by
        unfold isKeyB at q1
        simp only [Bool.and_eq_true, decide_eq_true_eq] at q1
        exact q1.1.2
      obtain ⟨X1, hX1⟩ : ∃ X, X = pu vr.toNat := ⟨_, rfl⟩
      obtain ⟨X2, hX2⟩ : ∃ X, X = pu bo.toNat := ⟨_, rfl⟩
      obtain ⟨X3, hX3⟩ : ∃ X, X = pu ((d.size : Nat) : Int).toNat := ⟨_, rfl⟩
      obtain ⟨s1, hs1⟩ : ∃ s, s = bs X1 := ⟨_, rfl⟩
      obtain ⟨s2, hs2⟩ : ∃ s, s = bs X2 := ⟨_, rfl⟩
      obtain ⟨s3, hs3⟩ : ∃ s, s = bs X3 := ⟨_, rfl⟩
      have n1 : s1.size ≤ 10 := by rw [hs1, hX1]; exact nT_size (z := vr) (by omega) (by omega)
      have n2 : s2.size ≤ 10 := by rw [hs2, hX2]; exact nT_size (z := bo) (by omega) (by omega)
      have n3 : s3.size ≤ 10 := by rw [hs3, hX3]; exact nT_size (z := ((d.size : Nat) : Int)) (by omega) (by omega)
      have HSS := Lib.hid (show s1 = nT p.2.ver ∧ s2 = nT p.2.born ∧ s3 = nT ((p.2.data.size : Nat) : Int) from ⟨by rw [hs1, hX1, hvr]; rfl, by rw [hs2, hX2, hbo]; rfl, by rw [hs3, hX3, hdd]; rfl⟩)
      have HP1 := Lib.hid (rputz vr (by omega) (by omega) X1 hX1)
      have HP2 := Lib.hid (rputz bo (by omega) (by omega) X2 hX2)
      have HP3' := Lib.hid (rputz ((d.size : Nat) : Int) (by omega) (by omega) X3 hX3)
      have HKD := Lib.hid (show k = p.1 ∧ d = p.2.data from ⟨hkk, hdd⟩)
      have HBO := Lib.hid hbo
      have HS1 := Lib.hid hs1
      have HS2 := Lib.hid hs2
      have HS3 := Lib.hid hs3
      have zi : (i : Int) < (N : Int) := by omega
      have zi0 : (0 : Int) ≤ (i : Int) := by omega
      have wi : IntKind.i64.wrap ((i : Int) + 1) = (i : Int) + 1 := IntWalk.i64_in _ (by omega)
      have hHI := HI.out.now
      have HDS := Lib.hid hdd
      clear hpi hpm hcell hc1 hgb hgl hAp hob hov q1 hX1 hX2 hX3 hs1 hs2 hs3 hkk hdd hvr hbo
      subst ha
      go_wp2_with fail
      refine HGT.out.mono ?_
      rintro e w4 ⟨hb4, hkc4, hs4, x, bb, ga, gn, gc, rfl, hx1, hx2⟩
      rw [HOV.out]
      rw [HOB.out] at hx1
      obtain rfl : x = 0 := hx1
      obtain ⟨hbb, hby⟩ := hx2 _ HOB.out
      rw [← HBO.out] at hbb
      subst hbb
      unfold repV
      have hgn : gn = d.size := by rw [HDS.out, ← numsOf_len]; exact hby.len.symm
      obtain ⟨bR, hbR⟩ : ∃ bR, bR = w4.heap.size := ⟨_, rfl⟩
      obtain ⟨w5, hw5⟩ : ∃ w5, w5 = w4.alloc (.cells #[.int .i64 0, .slice ga gn gc, .int .i64 vr, .int .i64 bb, .int .i64 0, .slice none 0 0, .bool false] 35) := ⟨_, rfl⟩
      have hb5 : Below w4.heap.size w4 w5 := by rw [hw5]; exact (Below.refl _ _).alloc (Nat.le_refl _) _
      have hk5 : w5.heap[bR]? = some (.cells #[.int .i64 0, .slice ga gn gc, .int .i64 vr, .int .i64 bb, .int .i64 0, .slice none 0 0, .bool false] 35 (0, 0)) := by rw [hw5, hbR]; exact heap_new w4 _
      have hbw4 := HB.out.trans hb4
      have HB5 := Lib.hid (hbw4.trans (hb5.mono (Nat.le_trans HBS.out hbw4.size)))
      have HS5 := Lib.hid (HIB.out _ _ hs4 hb5)
      have HKC := Lib.hid (hkc4.below hb5)
      have HKW : Hid (KeepC w w5) := Lib.hid (fun b cs t fr g0 ht => HKC.out b cs t fr (HK.out b cs t fr g0 ht) ht)
      have hby5 := hby.kept hb5
      have HCV := Lib.hid (show ∀ W, Below w5.heap.size w5 W → (convert 27 9 (.slice ga gn gc)).run Try.prog W = .ok (.string d) W from fun W hW => by have := (hby5.kept hW).conv; rwa [bs_numsOf, ← HDS.out] at this)
      have r1 := cell_blk2 hk5 (i := 1) (u := .slice ga gn gc) rfl
      have r2 := cell_blk2 hk5 (i := 2) (u := .int .i64 vr) rfl
      have r3 := cell_blk2 hk5 (i := 3) (u := .int .i64 bb) rfl
      have hlb : bR < w5.heap.size := (Array.getElem?_eq_some_iff.1 hk5).1
      have HW5 := Lib.hid hw5
      have HBR := Lib.hid hbR
      have HP3 := HP3'
      rw [← hgn] at HP3 q2
      have hgm : gn ≤ 262144 := q2
      have hds : d.size ≤ 262144 := by omega
      have HSM := Lib.hid (show ∀ (w w' : World), Below w.heap.size w w' → ∀ j u, (fun (j_8 : Nat) (u : Value) (w : World) => match j_8 with | 6 => (∃ g1 c1, u = .slice (some ⟨g1, 0, none⟩) X1.length c1 ∧ BytesAt w (some ⟨g1, 0, none⟩) X1.length c1 X1) | 12 => (∃ g1 c1, u = .slice (some ⟨g1, 0, none⟩) X2.length c1 ∧ BytesAt w (some ⟨g1, 0, none⟩) X2.length c1 X2) | _ => (∃ g1 c1, u = .slice (some ⟨g1, 0, none⟩) X3.length c1 ∧ BytesAt w (some ⟨g1, 0, none⟩) X3.length c1 X3)) j u w → (fun (j_8 : Nat) (u : Value) (w : World) => match j_8 with | 6 => (∃ g1 c1, u = .slice (some ⟨g1, 0, none⟩) X1.length c1 ∧ BytesAt w (some ⟨g1, 0, none⟩) X1.length c1 X1) | 12 => (∃ g1 c1, u = .slice (some ⟨g1, 0, none⟩) X2.length c1 ∧ BytesAt w (some ⟨g1, 0, none⟩) X2.length c1 X2) | _ => (∃ g1 c1, u = .slice (some ⟨g1, 0, none⟩) X3.length c1 ∧ BytesAt w (some ⟨g1, 0, none⟩) X3.length c1 X3)) j u w' from fun w w' hb j u hh => by
        dsimp only at hh ⊢
        split at hh <;> (obtain ⟨a', c', e1, e2⟩ := hh; exact ⟨a', c', e1, e2.kept hb⟩))
      have f1 : ¬ 9223372036854775807 < k.size + 1 := by omega
      have f2 : ¬ 9223372036854775807 < k.size + 1 + s1.size := by omega
      have f3 : ¬ 9223372036854775807 < k.size + 1 + s1.size + s2.size := by omega
      have f4 : ¬ 9223372036854775807 < k.size + 1 + s1.size + s2.size + s3.size := by omega
      have f5 : ¬ 9223372036854775807 < k.size + 1 + s1.size + s2.size + s3.size + d.size := by omega
      have f6 : ¬ 9223372036854775807 < T.size + (k.size + 1 + s1.size + s2.size + s3.size + d.size) := by omega
      clear hx2 hw5 hb5 hk5 hb4 hkc4 hs4 hbw4 HGT hck hgn hby hby5 hbR HP3' q2
      go_upto_region 6 with fail
      rw [← HW5.out, ← HBR.out]
      refine wp_region_fill0 (by kernel_rfl) (by kernel_rfl) (by kernel_rfl) 0 27 (fun L hc h => hc 26 _ rfl (hc 27 _ rfl h ⟨26, .data⟩ (by simp) rfl) ⟨0, .data⟩ (by simp) rfl) (Below w5.heap.size w5) (FV2 (fun j_9 => match j_9 with | 0 => some (.string T) | 1 => some (.string k) | 2 => some (.string (k ++ ByteArray.mk #[0])) | 3 => some (.pointer (some ⟨bR, 2, none⟩)) | 4 => some (.int .i64 vr) | 5 => some (.int .u64 vr) | 6 => none | 7 => some (.string s1) | 8 => some (.string (k ++ ByteArray.mk #[0] ++ s1)) | 9 => some (.pointer (some ⟨bR, 3, none⟩)) | 10 => some (.int .i64 bb) | 11 => some (.int .u64 bb) | 12 => none | 13 => some (.string s2) | 14 => some (.string (k ++ ByteArray.mk #[0] ++ s1 ++ s2)) | 15 => some (.pointer (some ⟨bR, 1, none⟩)) | 16 => some (.slice ga gn gc) | 17 => some (.int .i64 (gn : Int)) | 18 => some (.int .u64 (gn : Int)) | 19 => none | 20 => some (.string s3) | 21 => some (.string (k ++ ByteArray.mk #[0] ++ s1 ++ s2 ++ s3)) | 22 => some (.pointer (some ⟨bR, 1, none⟩)) | 23 => some (.slice ga gn gc) | 24 => some (.string d) | 25 => some (.string (k ++ ByteArray.mk #[0] ++ s1 ++ s2 ++ s3 ++ d)) | 26 => some (.string (T ++ (k ++ ByteArray.mk #[0] ++ s1 ++ s2 ++ s3 ++ d))) | 27 => some (.string (T ++ (k ++ ByteArray.mk #[0] ++ s1 ++ s2 ++ s3 ++ d))) | _ => none) (fun (j_8 : Nat) (u : Value) (w : World) => match j_8 with | 6 => (∃ g1 c1, u = .slice (some ⟨g1, 0, none⟩) X1.length c1 ∧ BytesAt w (some ⟨g1, 0, none⟩) X1.length c1 X1) | 12 => (∃ g1 c1, u = .slice (some ⟨g1, 0, none⟩) X2.length c1 ∧ BytesAt w (some ⟨g1, 0, none⟩) X2.length c1 X2) | _ => (∃ g1 c1, u = .slice (some ⟨g1, 0, none⟩) X3.length c1 ∧ BytesAt w (some ⟨g1, 0, none⟩) X3.length c1 X3))) (Below.refl _ _).drew ?_ ?_
      · intro i9 o ho V w9 K hJ hst9 hdep hK
        have HJ := Lib.hid hJ
        simp only [fill, slotOf, List.size_toArray, List.length_cons, List.length_nil, Nat.reduceAdd, List.getElem?_toArray, List.getElem?_cons_zero, List.getElem?_cons_succ, Option.bind_some, Act.put, List.setIfInBounds_toArray, List.set_cons_zero, List.set_cons_succ] at hK ⊢
        have hin : i9 < 28 := (Array.getElem?_eq_some_iff.1 ho).1
        have hcs : i9 = 0 ∨ i9 = 1 ∨ i9 = 2 ∨ i9 = 3 ∨ i9 = 4 ∨ i9 = 5 ∨ i9 = 6 ∨ i9 = 7 ∨ i9 = 8 ∨ i9 = 9 ∨ i9 = 10 ∨ i9 = 11 ∨ i9 = 12 ∨ i9 = 13 ∨ i9 = 14 ∨ i9 = 15 ∨ i9 = 16 ∨ i9 = 17 ∨ i9 = 18 ∨ i9 = 19 ∨ i9 = 20 ∨ i9 = 21 ∨ i9 = 22 ∨ i9 = 23 ∨ i9 = 24 ∨ i9 = 25 ∨ i9 = 26 ∨ i9 = 27 := by omega
        clear hin
        rcases hcs with rfl | rfl | rfl | rfl | rfl | rfl | rfl | rfl | rfl | rfl | rfl | rfl | rfl | rfl | rfl | rfl | rfl | rfl | rfl | rfl | rfl | rfl | rfl | rfl | rfl | rfl | rfl | rfl
        · obtain rfl := Option.some.inj ho.symm
          have dS : V 27 = .string T := (hst9 rfl).trans rfl
          clear hdep ho hJ hst9
          try simp only [fill, slotOf, List.size_toArray, List.length_cons, List.length_nil, Nat.reduceAdd, List.getElem?_toArray, List.getElem?_cons_zero, List.getElem?_cons_succ, Option.bind_some, Act.put, List.setIfInBounds_toArray, List.set_cons_zero, List.set_cons_succ] at hK ⊢
          rw [dS] at hK ⊢
          go_simp
          exact hK (.string T) _ HJ.out rfl (fun j y h => h) _ rfl
        · obtain rfl := Option.some.inj ho.symm
          clear hdep ho hJ hst9
          try simp only [fill, slotOf, List.size_toArray, List.length_cons, List.length_nil, Nat.reduceAdd, List.getElem?_toArray, List.getElem?_cons_zero, List.getElem?_cons_succ, Option.bind_some, Act.put, List.setIfInBounds_toArray, List.set_cons_zero, List.set_cons_succ] at hK ⊢
          go_simp
          exact hK (.string k) _ HJ.out rfl (fun j y h => h) _ rfl
        · obtain rfl := Option.some.inj ho.symm
          have d1 : V 1 = .string k := hdep ⟨1, .data⟩ (by simp) rfl
          clear hdep ho hJ hst9
          try simp only [fill, slotOf, List.size_toArray, List.length_cons, List.length_nil, Nat.reduceAdd, List.getElem?_toArray, List.getElem?_cons_zero, List.getElem?_cons_succ, Option.bind_some, Act.put, List.setIfInBounds_toArray, List.set_cons_zero, List.set_cons_succ] at hK ⊢
          rw [d1] at hK ⊢
          go_simp
          exact hK (.string (k ++ ByteArray.mk #[0])) _ HJ.out rfl (fun j y h => h) _ rfl
        · obtain rfl := Option.some.inj ho.symm
          clear hdep ho hJ hst9
          try simp only [fill, slotOf, List.size_toArray, List.length_cons, List.length_nil, Nat.reduceAdd, List.getElem?_toArray, List.getElem?_cons_zero, List.getElem?_cons_succ, Option.bind_some, Act.put, List.setIfInBounds_toArray, List.set_cons_zero, List.set_cons_succ] at hK ⊢
          go_simp
          exact hK (.pointer (some ⟨bR, 2, none⟩)) _ HJ.out rfl (fun j y h => h) _ rfl
        · obtain rfl := Option.some.inj ho.symm
          have d3 : V 3 = .pointer (some ⟨bR, 2, none⟩) := hdep ⟨3, .data⟩ (by simp) rfl
          have u1 : w9.cell? ⟨bR, 2, none⟩ = some (.int .i64 vr) := (hJ.cell (p := ⟨bR, 2, none⟩) hlb).trans r2
          clear hdep ho hJ hst9
          try simp only [fill, slotOf, List.size_toArray, List.length_cons, List.length_nil, Nat.reduceAdd, List.getElem?_toArray, List.getElem?_cons_zero, List.getElem?_cons_succ, Option.bind_some, Act.put, List.setIfInBounds_toArray, List.set_cons_zero, List.set_cons_succ] at hK ⊢
          rw [d3] at hK ⊢
          go_simp
          exact hK (.int .i64 vr) _ HJ.out rfl (fun j y h => h) _ rfl
        · obtain rfl := Option.some.inj ho.symm
          have d4 : V 4 = .int .i64 vr := hdep ⟨4, .data⟩ (by simp) rfl
          have wv : IntKind.u64.wrap vr = vr := IntWalk.u64_in _ ⟨by omega, by omega⟩
          clear hdep ho hJ hst9
          try simp only [fill, slotOf, List.size_toArray, List.length_cons, List.length_nil, Nat.reduceAdd, List.getElem?_toArray, List.getElem?_cons_zero, List.getElem?_cons_succ, Option.bind_some, Act.put, List.setIfInBounds_toArray, List.set_cons_zero, List.set_cons_succ] at hK ⊢
          rw [d4] at hK ⊢
          go_simp
          exact hK (.int .u64 vr) _ HJ.out rfl (fun j y h => h) _ rfl
        · obtain rfl := Option.some.inj ho.symm
          have d5 : V 5 = .int .u64 vr := hdep ⟨5, .data⟩ (by simp) rfl
          clear hdep ho hJ hst9
          try simp only [fill, slotOf, List.size_toArray, List.length_cons, List.length_nil, Nat.reduceAdd, List.getElem?_toArray, List.getElem?_cons_zero, List.getElem?_cons_succ, Option.bind_some, Act.put, List.setIfInBounds_toArray, List.set_cons_zero, List.set_cons_succ] at hK ⊢
          rw [d5] at hK ⊢
          go_simp
          refine (HP1.out w9).mono ?_
          rintro e w8 ⟨g8, c8, rfl, h1, hb8⟩
          exact hK (.slice (some ⟨g8, 0, none⟩) _ c8) _ (HJ.out.trans (hb8.mono HJ.out.size)) ⟨g8, c8, rfl, h1⟩ (FV2.mono (HSM.out _ _ hb8)) _ rfl
        · have hoo := Option.some.inj ho.symm
          obtain ⟨g6, c6, eV6, hv6⟩ : ∃ g1 c1, V 6 = .slice (some ⟨g1, 0, none⟩) X1.length c1 ∧ BytesAt w9 (some ⟨g1, 0, none⟩) X1.length c1 X1 := hdep ⟨6, .data⟩ (by rw [hoo]; simp) rfl
          have hcv := hv6.conv
          rw [← HS1.out] at hcv
          subst hoo
          clear hdep ho hJ hst9 hv6
          try simp only [fill, slotOf, List.size_toArray, List.length_cons, List.length_nil, Nat.reduceAdd, List.getElem?_toArray, List.getElem?_cons_zero, List.getElem?_cons_succ, Option.bind_some, Act.put, List.setIfInBounds_toArray, List.set_cons_zero, List.set_cons_succ] at hK ⊢
          rw [eV6] at hK ⊢
          go_simp
          exact hK (.string s1) _ HJ.out rfl (fun j y h => h) _ rfl
        · obtain rfl := Option.some.inj ho.symm
          have d2 : V 2 = .string (k ++ ByteArray.mk #[0]) := hdep ⟨2, .data⟩ (by simp) rfl
          have d7 : V 7 = .string s1 := hdep ⟨7, .data⟩ (by simp) rfl
          clear hdep ho hJ hst9
          try simp only [fill, slotOf, List.size_toArray, List.length_cons, List.length_nil, Nat.reduceAdd, List.getElem?_toArray, List.getElem?_cons_zero, List.getElem?_cons_succ, Option.bind_some, Act.put, List.setIfInBounds_toArray, List.set_cons_zero, List.set_cons_succ] at hK ⊢
          rw [d2, d7] at hK ⊢
          go_simp
          exact hK (.string (k ++ ByteArray.mk #[0] ++ s1)) _ HJ.out rfl (fun j y h => h) _ rfl
        · obtain rfl := Option.some.inj ho.symm
          clear hdep ho hJ hst9
          try simp only [fill, slotOf, List.size_toArray, List.length_cons, List.length_nil, Nat.reduceAdd, List.getElem?_toArray, List.getElem?_cons_zero, List.getElem?_cons_succ, Option.bind_some, Act.put, List.setIfInBounds_toArray, List.set_cons_zero, List.set_cons_succ] at hK ⊢
          go_simp
          exact hK (.pointer (some ⟨bR, 3, none⟩)) _ HJ.out rfl (fun j y h => h) _ rfl
        · obtain rfl := Option.some.inj ho.symm
          have d9 : V 9 = .pointer (some ⟨bR, 3, none⟩) := hdep ⟨9, .data⟩ (by simp) rfl
          have u1 : w9.cell? ⟨bR, 3, none⟩ = some (.int .i64 bb) := (hJ.cell (p := ⟨bR, 3, none⟩) hlb).trans r3
          clear hdep ho hJ hst9
          try simp only [fill, slotOf, List.size_toArray, List.length_cons, List.length_nil, Nat.reduceAdd, List.getElem?_toArray, List.getElem?_cons_zero, List.getElem?_cons_succ, Option.bind_some, Act.put, List.setIfInBounds_toArray, List.set_cons_zero, List.set_cons_succ] at hK ⊢
          rw [d9] at hK ⊢
          go_simp
          exact hK (.int .i64 bb) _ HJ.out rfl (fun j y h => h) _ rfl
        · obtain rfl := Option.some.inj ho.symm
          have d10 : V 10 = .int .i64 bb := hdep ⟨10, .data⟩ (by simp) rfl
          have wv : IntKind.u64.wrap bb = bb := IntWalk.u64_in _ ⟨by omega, by omega⟩
          clear hdep ho hJ hst9
          try simp only [fill, slotOf, List.size_toArray, List.length_cons, List.length_nil, Nat.reduceAdd, List.getElem?_toArray, List.getElem?_cons_zero, List.getElem?_cons_succ, Option.bind_some, Act.put, List.setIfInBounds_toArray, List.set_cons_zero, List.set_cons_succ] at hK ⊢
          rw [d10] at hK ⊢
          go_simp
          exact hK (.int .u64 bb) _ HJ.out rfl (fun j y h => h) _ rfl
        · obtain rfl := Option.some.inj ho.symm
          have d11 : V 11 = .int .u64 bb := hdep ⟨11, .data⟩ (by simp) rfl
          clear hdep ho hJ hst9
          try simp only [fill, slotOf, List.size_toArray, List.length_cons, List.length_nil, Nat.reduceAdd, List.getElem?_toArray, List.getElem?_cons_zero, List.getElem?_cons_succ, Option.bind_some, Act.put, List.setIfInBounds_toArray, List.set_cons_zero, List.set_cons_succ] at hK ⊢
          rw [d11] at hK ⊢
          go_simp
          refine (HP2.out w9).mono ?_
          rintro e w8 ⟨g8, c8, rfl, h1, hb8⟩
          exact hK (.slice (some ⟨g8, 0, none⟩) _ c8) _ (HJ.out.trans (hb8.mono HJ.out.size)) ⟨g8, c8, rfl, h1⟩ (FV2.mono (HSM.out _ _ hb8)) _ rfl
        · have hoo := Option.some.inj ho.symm
          obtain ⟨g6, c6, eV6, hv6⟩ : ∃ g1 c1, V 12 = .slice (some ⟨g1, 0, none⟩) X2.length c1 ∧ BytesAt w9 (some ⟨g1, 0, none⟩) X2.length c1 X2 := hdep ⟨12, .data⟩ (by rw [hoo]; simp) rfl
          have hcv := hv6.conv
          rw [← HS2.out] at hcv
          subst hoo
          clear hdep ho hJ hst9 hv6
          try simp only [fill, slotOf, List.size_toArray, List.length_cons, List.length_nil, Nat.reduceAdd, List.getElem?_toArray, List.getElem?_cons_zero, List.getElem?_cons_succ, Option.bind_some, Act.put, List.setIfInBounds_toArray, List.set_cons_zero, List.set_cons_succ] at hK ⊢
          rw [eV6] at hK ⊢
          go_simp
          exact hK (.string s2) _ HJ.out rfl (fun j y h => h) _ rfl
        · obtain rfl := Option.some.inj ho.symm
          have d8 : V 8 = .string (k ++ ByteArray.mk #[0] ++ s1) := hdep ⟨8, .data⟩ (by simp) rfl
          have d13 : V 13 = .string s2 := hdep ⟨13, .data⟩ (by simp) rfl
          clear hdep ho hJ hst9
          try simp only [fill, slotOf, List.size_toArray, List.length_cons, List.length_nil, Nat.reduceAdd, List.getElem?_toArray, List.getElem?_cons_zero, List.getElem?_cons_succ, Option.bind_some, Act.put, List.setIfInBounds_toArray, List.set_cons_zero, List.set_cons_succ] at hK ⊢
          rw [d8, d13] at hK ⊢
          go_simp
          exact hK (.string (k ++ ByteArray.mk #[0] ++ s1 ++ s2)) _ HJ.out rfl (fun j y h => h) _ rfl
        · obtain rfl := Option.some.inj ho.symm
          clear hdep ho hJ hst9
          try simp only [fill, slotOf, List.size_toArray, List.length_cons, List.length_nil, Nat.reduceAdd, List.getElem?_toArray, List.getElem?_cons_zero, List.getElem?_cons_succ, Option.bind_some, Act.put, List.setIfInBounds_toArray, List.set_cons_zero, List.set_cons_succ] at hK ⊢
          go_simp
          exact hK (.pointer (some ⟨bR, 1, none⟩)) _ HJ.out rfl (fun j y h => h) _ rfl
        · obtain rfl := Option.some.inj ho.symm
          have d15 : V 15 = .pointer (some ⟨bR, 1, none⟩) := hdep ⟨15, .data⟩ (by simp) rfl
          have u1 : w9.cell? ⟨bR, 1, none⟩ = some (.slice ga gn gc) := (hJ.cell (p := ⟨bR, 1, none⟩) hlb).trans r1
          clear hdep ho hJ hst9
          try simp only [fill, slotOf, List.size_toArray, List.length_cons, List.length_nil, Nat.reduceAdd, List.getElem?_toArray, List.getElem?_cons_zero, List.getElem?_cons_succ, Option.bind_some, Act.put, List.setIfInBounds_toArray, List.set_cons_zero, List.set_cons_succ] at hK ⊢
          rw [d15] at hK ⊢
          go_simp
          exact hK (.slice ga gn gc) _ HJ.out rfl (fun j y h => h) _ rfl
        · obtain rfl := Option.some.inj ho.symm
          have d16 : V 16 = .slice ga gn gc := hdep ⟨16, .data⟩ (by simp) rfl
          clear hdep ho hJ hst9
          try simp only [fill, slotOf, List.size_toArray, List.length_cons, List.length_nil, Nat.reduceAdd, List.getElem?_toArray, List.getElem?_cons_zero, List.getElem?_cons_succ, Option.bind_some, Act.put, List.setIfInBounds_toArray, List.set_cons_zero, List.set_cons_succ] at hK ⊢
          rw [d16] at hK ⊢
          go_simp
          exact hK (.int .i64 (gn : Int)) _ HJ.out rfl (fun j y h => h) _ rfl
        · obtain rfl := Option.some.inj ho.symm
          have d17 : V 17 = .int .i64 (gn : Int) := hdep ⟨17, .data⟩ (by simp) rfl
          have wv : IntKind.u64.wrap (gn : Int) = (gn : Int) := IntWalk.u64_in _ ⟨by omega, by omega⟩
          clear hdep ho hJ hst9
          try simp only [fill, slotOf, List.size_toArray, List.length_cons, List.length_nil, Nat.reduceAdd, List.getElem?_toArray, List.getElem?_cons_zero, List.getElem?_cons_succ, Option.bind_some, Act.put, List.setIfInBounds_toArray, List.set_cons_zero, List.set_cons_succ] at hK ⊢
          rw [d17] at hK ⊢
          go_simp
          exact hK (.int .u64 (gn : Int)) _ HJ.out rfl (fun j y h => h) _ rfl
        · obtain rfl := Option.some.inj ho.symm
          have d18 : V 18 = .int .u64 (gn : Int) := hdep ⟨18, .data⟩ (by simp) rfl
          clear hdep ho hJ hst9
          try simp only [fill, slotOf, List.size_toArray, List.length_cons, List.length_nil, Nat.reduceAdd, List.getElem?_toArray, List.getElem?_cons_zero, List.getElem?_cons_succ, Option.bind_some, Act.put, List.setIfInBounds_toArray, List.set_cons_zero, List.set_cons_succ] at hK ⊢
          rw [d18] at hK ⊢
          go_simp
          refine (HP3.out w9).mono ?_
          rintro e w8 ⟨g8, c8, rfl, h1, hb8⟩
          exact hK (.slice (some ⟨g8, 0, none⟩) _ c8) _ (HJ.out.trans (hb8.mono HJ.out.size)) ⟨g8, c8, rfl, h1⟩ (FV2.mono (HSM.out _ _ hb8)) _ rfl
        · have hoo := Option.some.inj ho.symm
          obtain ⟨g6, c6, eV6, hv6⟩ : ∃ g1 c1, V 19 = .slice (some ⟨g1, 0, none⟩) X3.length c1 ∧ BytesAt w9 (some ⟨g1, 0, none⟩) X3.length c1 X3 := hdep ⟨19, .data⟩ (by rw [hoo]; simp) rfl
          have hcv := hv6.conv
          rw [← HS3.out] at hcv
          subst hoo
          clear hdep ho hJ hst9 hv6
          try simp only [fill, slotOf, List.size_toArray, List.length_cons, List.length_nil, Nat.reduceAdd, List.getElem?_toArray, List.getElem?_cons_zero, List.getElem?_cons_succ, Option.bind_some, Act.put, List.setIfInBounds_toArray, List.set_cons_zero, List.set_cons_succ] at hK ⊢
          rw [eV6] at hK ⊢
          go_simp
          exact hK (.string s3) _ HJ.out rfl (fun j y h => h) _ rfl
        · obtain rfl := Option.some.inj ho.symm
          have d14 : V 14 = .string (k ++ ByteArray.mk #[0] ++ s1 ++ s2) := hdep ⟨14, .data⟩ (by simp) rfl
          have d20 : V 20 = .string s3 := hdep ⟨20, .data⟩ (by simp) rfl
          clear hdep ho hJ hst9
          try simp only [fill, slotOf, List.size_toArray, List.length_cons, List.length_nil, Nat.reduceAdd, List.getElem?_toArray, List.getElem?_cons_zero, List.getElem?_cons_succ, Option.bind_some, Act.put, List.setIfInBounds_toArray, List.set_cons_zero, List.set_cons_succ] at hK ⊢
          rw [d14, d20] at hK ⊢
          go_simp
          exact hK (.string (k ++ ByteArray.mk #[0] ++ s1 ++ s2 ++ s3)) _ HJ.out rfl (fun j y h => h) _ rfl
        · obtain rfl := Option.some.inj ho.symm
          clear hdep ho hJ hst9
          try simp only [fill, slotOf, List.size_toArray, List.length_cons, List.length_nil, Nat.reduceAdd, List.getElem?_toArray, List.getElem?_cons_zero, List.getElem?_cons_succ, Option.bind_some, Act.put, List.setIfInBounds_toArray, List.set_cons_zero, List.set_cons_succ] at hK ⊢
          go_simp
          exact hK (.pointer (some ⟨bR, 1, none⟩)) _ HJ.out rfl (fun j y h => h) _ rfl
        · obtain rfl := Option.some.inj ho.symm
          have d22 : V 22 = .pointer (some ⟨bR, 1, none⟩) := hdep ⟨22, .data⟩ (by simp) rfl
          have u1 : w9.cell? ⟨bR, 1, none⟩ = some (.slice ga gn gc) := (hJ.cell (p := ⟨bR, 1, none⟩) hlb).trans r1
          clear hdep ho hJ hst9
          try simp only [fill, slotOf, List.size_toArray, List.length_cons, List.length_nil, Nat.reduceAdd, List.getElem?_toArray, List.getElem?_cons_zero, List.getElem?_cons_succ, Option.bind_some, Act.put, List.setIfInBounds_toArray, List.set_cons_zero, List.set_cons_succ] at hK ⊢
          rw [d22] at hK ⊢
          go_simp
          exact hK (.slice ga gn gc) _ HJ.out rfl (fun j y h => h) _ rfl
        · obtain rfl := Option.some.inj ho.symm
          have d23 : V 23 = .slice ga gn gc := hdep ⟨23, .data⟩ (by simp) rfl
          have hcv := HCV.out w9 hJ
          clear hdep ho hJ hst9
          try simp only [fill, slotOf, List.size_toArray, List.length_cons, List.length_nil, Nat.reduceAdd, List.getElem?_toArray, List.getElem?_cons_zero, List.getElem?_cons_succ, Option.bind_some, Act.put, List.setIfInBounds_toArray, List.set_cons_zero, List.set_cons_succ] at hK ⊢
          rw [d23] at hK ⊢
          go_simp
          exact hK (.string d) _ HJ.out rfl (fun j y h => h) _ rfl
        · obtain rfl := Option.some.inj ho.symm
          have d21 : V 21 = .string (k ++ ByteArray.mk #[0] ++ s1 ++ s2 ++ s3) := hdep ⟨21, .data⟩ (by simp) rfl
          have d24 : V 24 = .string d := hdep ⟨24, .data⟩ (by simp) rfl
          clear hdep ho hJ hst9
          try simp only [fill, slotOf, List.size_toArray, List.length_cons, List.length_nil, Nat.reduceAdd, List.getElem?_toArray, List.getElem?_cons_zero, List.getElem?_cons_succ, Option.bind_some, Act.put, List.setIfInBounds_toArray, List.set_cons_zero, List.set_cons_succ] at hK ⊢
          rw [d21, d24] at hK ⊢
          go_simp
          exact hK (.string (k ++ ByteArray.mk #[0] ++ s1 ++ s2 ++ s3 ++ d)) _ HJ.out rfl (fun j y h => h) _ rfl
        · obtain rfl := Option.some.inj ho.symm
          have d0 : V 0 = .string T := hdep ⟨0, .data⟩ (by simp) rfl
          have d25 : V 25 = .string (k ++ ByteArray.mk #[0] ++ s1 ++ s2 ++ s3 ++ d) := hdep ⟨25, .data⟩ (by simp) rfl
          clear hdep ho hJ hst9
          try simp only [fill, slotOf, List.size_toArray, List.length_cons, List.length_nil, Nat.reduceAdd, List.getElem?_toArray, List.getElem?_cons_zero, List.getElem?_cons_succ, Option.bind_some, Act.put, List.setIfInBounds_toArray, List.set_cons_zero, List.set_cons_succ] at hK ⊢
          rw [d0, d25] at hK ⊢
          go_simp
          exact hK (.string (T ++ (k ++ ByteArray.mk #[0] ++ s1 ++ s2 ++ s3 ++ d))) _ HJ.out rfl (fun j y h => h) _ rfl
        · obtain rfl := Option.some.inj ho.symm
          have d26 : V 26 = .string (T ++ (k ++ ByteArray.mk #[0] ++ s1 ++ s2 ++ s3 ++ d)) := hdep ⟨26, .data⟩ (by simp) rfl
          clear hdep ho hJ hst9
          try simp only [fill, slotOf, List.size_toArray, List.length_cons, List.length_nil, Nat.reduceAdd, List.getElem?_toArray, List.getElem?_cons_zero, List.getElem?_cons_succ, Option.bind_some, Act.put, List.setIfInBounds_toArray, List.set_cons_zero, List.set_cons_succ] at hK ⊢
          rw [d26] at hK ⊢
          go_simp
          exact hK (.string (T ++ (k ++ ByteArray.mk #[0] ++ s1 ++ s2 ++ s3 ++ d))) _ HJ.out rfl (fun j y h => h) _ rfl
      · intro V w9 hJ hall
        have dL : V 27 = .string (T ++ (k ++ ByteArray.mk #[0] ++ s1 ++ s2 ++ s3 ++ d)) := hall 27 (by decide)
        have HJ9 := Lib.hid hJ
        clear hall hJ
        simp only [fill, slotOf, List.size_toArray, List.length_cons, List.length_nil, Nat.reduceAdd, List.getElem?_toArray, List.getElem?_cons_zero, List.getElem?_cons_succ, Option.bind_some, Act.put, List.setIfInBounds_toArray, List.set_cons_zero, List.set_cons_succ]
        rw [dL]
        clear dL
        have HB9 := Lib.hid (HB5.out.trans (HJ9.out.mono (Nat.le_trans HBS.out HB5.out.size)))
        have HS9 := Lib.hid (HIB.out _ _ HS5.out HJ9.out)
        have HK9 := Lib.hid (HKW.out.below HJ9.out)
        have hkc9 := HKC.out.below HJ9.out
        have HEQ9 : Hid (∀ g', some (⟨g, 0, none⟩ : Addr) = some ⟨g', 0, none⟩ → w9.heap[g']? = w3.heap[g']?) := Lib.hid (by
          intro g' e
          cases e
          obtain ⟨cu, hcu⟩ := HCUR.out g rfl
          rw [hcu]
          exact hkc9 _ _ _ _ ((HEQ.out g rfl).trans hcu) (by decide))
        have hT9 : (T ++ (k ++ ByteArray.mk #[0] ++ s1 ++ s2 ++ s3 ++ d)).size ≤ 300000 * (i + 1) := by
          simp only [ByteArray.size_append, show (ByteArray.mk #[0] : ByteArray).size = 1 from rfl]
          omega
        obtain ⟨T9, hT9e⟩ : ∃ T9, T9 = T ++ (k ++ ByteArray.mk #[0] ++ s1 ++ s2 ++ s3 ++ d) := ⟨_, rfl⟩
        rw [← hT9e] at hT9
        rw [← hT9e]
        have HT9 : Hid (T9 = dumpO σ.objs (i + 1)) := Lib.hid (by rw [hT9e, dumpO_succ HPI.out, ← HT.out]; unfold objT; rw [← HSS.out.1, ← HSS.out.2.1, ← HSS.out.2.2, HKD.out.1, HKD.out.2])
        clear hT9e hkc9 HJ9 f1 f2 f3 f4 f5 f6 r1 r2 r3
        go_wp2_with fail
        go_roundw
        case rel => exact ⟨i + 1, T9, by omega, by push_cast; rfl, rfl, hT9, HT9, HEQ9, HS9, HB9, HK9⟩
        case measure => simp only [intOf]; omega
    · have e : i = N := by omega
      have HUP := Lib.hid (uploads_st (HIN.out _ HS.out) (by have := HI.out.nup; omega))
      have hTz : T.size ≤ 153600000 := by omega
      have HT' : Hid (T = dumpO σ.objs N) := Lib.hid (by rw [← e]; exact HT.out)
      clear HT hTs
      have HT := HT'
      clear HT'
      go_wp2_with fail
      refine HUP.out.mono ?_
      rintro e w6 ⟨v, rfl, hrow, hb6⟩
      obtain ⟨M, hM⟩ : ∃ M, M = σ.ups.length := ⟨_, rfl⟩
      rw [← hM] at hrow
      have HMM := Lib.hid hM
      have hM512 : M ≤ 512 := by rw [hM]; exact HI.out.nup
      have hcur : ∀ g, v.ownBlock = some g → ∃ cur, w6.heap[g]? = some (.cells cur 3 (0, 0)) := by
        intro g hg
        rcases hrow.2 with ⟨rfl, hz⟩ | ⟨g', cap, cu, rfl, hbg, hh, _⟩
        · cases hg
        · cases hg; exact ⟨_, hh⟩
      obtain ⟨a, c, rfl, hget⟩ := row_get (S := IntS) (l := σ.ups.map (·.1)) hrow (by rw [List.length_map, hM]) (fun x hx => by
        obtain ⟨p, hp, rfl⟩ := List.mem_map.1 hx
        exact wf_small (by have := HI.out.upl p hp; omega))
      clear HCUR HGET
      have HCUR := Lib.hid hcur
      have HGET := Lib.hid hget
      have HB6 := Lib.hid (HB.out.trans (hb6.mono (Nat.le_trans HBS.out HB.out.size)))
      have HS6 := Lib.hid (HIB.out _ _ HS.out hb6)
      have HK6 := Lib.hid (HK.out.below hb6)
      clear hrow hb6 hcur hget hM HUP HS HB HK HEQ hiN hk2 e
      go_wp2_with fail
      go_loopw [3, 52] (fun s3 s52 wr => ∃ (j : Nat) (U : ByteArray), j ≤ M ∧ s52 = .int .i64 j ∧ s3 = .string U ∧ U.size ≤ 153600000 + 100 * j ∧ Hid (U = dumpU σ.ups T j) ∧ Hid (∀ g, a = some ⟨g, 0, none⟩ → wr.heap[g]? = w6.heap[g]?) ∧ Hid (I wr) ∧ Hid (Below base w wr) ∧ Hid (KeepC w wr)) (fun _ s52 _ => M - (intOf s52).toNat)
      case atStart => exact ⟨0, T, by omega, rfl, rfl, by omega, Lib.hid rfl, Lib.hid (fun _ _ => rfl), HS6, HB6, HK6⟩
      case round =>
        clear HS6 HB6 HK6
        obtain ⟨j, U, hjM, rfl, rfl, hUs, HU, HEQ, HS, HB, HK⟩ := hrel
        rename World => wr
        by_cases hk2 : j < M
        · obtain ⟨p, hpi⟩ : ∃ p, σ.ups[j]? = some p := ⟨_, List.getElem?_eq_getElem (by rw [← HMM.out]; exact hk2)⟩
          have hpm : p ∈ σ.ups := List.mem_of_getElem? hpi
          obtain ⟨g, ha, hgb, hgl, hcell⟩ := HGET.out j hk2
          obtain ⟨di, hdi⟩ : ∃ di, di = p.1 := ⟨_, rfl⟩
          obtain ⟨k, hkk⟩ : ∃ k, k = p.2.key := ⟨_, rfl⟩
          obtain ⟨pz, hpz⟩ : ∃ pz, pz = psz p.2.parts := ⟨_, rfl⟩
          have hc1 := hcell 0 (.int .i64 di) (by rw [map_getD hpi, hdi]; rfl)
          rw [show j * IntS.K + 0 = j from Nat.mul_one j] at hc1
          have hck : wr.cell? ⟨g, j, none⟩ = some (.int .i64 di) := by rw [← hc1]; exact cell_of_heap (HEQ.out g ha)
          have HGT := Lib.hid (HIO.out _ (p.1 - 1) HS.out (Nat.le_trans HBS.out HB.out.size))
          obtain ⟨r, hr⟩ := opened_first (HIN.out _ HS.out).rise.1 hpi
          unfold opnL at HGT
          rw [hr, ← hdi, ← hkk, ← hpz] at HGT
          have HPI := Lib.hid hpi
          obtain ⟨q1, q2, q3, q4, q5, q6⟩ := HI.out.upl p hpm
          rw [← hkk] at q3
          rw [← hdi] at q1 q2
          have hks : k.size ≤ 40 := by
            unfold isKeyB at q3
            simp only [Bool.and_eq_true, decide_eq_true_eq] at q3
            exact q3.1.2
          have hpzs : pz ≤ 4194304 := by
            have h1 : psz p.2.parts ≤ totK uSz σ.ups := tot_mem uSz hpm
            have h2 := HI.out.tot
            have h3 := HI.out.siz
            omega
          obtain ⟨X1, hX1⟩ : ∃ X, X = pu di.toNat := ⟨_, rfl⟩
          obtain ⟨X2, hX2⟩ : ∃ X, X = pu ((pz : Nat) : Int).toNat := ⟨_, rfl⟩
          obtain ⟨s1, hs1⟩ : ∃ s, s = bs X1 := ⟨_, rfl⟩
          obtain ⟨s2, hs2⟩ : ∃ s, s = bs X2 := ⟨_, rfl⟩
          have n1 : s1.size ≤ 10 := by rw [hs1, hX1]; exact nT_size (z := di) (by omega) (by omega)
          have n2 : s2.size ≤ 10 := by rw [hs2, hX2]; exact nT_size (z := ((pz : Nat) : Int)) (by omega) (by omega)
          have HSS := Lib.hid (show s1 = nT p.1 ∧ s2 = nT ((psz p.2.parts : Nat) : Int) from ⟨by rw [hs1, hX1, hdi]; rfl, by rw [hs2, hX2, hpz]; rfl⟩)
          have HP1 := Lib.hid (rputz di (by omega) (by omega) X1 hX1)
          have HP2 := Lib.hid (rputz ((pz : Nat) : Int) (by omega) (by omega) X2 hX2)
          have HKD := Lib.hid (show k = p.2.key from hkk)
          have HS1 := Lib.hid hs1
          have HS2 := Lib.hid hs2
          have zi : (j : Int) < (M : Int) := by omega
          have zi0 : (0 : Int) ≤ (j : Int) := by omega
          have wi : IntKind.i64.wrap ((j : Int) + 1) = (j : Int) + 1 := IntWalk.i64_in _ (by omega)
          have wd : IntKind.i64.wrap (di - 1) = di - 1 := IntWalk.i64_in _ (by omega)
          clear hpi hpm hcell hc1 hgb hgl hX1 hX2 hs1 hs2 hkk hdi hpz hr q3 q4 q5 q6
          subst ha
          go_wp2_with fail
          refine HGT.out.mono ?_
          rintro e w4 ⟨hb4, hkc4, hs4, la, ln, lc, rfl, hl16, hln, hown⟩
          have hln1 : 1 ≤ ln := by rw [hln]; simp
          unfold repV
          obtain ⟨mo, hmo⟩ : ∃ mo, mo = decide (16 < ((⟨k, di, (pz : Int), p.2.born⟩ : ItemV) :: r).length) := ⟨_, rfl⟩
          rw [← hmo]
          obtain ⟨la', lc', he, hlg⟩ := row_get (S := ItemS) hown (by rw [hln]) (fun _ _ => trivial)
          cases he
          obtain ⟨lb, hla, _, hlb4, hlc⟩ := hlg 0 (by omega)
          subst hla
          obtain ⟨bR, hbR⟩ : ∃ bR, bR = w4.heap.size := ⟨_, rfl⟩
          obtain ⟨w5, hw5⟩ : ∃ w5, w5 = w4.alloc (.cells #[.int .i64 0, .slice none 0 0, .int .i64 0, .int .i64 0, .int .i64 0, .slice (some ⟨lb, 0, none⟩) ln lc, .bool mo] 35) := ⟨_, rfl⟩
          have hb5 : Below w4.heap.size w4 w5 := by rw [hw5]; exact (Below.refl _ _).alloc (Nat.le_refl _) _
          have hk5 : w5.heap[bR]? = some (.cells #[.int .i64 0, .slice none 0 0, .int .i64 0, .int .i64 0, .int .i64 0, .slice (some ⟨lb, 0, none⟩) ln lc, .bool mo] 35 (0, 0)) := by rw [hw5, hbR]; exact heap_new w4 _
          have hbw4 := HB.out.trans hb4
          have HB5 := Lib.hid (hbw4.trans (hb5.mono (Nat.le_trans HBS.out hbw4.size)))
          have HS5 := Lib.hid (HIB.out _ _ hs4 hb5)
          have HKC := Lib.hid (hkc4.below hb5)
          have HKW : Hid (KeepC w w5) := Lib.hid (fun b cs t fr g0 ht => HKC.out b cs t fr (HK.out b cs t fr g0 ht) ht)
          have e5 := cell_blk2 hk5 (i := 5) (u := .slice (some ⟨lb, 0, none⟩) ln lc) rfl
          have hlb : bR < w5.heap.size := (Array.getElem?_eq_some_iff.1 hk5).1
          have hll : lb < w5.heap.size := Nat.lt_of_lt_of_le hlb4 hb5.size
          have l0 : w5.cell? ⟨lb, 0, none⟩ = some (.string k) := (hb5.cell (p := ⟨lb, 0, none⟩) hlb4).trans (hlc 0 _ rfl)
          have l1 : w5.cell? ⟨lb, 1, none⟩ = some (.int .i64 di) := (hb5.cell (p := ⟨lb, 1, none⟩) hlb4).trans (hlc 1 _ rfl)
          have l2 : w5.cell? ⟨lb, 2, none⟩ = some (.int .i64 (pz : Int)) := (hb5.cell (p := ⟨lb, 2, none⟩) hlb4).trans (hlc 2 _ rfl)
          have HW5 := Lib.hid hw5
          have HBR := Lib.hid hbR
          have zl : (0 : Int) < (ln : Int) := by omega
          have HSM := Lib.hid (show ∀ (w w' : World), Below w.heap.size w w' → ∀ j u, (fun (j_8 : Nat) (u : Value) (w : World) => match j_8 with | 13 => (∃ g1 c1, u = .slice (some ⟨g1, 0, none⟩) X1.length c1 ∧ BytesAt w (some ⟨g1, 0, none⟩) X1.length c1 X1) | _ => (∃ g1 c1, u = .slice (some ⟨g1, 0, none⟩) X2.length c1 ∧ BytesAt w (some ⟨g1, 0, none⟩) X2.length c1 X2)) j u w → (fun (j_8 : Nat) (u : Value) (w : World) => match j_8 with | 13 => (∃ g1 c1, u = .slice (some ⟨g1, 0, none⟩) X1.length c1 ∧ BytesAt w (some ⟨g1, 0, none⟩) X1.length c1 X1) | _ => (∃ g1 c1, u = .slice (some ⟨g1, 0, none⟩) X2.length c1 ∧ BytesAt w (some ⟨g1, 0, none⟩) X2.length c1 X2)) j u w' from fun w w' hb j u hh => by
            dsimp only at hh ⊢
            split at hh <;> (obtain ⟨a', c', e1, e2⟩ := hh; exact ⟨a', c', e1, e2.kept hb⟩))
          have f1 : ¬ 9223372036854775807 < 1 + k.size := by omega
          have f2 : ¬ 9223372036854775807 < 1 + k.size + s1.size := by omega
          have f3 : ¬ 9223372036854775807 < 1 + k.size + s1.size + s2.size := by omega
          have f4 : ¬ 9223372036854775807 < U.size + (1 + k.size + s1.size + s2.size) := by omega
          clear hmo hw5 hb5 hk5 hb4 hkc4 hs4 hbw4 HGT hck hbR hown hlg hlc hlb4 hln
          go_upto_region 13 with fail
          rw [← HW5.out, ← HBR.out]
          rw [show decide (0 < ln) = true from decide_eq_true (by omega)]
          refine wp_region_fill0 (by kernel_rfl) (by kernel_rfl) (by kernel_rfl) 0 26 (fun L hc h => hc 25 _ rfl (hc 26 _ rfl h ⟨25, .data⟩ (by simp) rfl) ⟨0, .data⟩ (by simp) rfl) (Below w5.heap.size w5) (FV2 (fun j_9 => match j_9 with | 0 => some (.string U) | 1 => some (.pointer (some ⟨bR, 5, none⟩)) | 2 => some (.slice (some ⟨lb, 0, none⟩) ln lc) | 3 => some (.pointer (some ⟨lb, 0, none⟩)) | 4 => some (.pointer (some ⟨lb, 0, none⟩)) | 5 => some (.string k) | 6 => some (.string (ByteArray.mk #[1] ++ k)) | 7 => some (.pointer (some ⟨bR, 5, none⟩)) | 8 => some (.slice (some ⟨lb, 0, none⟩) ln lc) | 9 => some (.pointer (some ⟨lb, 0, none⟩)) | 10 => some (.pointer (some ⟨lb, 1, none⟩)) | 11 => some (.int .i64 di) | 12 => some (.int .u64 di) | 13 => none | 14 => some (.string s1) | 15 => some (.string (ByteArray.mk #[1] ++ k ++ s1)) | 16 => some (.pointer (some ⟨bR, 5, none⟩)) | 17 => some (.slice (some ⟨lb, 0, none⟩) ln lc) | 18 => some (.pointer (some ⟨lb, 0, none⟩)) | 19 => some (.pointer (some ⟨lb, 2, none⟩)) | 20 => some (.int .i64 (pz : Int)) | 21 => some (.int .u64 (pz : Int)) | 22 => none | 23 => some (.string s2) | 24 => some (.string (ByteArray.mk #[1] ++ k ++ s1 ++ s2)) | 25 => some (.string (U ++ (ByteArray.mk #[1] ++ k ++ s1 ++ s2))) | 26 => some (.string (U ++ (ByteArray.mk #[1] ++ k ++ s1 ++ s2))) | _ => none) (fun (j_8 : Nat) (u : Value) (w : World) => match j_8 with | 13 => (∃ g1 c1, u = .slice (some ⟨g1, 0, none⟩) X1.length c1 ∧ BytesAt w (some ⟨g1, 0, none⟩) X1.length c1 X1) | _ => (∃ g1 c1, u = .slice (some ⟨g1, 0, none⟩) X2.length c1 ∧ BytesAt w (some ⟨g1, 0, none⟩) X2.length c1 X2))) (Below.refl _ _).drew ?_ ?_
          · intro i9 o ho V w9 K hJ hst9 hdep hK
            have HJ := Lib.hid hJ
            simp only [fill, slotOf, List.size_toArray, List.length_cons, List.length_nil, Nat.reduceAdd, List.getElem?_toArray, List.getElem?_cons_zero, List.getElem?_cons_succ, Option.bind_some, Act.put, List.setIfInBounds_toArray, List.set_cons_zero, List.set_cons_succ] at hK ⊢
            have hin : i9 < 27 := (Array.getElem?_eq_some_iff.1 ho).1
            have hcs : i9 = 0 ∨ i9 = 1 ∨ i9 = 2 ∨ i9 = 3 ∨ i9 = 4 ∨ i9 = 5 ∨ i9 = 6 ∨ i9 = 7 ∨ i9 = 8 ∨ i9 = 9 ∨ i9 = 10 ∨ i9 = 11 ∨ i9 = 12 ∨ i9 = 13 ∨ i9 = 14 ∨ i9 = 15 ∨ i9 = 16 ∨ i9 = 17 ∨ i9 = 18 ∨ i9 = 19 ∨ i9 = 20 ∨ i9 = 21 ∨ i9 = 22 ∨ i9 = 23 ∨ i9 = 24 ∨ i9 = 25 ∨ i9 = 26 := by omega
            clear hin
            rcases hcs with rfl | rfl | rfl | rfl | rfl | rfl | rfl | rfl | rfl | rfl | rfl | rfl | rfl | rfl | rfl | rfl | rfl | rfl | rfl | rfl | rfl | rfl | rfl | rfl | rfl | rfl | rfl
            · obtain rfl := Option.some.inj ho.symm
              have dS : V 26 = .string U := (hst9 rfl).trans rfl
              clear hdep ho hJ hst9
              try simp only [fill, slotOf, List.size_toArray, List.length_cons, List.length_nil, Nat.reduceAdd, List.getElem?_toArray, List.getElem?_cons_zero, List.getElem?_cons_succ, Option.bind_some, Act.put, List.setIfInBounds_toArray, List.set_cons_zero, List.set_cons_succ] at hK ⊢
              rw [dS] at hK ⊢
              go_simp
              exact hK (.string U) _ HJ.out rfl (fun j y h => h) _ rfl
            · obtain rfl := Option.some.inj ho.symm
              clear hdep ho hJ hst9
              try simp only [fill, slotOf, List.size_toArray, List.length_cons, List.length_nil, Nat.reduceAdd, List.getElem?_toArray, List.getElem?_cons_zero, List.getElem?_cons_succ, Option.bind_some, Act.put, List.setIfInBounds_toArray, List.set_cons_zero, List.set_cons_succ] at hK ⊢
              go_simp
              exact hK (.pointer (some ⟨bR, 5, none⟩)) _ HJ.out rfl (fun j y h => h) _ rfl
            · obtain rfl := Option.some.inj ho.symm
              have d1 : V 1 = .pointer (some ⟨bR, 5, none⟩) := hdep ⟨1, .data⟩ (by simp) rfl
              have u1 : w9.cell? ⟨bR, 5, none⟩ = some (.slice (some ⟨lb, 0, none⟩) ln lc) := (hJ.cell (p := ⟨bR, 5, none⟩) hlb).trans e5
              clear hdep ho hJ hst9
              try simp only [fill, slotOf, List.size_toArray, List.length_cons, List.length_nil, Nat.reduceAdd, List.getElem?_toArray, List.getElem?_cons_zero, List.getElem?_cons_succ, Option.bind_some, Act.put, List.setIfInBounds_toArray, List.set_cons_zero, List.set_cons_succ] at hK ⊢
              rw [d1] at hK ⊢
              go_simp
              exact hK (.slice (some ⟨lb, 0, none⟩) ln lc) _ HJ.out rfl (fun j y h => h) _ rfl
            · obtain rfl := Option.some.inj ho.symm
              have d2 : V 2 = .slice (some ⟨lb, 0, none⟩) ln lc := hdep ⟨2, .data⟩ (by simp) rfl
              clear hdep ho hJ hst9
              try simp only [fill, slotOf, List.size_toArray, List.length_cons, List.length_nil, Nat.reduceAdd, List.getElem?_toArray, List.getElem?_cons_zero, List.getElem?_cons_succ, Option.bind_some, Act.put, List.setIfInBounds_toArray, List.set_cons_zero, List.set_cons_succ] at hK ⊢
              rw [d2] at hK ⊢
              go_simp
              exact hK (.pointer (some ⟨lb, 0, none⟩)) _ HJ.out rfl (fun j y h => h) _ rfl
            · obtain rfl := Option.some.inj ho.symm
              have d3 : V 3 = .pointer (some ⟨lb, 0, none⟩) := hdep ⟨3, .data⟩ (by simp) rfl
              clear hdep ho hJ hst9
              try simp only [fill, slotOf, List.size_toArray, List.length_cons, List.length_nil, Nat.reduceAdd, List.getElem?_toArray, List.getElem?_cons_zero, List.getElem?_cons_succ, Option.bind_some, Act.put, List.setIfInBounds_toArray, List.set_cons_zero, List.set_cons_succ] at hK ⊢
              rw [d3] at hK ⊢
              go_simp
              exact hK (.pointer (some ⟨lb, 0, none⟩)) _ HJ.out rfl (fun j y h => h) _ rfl
            · obtain rfl := Option.some.inj ho.symm
              have d4 : V 4 = .pointer (some ⟨lb, 0, none⟩) := hdep ⟨4, .data⟩ (by simp) rfl
              have u1 : w9.cell? ⟨lb, 0, none⟩ = some (.string k) := (hJ.cell (p := ⟨lb, 0, none⟩) hll).trans l0
              clear hdep ho hJ hst9
              try simp only [fill, slotOf, List.size_toArray, List.length_cons, List.length_nil, Nat.reduceAdd, List.getElem?_toArray, List.getElem?_cons_zero, List.getElem?_cons_succ, Option.bind_some, Act.put, List.setIfInBounds_toArray, List.set_cons_zero, List.set_cons_succ] at hK ⊢
              rw [d4] at hK ⊢
              go_simp
              exact hK (.string k) _ HJ.out rfl (fun j y h => h) _ rfl
            · obtain rfl := Option.some.inj ho.symm
              have d5 : V 5 = .string k := hdep ⟨5, .data⟩ (by simp) rfl
              clear hdep ho hJ hst9
              try simp only [fill, slotOf, List.size_toArray, List.length_cons, List.length_nil, Nat.reduceAdd, List.getElem?_toArray, List.getElem?_cons_zero, List.getElem?_cons_succ, Option.bind_some, Act.put, List.setIfInBounds_toArray, List.set_cons_zero, List.set_cons_succ] at hK ⊢
              rw [d5] at hK ⊢
              go_simp
              exact hK (.string (ByteArray.mk #[1] ++ k)) _ HJ.out rfl (fun j y h => h) _ rfl
            · obtain rfl := Option.some.inj ho.symm
              clear hdep ho hJ hst9
              try simp only [fill, slotOf, List.size_toArray, List.length_cons, List.length_nil, Nat.reduceAdd, List.getElem?_toArray, List.getElem?_cons_zero, List.getElem?_cons_succ, Option.bind_some, Act.put, List.setIfInBounds_toArray, List.set_cons_zero, List.set_cons_succ] at hK ⊢
              go_simp
              exact hK (.pointer (some ⟨bR, 5, none⟩)) _ HJ.out rfl (fun j y h => h) _ rfl
            · obtain rfl := Option.some.inj ho.symm
              have d7 : V 7 = .pointer (some ⟨bR, 5, none⟩) := hdep ⟨7, .data⟩ (by simp) rfl
              have u1 : w9.cell? ⟨bR, 5, none⟩ = some (.slice (some ⟨lb, 0, none⟩) ln lc) := (hJ.cell (p := ⟨bR, 5, none⟩) hlb).trans e5
              clear hdep ho hJ hst9
              try simp only [fill, slotOf, List.size_toArray, List.length_cons, List.length_nil, Nat.reduceAdd, List.getElem?_toArray, List.getElem?_cons_zero, List.getElem?_cons_succ, Option.bind_some, Act.put, List.setIfInBounds_toArray, List.set_cons_zero, List.set_cons_succ] at hK ⊢
              rw [d7] at hK ⊢
              go_simp
              exact hK (.slice (some ⟨lb, 0, none⟩) ln lc) _ HJ.out rfl (fun j y h => h) _ rfl
            · obtain rfl := Option.some.inj ho.symm
              have d8 : V 8 = .slice (some ⟨lb, 0, none⟩) ln lc := hdep ⟨8, .data⟩ (by simp) rfl
              clear hdep ho hJ hst9
              try simp only [fill, slotOf, List.size_toArray, List.length_cons, List.length_nil, Nat.reduceAdd, List.getElem?_toArray, List.getElem?_cons_zero, List.getElem?_cons_succ, Option.bind_some, Act.put, List.setIfInBounds_toArray, List.set_cons_zero, List.set_cons_succ] at hK ⊢
              rw [d8] at hK ⊢
              go_simp
              exact hK (.pointer (some ⟨lb, 0, none⟩)) _ HJ.out rfl (fun j y h => h) _ rfl
            · obtain rfl := Option.some.inj ho.symm
              have d9 : V 9 = .pointer (some ⟨lb, 0, none⟩) := hdep ⟨9, .data⟩ (by simp) rfl
              clear hdep ho hJ hst9
              try simp only [fill, slotOf, List.size_toArray, List.length_cons, List.length_nil, Nat.reduceAdd, List.getElem?_toArray, List.getElem?_cons_zero, List.getElem?_cons_succ, Option.bind_some, Act.put, List.setIfInBounds_toArray, List.set_cons_zero, List.set_cons_succ] at hK ⊢
              rw [d9] at hK ⊢
              go_simp
              exact hK (.pointer (some ⟨lb, 1, none⟩)) _ HJ.out rfl (fun j y h => h) _ rfl
            · obtain rfl := Option.some.inj ho.symm
              have d10 : V 10 = .pointer (some ⟨lb, 1, none⟩) := hdep ⟨10, .data⟩ (by simp) rfl
              have u1 : w9.cell? ⟨lb, 1, none⟩ = some (.int .i64 di) := (hJ.cell (p := ⟨lb, 1, none⟩) hll).trans l1
              clear hdep ho hJ hst9
              try simp only [fill, slotOf, List.size_toArray, List.length_cons, List.length_nil, Nat.reduceAdd, List.getElem?_toArray, List.getElem?_cons_zero, List.getElem?_cons_succ, Option.bind_some, Act.put, List.setIfInBounds_toArray, List.set_cons_zero, List.set_cons_succ] at hK ⊢
              rw [d10] at hK ⊢
              go_simp
              exact hK (.int .i64 di) _ HJ.out rfl (fun j y h => h) _ rfl
            · obtain rfl := Option.some.inj ho.symm
              have d11 : V 11 = .int .i64 di := hdep ⟨11, .data⟩ (by simp) rfl
              have wv : IntKind.u64.wrap di = di := IntWalk.u64_in _ ⟨by omega, by omega⟩
              clear hdep ho hJ hst9
              try simp only [fill, slotOf, List.size_toArray, List.length_cons, List.length_nil, Nat.reduceAdd, List.getElem?_toArray, List.getElem?_cons_zero, List.getElem?_cons_succ, Option.bind_some, Act.put, List.setIfInBounds_toArray, List.set_cons_zero, List.set_cons_succ] at hK ⊢
              rw [d11] at hK ⊢
              go_simp
              exact hK (.int .u64 di) _ HJ.out rfl (fun j y h => h) _ rfl
            · obtain rfl := Option.some.inj ho.symm
              have d12 : V 12 = .int .u64 di := hdep ⟨12, .data⟩ (by simp) rfl
              clear hdep ho hJ hst9
              try simp only [fill, slotOf, List.size_toArray, List.length_cons, List.length_nil, Nat.reduceAdd, List.getElem?_toArray, List.getElem?_cons_zero, List.getElem?_cons_succ, Option.bind_some, Act.put, List.setIfInBounds_toArray, List.set_cons_zero, List.set_cons_succ] at hK ⊢
              rw [d12] at hK ⊢
              go_simp
              refine (HP1.out w9).mono ?_
              rintro e w8 ⟨g8, c8, rfl, h1, hb8⟩
              exact hK (.slice (some ⟨g8, 0, none⟩) _ c8) _ (HJ.out.trans (hb8.mono HJ.out.size)) ⟨g8, c8, rfl, h1⟩ (FV2.mono (HSM.out _ _ hb8)) _ rfl
            · have hoo := Option.some.inj ho.symm
              obtain ⟨g6, c6, eV6, hv6⟩ : ∃ g1 c1, V 13 = .slice (some ⟨g1, 0, none⟩) X1.length c1 ∧ BytesAt w9 (some ⟨g1, 0, none⟩) X1.length c1 X1 := hdep ⟨13, .data⟩ (by rw [hoo]; simp) rfl
              have hcv := hv6.conv
              rw [← HS1.out] at hcv
              subst hoo
              clear hdep ho hJ hst9 hv6
              try simp only [fill, slotOf, List.size_toArray, List.length_cons, List.length_nil, Nat.reduceAdd, List.getElem?_toArray, List.getElem?_cons_zero, List.getElem?_cons_succ, Option.bind_some, Act.put, List.setIfInBounds_toArray, List.set_cons_zero, List.set_cons_succ] at hK ⊢
              rw [eV6] at hK ⊢
              go_simp
              exact hK (.string s1) _ HJ.out rfl (fun j y h => h) _ rfl
            · obtain rfl := Option.some.inj ho.symm
              have d6 : V 6 = .string (ByteArray.mk #[1] ++ k) := hdep ⟨6, .data⟩ (by simp) rfl
              have d14 : V 14 = .string s1 := hdep ⟨14, .data⟩ (by simp) rfl
              clear hdep ho hJ hst9
              try simp only [fill, slotOf, List.size_toArray, List.length_cons, List.length_nil, Nat.reduceAdd, List.getElem?_toArray, List.getElem?_cons_zero, List.getElem?_cons_succ, Option.bind_some, Act.put, List.setIfInBounds_toArray, List.set_cons_zero, List.set_cons_succ] at hK ⊢
              rw [d6, d14] at hK ⊢
              go_simp
              exact hK (.string (ByteArray.mk #[1] ++ k ++ s1)) _ HJ.out rfl (fun j y h => h) _ rfl
            · obtain rfl := Option.some.inj ho.symm
              clear hdep ho hJ hst9
              try simp only [fill, slotOf, List.size_toArray, List.length_cons, List.length_nil, Nat.reduceAdd, List.getElem?_toArray, List.getElem?_cons_zero, List.getElem?_cons_succ, Option.bind_some, Act.put, List.setIfInBounds_toArray, List.set_cons_zero, List.set_cons_succ] at hK ⊢
              go_simp
              exact hK (.pointer (some ⟨bR, 5, none⟩)) _ HJ.out rfl (fun j y h => h) _ rfl
            · obtain rfl := Option.some.inj ho.symm
              have d16 : V 16 = .pointer (some ⟨bR, 5, none⟩) := hdep ⟨16, .data⟩ (by simp) rfl
              have u1 : w9.cell? ⟨bR, 5, none⟩ = some (.slice (some ⟨lb, 0, none⟩) ln lc) := (hJ.cell (p := ⟨bR, 5, none⟩) hlb).trans e5
              clear hdep ho hJ hst9
              try simp only [fill, slotOf, List.size_toArray, List.length_cons, List.length_nil, Nat.reduceAdd, List.getElem?_toArray, List.getElem?_cons_zero, List.getElem?_cons_succ, Option.bind_some, Act.put, List.setIfInBounds_toArray, List.set_cons_zero, List.set_cons_succ] at hK ⊢
              rw [d16] at hK ⊢
              go_simp
              exact hK (.slice (some ⟨lb, 0, none⟩) ln lc) _ HJ.out rfl (fun j y h => h) _ rfl
            · obtain rfl := Option.some.inj ho.symm
              have d17 : V 17 = .slice (some ⟨lb, 0, none⟩) ln lc := hdep ⟨17, .data⟩ (by simp) rfl
              clear hdep ho hJ hst9
              try simp only [fill, slotOf, List.size_toArray, List.length_cons, List.length_nil, Nat.reduceAdd, List.getElem?_toArray, List.getElem?_cons_zero, List.getElem?_cons_succ, Option.bind_some, Act.put, List.setIfInBounds_toArray, List.set_cons_zero, List.set_cons_succ] at hK ⊢
              rw [d17] at hK ⊢
              go_simp
              exact hK (.pointer (some ⟨lb, 0, none⟩)) _ HJ.out rfl (fun j y h => h) _ rfl
            · obtain rfl := Option.some.inj ho.symm
              have d18 : V 18 = .pointer (some ⟨lb, 0, none⟩) := hdep ⟨18, .data⟩ (by simp) rfl
              clear hdep ho hJ hst9
              try simp only [fill, slotOf, List.size_toArray, List.length_cons, List.length_nil, Nat.reduceAdd, List.getElem?_toArray, List.getElem?_cons_zero, List.getElem?_cons_succ, Option.bind_some, Act.put, List.setIfInBounds_toArray, List.set_cons_zero, List.set_cons_succ] at hK ⊢
              rw [d18] at hK ⊢
              go_simp
              exact hK (.pointer (some ⟨lb, 2, none⟩)) _ HJ.out rfl (fun j y h => h) _ rfl
            · obtain rfl := Option.some.inj ho.symm
              have d19 : V 19 = .pointer (some ⟨lb, 2, none⟩) := hdep ⟨19, .data⟩ (by simp) rfl
              have u1 : w9.cell? ⟨lb, 2, none⟩ = some (.int .i64 (pz : Int)) := (hJ.cell (p := ⟨lb, 2, none⟩) hll).trans l2
              clear hdep ho hJ hst9
              try simp only [fill, slotOf, List.size_toArray, List.length_cons, List.length_nil, Nat.reduceAdd, List.getElem?_toArray, List.getElem?_cons_zero, List.getElem?_cons_succ, Option.bind_some, Act.put, List.setIfInBounds_toArray, List.set_cons_zero, List.set_cons_succ] at hK ⊢
              rw [d19] at hK ⊢
              go_simp
              exact hK (.int .i64 (pz : Int)) _ HJ.out rfl (fun j y h => h) _ rfl
            · obtain rfl := Option.some.inj ho.symm
              have d20 : V 20 = .int .i64 (pz : Int) := hdep ⟨20, .data⟩ (by simp) rfl
              have wv : IntKind.u64.wrap (pz : Int) = (pz : Int) := IntWalk.u64_in _ ⟨by omega, by omega⟩
              clear hdep ho hJ hst9
              try simp only [fill, slotOf, List.size_toArray, List.length_cons, List.length_nil, Nat.reduceAdd, List.getElem?_toArray, List.getElem?_cons_zero, List.getElem?_cons_succ, Option.bind_some, Act.put, List.setIfInBounds_toArray, List.set_cons_zero, List.set_cons_succ] at hK ⊢
              rw [d20] at hK ⊢
              go_simp
              exact hK (.int .u64 (pz : Int)) _ HJ.out rfl (fun j y h => h) _ rfl
            · obtain rfl := Option.some.inj ho.symm
              have d21 : V 21 = .int .u64 (pz : Int) := hdep ⟨21, .data⟩ (by simp) rfl
              clear hdep ho hJ hst9
              try simp only [fill, slotOf, List.size_toArray, List.length_cons, List.length_nil, Nat.reduceAdd, List.getElem?_toArray, List.getElem?_cons_zero, List.getElem?_cons_succ, Option.bind_some, Act.put, List.setIfInBounds_toArray, List.set_cons_zero, List.set_cons_succ] at hK ⊢
              rw [d21] at hK ⊢
              go_simp
              refine (HP2.out w9).mono ?_
              rintro e w8 ⟨g8, c8, rfl, h1, hb8⟩
              exact hK (.slice (some ⟨g8, 0, none⟩) _ c8) _ (HJ.out.trans (hb8.mono HJ.out.size)) ⟨g8, c8, rfl, h1⟩ (FV2.mono (HSM.out _ _ hb8)) _ rfl
            · have hoo := Option.some.inj ho.symm
              obtain ⟨g6, c6, eV6, hv6⟩ : ∃ g1 c1, V 22 = .slice (some ⟨g1, 0, none⟩) X2.length c1 ∧ BytesAt w9 (some ⟨g1, 0, none⟩) X2.length c1 X2 := hdep ⟨22, .data⟩ (by rw [hoo]; simp) rfl
              have hcv := hv6.conv
              rw [← HS2.out] at hcv
              subst hoo
              clear hdep ho hJ hst9 hv6
              try simp only [fill, slotOf, List.size_toArray, List.length_cons, List.length_nil, Nat.reduceAdd, List.getElem?_toArray, List.getElem?_cons_zero, List.getElem?_cons_succ, Option.bind_some, Act.put, List.setIfInBounds_toArray, List.set_cons_zero, List.set_cons_succ] at hK ⊢
              rw [eV6] at hK ⊢
              go_simp
              exact hK (.string s2) _ HJ.out rfl (fun j y h => h) _ rfl
            · obtain rfl := Option.some.inj ho.symm
              have d15 : V 15 = .string (ByteArray.mk #[1] ++ k ++ s1) := hdep ⟨15, .data⟩ (by simp) rfl
              have d23 : V 23 = .string s2 := hdep ⟨23, .data⟩ (by simp) rfl
              clear hdep ho hJ hst9
              try simp only [fill, slotOf, List.size_toArray, List.length_cons, List.length_nil, Nat.reduceAdd, List.getElem?_toArray, List.getElem?_cons_zero, List.getElem?_cons_succ, Option.bind_some, Act.put, List.setIfInBounds_toArray, List.set_cons_zero, List.set_cons_succ] at hK ⊢
              rw [d15, d23] at hK ⊢
              go_simp
              exact hK (.string (ByteArray.mk #[1] ++ k ++ s1 ++ s2)) _ HJ.out rfl (fun j y h => h) _ rfl
            · obtain rfl := Option.some.inj ho.symm
              have d0 : V 0 = .string U := hdep ⟨0, .data⟩ (by simp) rfl
              have d24 : V 24 = .string (ByteArray.mk #[1] ++ k ++ s1 ++ s2) := hdep ⟨24, .data⟩ (by simp) rfl
              clear hdep ho hJ hst9
              try simp only [fill, slotOf, List.size_toArray, List.length_cons, List.length_nil, Nat.reduceAdd, List.getElem?_toArray, List.getElem?_cons_zero, List.getElem?_cons_succ, Option.bind_some, Act.put, List.setIfInBounds_toArray, List.set_cons_zero, List.set_cons_succ] at hK ⊢
              rw [d0, d24] at hK ⊢
              go_simp
              exact hK (.string (U ++ (ByteArray.mk #[1] ++ k ++ s1 ++ s2))) _ HJ.out rfl (fun j y h => h) _ rfl
            · obtain rfl := Option.some.inj ho.symm
              have d25 : V 25 = .string (U ++ (ByteArray.mk #[1] ++ k ++ s1 ++ s2)) := hdep ⟨25, .data⟩ (by simp) rfl
              clear hdep ho hJ hst9
              try simp only [fill, slotOf, List.size_toArray, List.length_cons, List.length_nil, Nat.reduceAdd, List.getElem?_toArray, List.getElem?_cons_zero, List.getElem?_cons_succ, Option.bind_some, Act.put, List.setIfInBounds_toArray, List.set_cons_zero, List.set_cons_succ] at hK ⊢
              rw [d25] at hK ⊢
              go_simp
              exact hK (.string (U ++ (ByteArray.mk #[1] ++ k ++ s1 ++ s2))) _ HJ.out rfl (fun j y h => h) _ rfl
          · intro V w9 hJ hall
            have dL : V 26 = .string (U ++ (ByteArray.mk #[1] ++ k ++ s1 ++ s2)) := hall 26 (by decide)
            have HJ9 := Lib.hid hJ
            clear hall hJ
            simp only [fill, slotOf, List.size_toArray, List.length_cons, List.length_nil, Nat.reduceAdd, List.getElem?_toArray, List.getElem?_cons_zero, List.getElem?_cons_succ, Option.bind_some, Act.put, List.setIfInBounds_toArray, List.set_cons_zero, List.set_cons_succ]
            rw [dL]
            clear dL
            have HB9 := Lib.hid (HB5.out.trans (HJ9.out.mono (Nat.le_trans HBS.out HB5.out.size)))
            have HS9 := Lib.hid (HIB.out _ _ HS5.out HJ9.out)
            have HK9 := Lib.hid (HKW.out.below HJ9.out)
            have hkc9 := HKC.out.below HJ9.out
            have HEQ9 : Hid (∀ g', some (⟨g, 0, none⟩ : Addr) = some ⟨g', 0, none⟩ → w9.heap[g']? = w6.heap[g']?) := Lib.hid (by
              intro g' e
              cases e
              obtain ⟨cu, hcu⟩ := HCUR.out g rfl
              rw [hcu]
              exact hkc9 _ _ _ _ ((HEQ.out g rfl).trans hcu) (by decide))
            have hT9 : (U ++ (ByteArray.mk #[1] ++ k ++ s1 ++ s2)).size ≤ 153600000 + 100 * (j + 1) := by
              simp only [ByteArray.size_append, show (ByteArray.mk #[1] : ByteArray).size = 1 from rfl]
              omega
            obtain ⟨T9, hT9e⟩ : ∃ T9, T9 = U ++ (ByteArray.mk #[1] ++ k ++ s1 ++ s2) := ⟨_, rfl⟩
            rw [← hT9e] at hT9
            rw [← hT9e]
            have HT9 : Hid (T9 = dumpU σ.ups T (j + 1)) := Lib.hid (by rw [hT9e, dumpU_succ HPI.out, ← HU.out]; unfold uplT; rw [← HSS.out.1, ← HSS.out.2, HKD.out])
            clear hT9e hkc9 HJ9 f1 f2 f3 f4
            go_wp2_with fail
            go_roundw
            case rel => exact ⟨j + 1, T9, by omega, by push_cast; rfl, rfl, hT9, HT9, HEQ9, HS9, HB9, HK9⟩
            case measure => simp only [intOf]; omega
        · have e : j = M := by omega
          rw [e] at HU
          obtain ⟨X1, hX1⟩ : ∃ X, X = pu σ.now.toNat := ⟨_, rfl⟩
          obtain ⟨X2, hX2⟩ : ∃ X, X = pu σ.size.toNat := ⟨_, rfl⟩
          obtain ⟨s1, hs1⟩ : ∃ s, s = bs X1 := ⟨_, rfl⟩
          obtain ⟨s2, hs2⟩ : ∃ s, s = bs X2 := ⟨_, rfl⟩
          have hnn := HI.out.now
          have hzz := HI.out.siz
          have hz0 : 0 ≤ σ.size := by rw [HI.out.tot]; omega
          have n1 : s1.size ≤ 10 := by rw [hs1, hX1]; exact nT_size (by omega) (by omega)
          have n2 : s2.size ≤ 10 := by rw [hs2, hX2]; exact nT_size (by omega) (by omega)
          have HSS := Lib.hid (show s1 = nT σ.now ∧ s2 = nT σ.size from ⟨by rw [hs1, hX1]; rfl, by rw [hs2, hX2]; rfl⟩)
          have HP1 := Lib.hid (rputz σ.now (by omega) (by omega) X1 hX1)
          have HP2 := Lib.hid (rputz σ.size (by omega) (by omega) X2 hX2)
          have HS1 := Lib.hid hs1
          have HS2 := Lib.hid hs2
          have HNO := Lib.hid (show ∀ W, Below wr.heap.size wr W → Calls Try.prog 21 #[.pointer (some ⟨s, 0, none⟩)] W fun e w' => e = .returned (.int .i64 σ.now) ∧ Below W.heap.size W w' from fun W hW => (now_any (HIN.out _ (HIB.out _ _ HS.out hW))).mono fun e w' hq => ⟨hq.1, by rw [hq.2]; exact Below.refl _ _⟩)
          have HSI := Lib.hid (show ∀ W, Below wr.heap.size wr W → Calls Try.prog 19 #[.pointer (some ⟨s, 0, none⟩)] W fun e w' => e = .returned (.int .i64 σ.size) ∧ Below W.heap.size W w' from fun W hW => (size_st (HIN.out _ (HIB.out _ _ HS.out hW))).mono fun e w' hq => ⟨hq.1, by rw [hq.2]; exact Below.refl _ _⟩)
          have HSM := Lib.hid (show ∀ (w w' : World), Below w.heap.size w w' → ∀ j u, (fun (j_8 : Nat) (u : Value) (w : World) => match j_8 with | 4 => (∃ g1 c1, u = .slice (some ⟨g1, 0, none⟩) X1.length c1 ∧ BytesAt w (some ⟨g1, 0, none⟩) X1.length c1 X1) | _ => (∃ g1 c1, u = .slice (some ⟨g1, 0, none⟩) X2.length c1 ∧ BytesAt w (some ⟨g1, 0, none⟩) X2.length c1 X2)) j u w → (fun (j_8 : Nat) (u : Value) (w : World) => match j_8 with | 4 => (∃ g1 c1, u = .slice (some ⟨g1, 0, none⟩) X1.length c1 ∧ BytesAt w (some ⟨g1, 0, none⟩) X1.length c1 X1) | _ => (∃ g1 c1, u = .slice (some ⟨g1, 0, none⟩) X2.length c1 ∧ BytesAt w (some ⟨g1, 0, none⟩) X2.length c1 X2)) j u w' from fun w w' hb j u hh => by
            dsimp only at hh ⊢
            split at hh <;> (obtain ⟨a', c', e1, e2⟩ := hh; exact ⟨a', c', e1, e2.kept hb⟩))
          have f1 : ¬ 9223372036854775807 < U.size + s1.size := by omega
          have f2 : ¬ 9223372036854775807 < U.size + s1.size + s2.size := by omega
          clear hX1 hX2 hs1 hs2 e
          go_upto_region 15 with fail
          refine wp_region_fill (by kernel_rfl) (by kernel_rfl) (by kernel_rfl) (Below wr.heap.size wr) (FV2 (fun j_9 => match j_9 with | 0 => some (.string U) | 1 => some (.pointer (some ⟨s, 0, none⟩)) | 2 => some (.int .i64 σ.now) | 3 => some (.int .u64 σ.now) | 4 => none | 5 => some (.string s1) | 6 => some (.string (U ++ s1)) | 7 => some (.pointer (some ⟨s, 0, none⟩)) | 8 => some (.int .i64 σ.size) | 9 => some (.int .u64 σ.size) | 10 => none | 11 => some (.string s2) | 12 => some (.string (U ++ s1 ++ s2)) | 13 => some (.string (U ++ s1 ++ s2)) | _ => none) (fun (j_8 : Nat) (u : Value) (w : World) => match j_8 with | 4 => (∃ g1 c1, u = .slice (some ⟨g1, 0, none⟩) X1.length c1 ∧ BytesAt w (some ⟨g1, 0, none⟩) X1.length c1 X1) | _ => (∃ g1 c1, u = .slice (some ⟨g1, 0, none⟩) X2.length c1 ∧ BytesAt w (some ⟨g1, 0, none⟩) X2.length c1 X2))) (Below.refl _ _).drew ?_ ?_
          · intro i9 o ho V w9 K hJ hdep hK
            have HJ := Lib.hid hJ
            simp only [fill, slotOf, List.size_toArray, List.length_cons, List.length_nil, Nat.reduceAdd, List.getElem?_toArray, List.getElem?_cons_zero, List.getElem?_cons_succ, Option.bind_some, Act.put, List.setIfInBounds_toArray, List.set_cons_zero, List.set_cons_succ] at hK ⊢
            have hin : i9 < 14 := (Array.getElem?_eq_some_iff.1 ho).1
            have hcs : i9 = 0 ∨ i9 = 1 ∨ i9 = 2 ∨ i9 = 3 ∨ i9 = 4 ∨ i9 = 5 ∨ i9 = 6 ∨ i9 = 7 ∨ i9 = 8 ∨ i9 = 9 ∨ i9 = 10 ∨ i9 = 11 ∨ i9 = 12 ∨ i9 = 13 := by omega
            clear hin
            rcases hcs with rfl | rfl | rfl | rfl | rfl | rfl | rfl | rfl | rfl | rfl | rfl | rfl | rfl | rfl
            · obtain rfl := Option.some.inj ho.symm
              clear hdep ho hJ
              try simp only [fill, slotOf, List.size_toArray, List.length_cons, List.length_nil, Nat.reduceAdd, List.getElem?_toArray, List.getElem?_cons_zero, List.getElem?_cons_succ, Option.bind_some, Act.put, List.setIfInBounds_toArray, List.set_cons_zero, List.set_cons_succ] at hK ⊢
              go_simp
              exact hK (.string U) _ HJ.out rfl (fun j y h => h) _ rfl
            · obtain rfl := Option.some.inj ho.symm
              clear hdep ho hJ
              try simp only [fill, slotOf, List.size_toArray, List.length_cons, List.length_nil, Nat.reduceAdd, List.getElem?_toArray, List.getElem?_cons_zero, List.getElem?_cons_succ, Option.bind_some, Act.put, List.setIfInBounds_toArray, List.set_cons_zero, List.set_cons_succ] at hK ⊢
              go_simp
              exact hK (.pointer (some ⟨s, 0, none⟩)) _ HJ.out rfl (fun j y h => h) _ rfl
            · obtain rfl := Option.some.inj ho.symm
              have d1 : V 1 = .pointer (some ⟨s, 0, none⟩) := hdep ⟨1, .data⟩ (by simp) rfl
              clear hdep ho hJ
              try simp only [fill, slotOf, List.size_toArray, List.length_cons, List.length_nil, Nat.reduceAdd, List.getElem?_toArray, List.getElem?_cons_zero, List.getElem?_cons_succ, Option.bind_some, Act.put, List.setIfInBounds_toArray, List.set_cons_zero, List.set_cons_succ] at hK ⊢
              rw [d1] at hK ⊢
              go_simp
              refine (HNO.out w9 HJ.out).mono ?_
              rintro e w8 ⟨rfl, hb8⟩
              exact hK (.int .i64 σ.now) _ (HJ.out.trans (hb8.mono HJ.out.size)) rfl (FV2.mono (HSM.out _ _ hb8)) _ rfl
            · obtain rfl := Option.some.inj ho.symm
              have d2 : V 2 = .int .i64 σ.now := hdep ⟨2, .data⟩ (by simp) rfl
              have wv : IntKind.u64.wrap σ.now = σ.now := IntWalk.u64_in _ ⟨by omega, by omega⟩
              clear hdep ho hJ
              try simp only [fill, slotOf, List.size_toArray, List.length_cons, List.length_nil, Nat.reduceAdd, List.getElem?_toArray, List.getElem?_cons_zero, List.getElem?_cons_succ, Option.bind_some, Act.put, List.setIfInBounds_toArray, List.set_cons_zero, List.set_cons_succ] at hK ⊢
              rw [d2] at hK ⊢
              go_simp
              exact hK (.int .u64 σ.now) _ HJ.out rfl (fun j y h => h) _ rfl
            · obtain rfl := Option.some.inj ho.symm
              have d3 : V 3 = .int .u64 σ.now := hdep ⟨3, .data⟩ (by simp) rfl
              clear hdep ho hJ
              try simp only [fill, slotOf, List.size_toArray, List.length_cons, List.length_nil, Nat.reduceAdd, List.getElem?_toArray, List.getElem?_cons_zero, List.getElem?_cons_succ, Option.bind_some, Act.put, List.setIfInBounds_toArray, List.set_cons_zero, List.set_cons_succ] at hK ⊢
              rw [d3] at hK ⊢
              go_simp
              refine (HP1.out w9).mono ?_
              rintro e w8 ⟨g8, c8, rfl, h1, hb8⟩
              exact hK (.slice (some ⟨g8, 0, none⟩) _ c8) _ (HJ.out.trans (hb8.mono HJ.out.size)) ⟨g8, c8, rfl, h1⟩ (FV2.mono (HSM.out _ _ hb8)) _ rfl
            · have hoo := Option.some.inj ho.symm
              obtain ⟨g6, c6, eV6, hv6⟩ : ∃ g1 c1, V 4 = .slice (some ⟨g1, 0, none⟩) X1.length c1 ∧ BytesAt w9 (some ⟨g1, 0, none⟩) X1.length c1 X1 := hdep ⟨4, .data⟩ (by rw [hoo]; simp) rfl
              have hcv := hv6.conv
              rw [← HS1.out] at hcv
              subst hoo
              clear hdep ho hJ hv6
              try simp only [fill, slotOf, List.size_toArray, List.length_cons, List.length_nil, Nat.reduceAdd, List.getElem?_toArray, List.getElem?_cons_zero, List.getElem?_cons_succ, Option.bind_some, Act.put, List.setIfInBounds_toArray, List.set_cons_zero, List.set_cons_succ] at hK ⊢
              rw [eV6] at hK ⊢
              go_simp
              exact hK (.string s1) _ HJ.out rfl (fun j y h => h) _ rfl
            · obtain rfl := Option.some.inj ho.symm
              have d0 : V 0 = .string U := hdep ⟨0, .data⟩ (by simp) rfl
              have d5 : V 5 = .string s1 := hdep ⟨5, .data⟩ (by simp) rfl
              clear hdep ho hJ
              try simp only [fill, slotOf, List.size_toArray, List.length_cons, List.length_nil, Nat.reduceAdd, List.getElem?_toArray, List.getElem?_cons_zero, List.getElem?_cons_succ, Option.bind_some, Act.put, List.setIfInBounds_toArray, List.set_cons_zero, List.set_cons_succ] at hK ⊢
              rw [d0, d5] at hK ⊢
              go_simp
              exact hK (.string (U ++ s1)) _ HJ.out rfl (fun j y h => h) _ rfl
            · obtain rfl := Option.some.inj ho.symm
              clear hdep ho hJ
              try simp only [fill, slotOf, List.size_toArray, List.length_cons, List.length_nil, Nat.reduceAdd, List.getElem?_toArray, List.getElem?_cons_zero, List.getElem?_cons_succ, Option.bind_some, Act.put, List.setIfInBounds_toArray, List.set_cons_zero, List.set_cons_succ] at hK ⊢
              go_simp
              exact hK (.pointer (some ⟨s, 0, none⟩)) _ HJ.out rfl (fun j y h => h) _ rfl
            · obtain rfl := Option.some.inj ho.symm
              have d7 : V 7 = .pointer (some ⟨s, 0, none⟩) := hdep ⟨7, .data⟩ (by simp) rfl
              clear hdep ho hJ
              try simp only [fill, slotOf, List.size_toArray, List.length_cons, List.length_nil, Nat.reduceAdd, List.getElem?_toArray, List.getElem?_cons_zero, List.getElem?_cons_succ, Option.bind_some, Act.put, List.setIfInBounds_toArray, List.set_cons_zero, List.set_cons_succ] at hK ⊢
              rw [d7] at hK ⊢
              go_simp
              refine (HSI.out w9 HJ.out).mono ?_
              rintro e w8 ⟨rfl, hb8⟩
              exact hK (.int .i64 σ.size) _ (HJ.out.trans (hb8.mono HJ.out.size)) rfl (FV2.mono (HSM.out _ _ hb8)) _ rfl
            · obtain rfl := Option.some.inj ho.symm
              have d8 : V 8 = .int .i64 σ.size := hdep ⟨8, .data⟩ (by simp) rfl
              have wv : IntKind.u64.wrap σ.size = σ.size := IntWalk.u64_in _ ⟨by omega, by omega⟩
              clear hdep ho hJ
              try simp only [fill, slotOf, List.size_toArray, List.length_cons, List.length_nil, Nat.reduceAdd, List.getElem?_toArray, List.getElem?_cons_zero, List.getElem?_cons_succ, Option.bind_some, Act.put, List.setIfInBounds_toArray, List.set_cons_zero, List.set_cons_succ] at hK ⊢
              rw [d8] at hK ⊢
              go_simp
              exact hK (.int .u64 σ.size) _ HJ.out rfl (fun j y h => h) _ rfl
            · obtain rfl := Option.some.inj ho.symm
              have d9 : V 9 = .int .u64 σ.size := hdep ⟨9, .data⟩ (by simp) rfl
              clear hdep ho hJ
              try simp only [fill, slotOf, List.size_toArray, List.length_cons, List.length_nil, Nat.reduceAdd, List.getElem?_toArray, List.getElem?_cons_zero, List.getElem?_cons_succ, Option.bind_some, Act.put, List.setIfInBounds_toArray, List.set_cons_zero, List.set_cons_succ] at hK ⊢
              rw [d9] at hK ⊢
              go_simp
              refine (HP2.out w9).mono ?_
              rintro e w8 ⟨g8, c8, rfl, h1, hb8⟩
              exact hK (.slice (some ⟨g8, 0, none⟩) _ c8) _ (HJ.out.trans (hb8.mono HJ.out.size)) ⟨g8, c8, rfl, h1⟩ (FV2.mono (HSM.out _ _ hb8)) _ rfl
            · have hoo := Option.some.inj ho.symm
              obtain ⟨g6, c6, eV6, hv6⟩ : ∃ g1 c1, V 10 = .slice (some ⟨g1, 0, none⟩) X2.length c1 ∧ BytesAt w9 (some ⟨g1, 0, none⟩) X2.length c1 X2 := hdep ⟨10, .data⟩ (by rw [hoo]; simp) rfl
              have hcv := hv6.conv
              rw [← HS2.out] at hcv
              subst hoo
              clear hdep ho hJ hv6
              try simp only [fill, slotOf, List.size_toArray, List.length_cons, List.length_nil, Nat.reduceAdd, List.getElem?_toArray, List.getElem?_cons_zero, List.getElem?_cons_succ, Option.bind_some, Act.put, List.setIfInBounds_toArray, List.set_cons_zero, List.set_cons_succ] at hK ⊢
              rw [eV6] at hK ⊢
              go_simp
              exact hK (.string s2) _ HJ.out rfl (fun j y h => h) _ rfl
            · obtain rfl := Option.some.inj ho.symm
              have d6 : V 6 = .string (U ++ s1) := hdep ⟨6, .data⟩ (by simp) rfl
              have d11 : V 11 = .string s2 := hdep ⟨11, .data⟩ (by simp) rfl
              clear hdep ho hJ
              try simp only [fill, slotOf, List.size_toArray, List.length_cons, List.length_nil, Nat.reduceAdd, List.getElem?_toArray, List.getElem?_cons_zero, List.getElem?_cons_succ, Option.bind_some, Act.put, List.setIfInBounds_toArray, List.set_cons_zero, List.set_cons_succ] at hK ⊢
              rw [d6, d11] at hK ⊢
              go_simp
              exact hK (.string (U ++ s1 ++ s2)) _ HJ.out rfl (fun j y h => h) _ rfl
            · obtain rfl := Option.some.inj ho.symm
              have d12 : V 12 = .string (U ++ s1 ++ s2) := hdep ⟨12, .data⟩ (by simp) rfl
              clear hdep ho hJ
              try simp only [fill, slotOf, List.size_toArray, List.length_cons, List.length_nil, Nat.reduceAdd, List.getElem?_toArray, List.getElem?_cons_zero, List.getElem?_cons_succ, Option.bind_some, Act.put, List.setIfInBounds_toArray, List.set_cons_zero, List.set_cons_succ] at hK ⊢
              rw [d12] at hK ⊢
              go_simp
              exact hK (.string (U ++ s1 ++ s2)) _ HJ.out rfl (fun j y h => h) _ rfl
          · intro V w9 hJ hall
            have dL : V 13 = .string (U ++ s1 ++ s2) := hall 13 (by decide)
            have HJ9 := Lib.hid hJ
            clear hall hJ
            simp only [fill, slotOf, List.size_toArray, List.length_cons, List.length_nil, Nat.reduceAdd, List.getElem?_toArray, List.getElem?_cons_zero, List.getElem?_cons_succ, Option.bind_some, Act.put, List.setIfInBounds_toArray, List.set_cons_zero, List.set_cons_succ]
            rw [dL]
            clear dL
            have HB9 := Lib.hid (HB.out.trans (HJ9.out.mono (Nat.le_trans HBS.out HB.out.size)))
            have HS9 := Lib.hid (HIB.out _ _ HS.out HJ9.out)
            have HK9 := Lib.hid (HK.out.below HJ9.out)
            obtain ⟨T9, hT9e⟩ : ∃ T9, T9 = U ++ s1 ++ s2 := ⟨_, rfl⟩
            rw [← hT9e]
            have HT9 : Hid (T9 = dumpT σ) := Lib.hid (by rw [hT9e, HU.out, HSS.out.1, HSS.out.2, HT.out]; unfold dumpT; rw [HMM.out, HNN.out])
            clear hT9e f1 f2
            go_wp2_with fail
            first | go_ret2 | go_ret
            exact ⟨by rw [HT9.out]; rfl, HB9.out, HK9.out, HS9.out⟩
theorem dump_any {base : Nat} {w : World} {s : Nat} {σ : Sto} (h : StIn base w s σ) (hbs : base ≤ w.heap.size) (hi : Inv σ) (hv : σ.ver ≤ 1000) (hidb : σ.id ≤ 1000) (hnw : σ.now ≤ 1099511627775) :
    Calls Try.prog 15 #[.pointer (some ⟨s, 0, none⟩)] w fun e w' => e = .returned (.string (dumpT σ)) ∧ Below base w w' ∧ KeepC w w' ∧ StIn base w' s σ :=
  dump_gen (fun W => StIn base W s σ) h hbs hi hv hidb hnw (fun W W' h hb => h.below hb) (fun W h => h.zero)
    (fun W ky h hb hk => (step_get h hb hi (by omega) (by omega) hk).mono fun e W' ⟨h1, h2, h3, h4⟩ => ⟨h1, h2, h3, h4⟩)
    (fun W id h hb => (step_opened h hb hi (by omega)).mono fun e W' ⟨h1, h2, h3, h4⟩ => ⟨h1, h2, h3, h4⟩)
end Go.Proofs.Ytjafagfhkpaciaa
