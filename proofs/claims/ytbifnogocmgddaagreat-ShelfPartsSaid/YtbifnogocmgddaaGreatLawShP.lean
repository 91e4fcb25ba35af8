/- ShelfParts's walk. -/
import Derived.Test.YtbifnogocmgddaaGreatFar
import Derived.Test.YtbifnogocmgddaaGreatFam
import Derived.Test.YtbifnogocmgddaaGreatFag
import Derived.Test.YtbifnogocmgddaaGreatFac
import Derived.Deep.CutBlock
namespace Go.Proofs.YtbifnogocmgddaaGreat
open Go.RowKit
attribute [local go_sem] less_eq same_eq le_eq ge_eq gt_eq

abbrev shAll : K × K := (⟨#[]⟩, ⟨#[255, 255, 255]⟩)
/-- the three spans -/
def spn (at' : K) (i : Nat) : K × K := if i = 0 then shAll else if i = 1 then (⟨#[]⟩, at') else (at', ⟨#[255, 255, 255]⟩)
/-- pairs and where they are -/
structure PrR where
  l : List (K × K)
  A : Option Addr
  c : Nat
def PrR.v (e : PrR) : Value := .slice e.A e.l.length e.c
def encPr (e : PrR) : List Value := [e.v]
theorem encPr_len (e : PrR) : (encPr e).length = 1 := rfl
theorem encPr_one (e : PrR) : ∀ u ∈ encPr e, u.oneCell' = true := by simp [encPr, PrR.v, Value.oneCell']
/-- what a shelf of a span has of changes -/
def partL (cs : List Chg) (s : K × K) : List (K × K) := (⟨s, 5, applyP [] (cutP s cs)⟩ : Sh).list shAll 10000
theorem part_is (cs : List Chg) (s : K × K) (hs : s.2 ≤ ⟨#[255, 255, 255]⟩) (hl : cs.length ≤ 1000) : partL cs s = applyP [] (cutP s cs) := by
  unfold partL Sh.list
  simp only
  have h1 : (applyP [] (cutP s cs)).filter (fun p => hasB (meet shAll s) p.1) = applyP [] (cutP s cs) := List.filter_eq_self.2 (fun p hp => by
    have hk := cut_only s cs p hp
    refine (hasB_iff _ _).2 ((has_meet _).2 ⟨⟨?_, ?_⟩, hk⟩)
    · show (⟨#[]⟩ : K) ≤ p.1
      show ([] : List UInt8) ≤ p.1.data.toList
      exact List.nil_le _
    · have := hk.2
      show p.1 < (⟨#[255, 255, 255]⟩ : K)
      grind)
  rw [h1]
  refine List.take_of_length_le ?_
  have h2 := applyP_len [] (cutP s cs)
  have h3 : (cutP s cs).length ≤ cs.length := by
    unfold cutP
    rw [List.length_flatMap]
    clear h1 h2 hl
    induction cs with
    | nil => simp
    | cons c r ih =>
      have : (cut1 s c).length ≤ 1 := by
        unfold cut1
        split
        · split <;> simp
        · split <;> simp
      simp only [List.map_cons, List.sum_cons, List.length_cons]
      omega
  simp only [List.length_nil, Nat.zero_add] at h2
  show _ ≤ (10000 : Int).toNat
  omega

set_option maxRecDepth 100000 in
theorem info_pairs : (Tryz.prog.info? 37).map (fun i => (i.zero, i.size, i.bytes)) = some (some (.slice none 0 0), 1, 24) := by kernel_rfl
section
variable {ops : Array Oper} {rest : List Oper} {o : Oper} {a : Act} {Q : Exit → Act → World → Prop} {w : World}
/-- append of a row -/
theorem wpList_addPR (hgd : Region.wanted o (yielded ops a.tmps) = true) (s x : Operand)
    (ho : o.op = .call { callee := .builtin .append, args := #[s, x], argTypes := #[45, 45] })
    (base : Nat) (v : Value) (l : List PrR) (hs : a.eval s = v) (hown : Own encPr 1 37 w base v l) (B : Nat) (v2 : Value) (p : List PrR) (hx : a.eval x = v2) (hp : Rd encPr 1 w B v2 p)
    (hlen : l.length + p.length ≤ 5000000000000) (hbase : base ≤ w.heap.size)
    (h : ∀ A' c' w', Hid (Own encPr 1 37 w' base (.slice A' (l ++ p).length c') (l ++ p)) → Hid (w.grownBy w' v.ownBlock) → Hid (NewRow w v.ownBlock (Value.ownBlock (.slice A' (l ++ p).length c'))) → wpList Tryz.prog ops Q rest (a.put o.dst (.slice A' (l ++ p).length c')) w') : wpList Tryz.prog ops Q (o :: rest) a w := by
  obtain ⟨i0, hi, hz0, hz1, hz2⟩ := info_parts info_pairs
  refine BigFrame.wpList_want hgd fun K hK => ?_
  refine wp_addAnyN (enc := encPr) (k := 1) 45 37 24 i0 _ Tryz.underlying45 hi hz0 hz1 hz2 rfl (by decide) encPr_len encPr_one s x ho base v l hs hown B v2 p hx hp (by unfold maxLen; omega) (by omega) hbase fun A' c' w' h1 h2 h3 => ?_
  exact hK _ _ (h A' c' w' (Lib.hid h1) (Lib.hid h2) (Lib.hid h3))
end

section
variable {o : Oper} {a : Act} {Q : Exit → Act → World → Prop} {w : World}
theorem wp_addPr {KK : Act → World → Prop} (s x : Operand)
    (ho : o.op = .call { callee := .builtin .append, args := #[s, x], argTypes := #[37, 37] })
    (base : Nat) (v : Value) (l : List (K × K)) (hs : a.eval s = v) (hown : OwnP w base v l) (B : Nat) (v2 : Value) (p : List (K × K)) (hx : a.eval x = v2) (hp : RdP w B v2 p)
    (hlen : l.length + p.length ≤ 5000000000) (hbase : base ≤ w.heap.size)
    (h : ∀ A' c' w', OwnP w' base (.slice A' (l ++ p).length c') (l ++ p) → w.grownBy w' v.ownBlock → KK (a.put o.dst (.slice A' (l ++ p).length c')) w') : o.wp Tryz.prog a w KK Q := by
  obtain ⟨i0, hi, hz0, hz1, hz2⟩ := info_parts info_pair
  exact wp_addAny (enc := cellsS) (k := 2) 37 69 32 i0 _ Tryz.underlying37 hi hz0 hz1 hz2 rfl (by decide) cellsS_len cellsS_one s x ho base v l hs hown B v2 p hx hp (by unfold maxLen; omega) (by omega) hbase h
end

set_option maxHeartbeats 8000000 in
set_option maxRecDepth 100000 in
theorem shelfParts_walk (cs : List Chg) (vc : Value) (k : K) (w : World) (hc : RdC w w.heap.size vc cs) (hs : ∀ c ∈ cs, smallC c) (hl : cs.length < 4611686018427387904) :
    Calls Tryz.prog 4 #[vc, .string k] w fun e w' => e = .returned (.bool true) ∧ Below w.heap.size w w' := by
  obtain ⟨A, ca, rfl, -, -⟩ := hc.at
  have HC := Lib.hid hc
  clear hc
  obtain ⟨w1, hw1⟩ : ∃ W, W = w.alloc (.cells #[.string ⟨#[]⟩, .string ⟨#[255, 255, 255]⟩] 31) := ⟨_, rfl⟩
  obtain ⟨gA, hgA⟩ : ∃ g, g = w.heap.size := ⟨_, rfl⟩
  have hb1 : Below w.heap.size w w1 := by rw [hw1]; exact (Below.refl _ w).alloc (Nat.le_refl _) _
  have hW1 : Whole w1 gA 31 [.string ⟨#[]⟩, .string ⟨#[255, 255, 255]⟩] := by rw [hw1, hgA]; exact Whole.fresh w _ [_, _]
  have HAW := Lib.hid (shawake_any w1)
  have HGA := Lib.hid hgA
  have HB1 := Lib.hid hb1
  have HW1 := Lib.hid hW1
  clear hb1 hW1
  have hbye : ∀ W, Below w.heap.size w W → Calls Tryz.prog 8 #[] W fun e w' => e = .returned (.bool true) ∧ Below w.heap.size w w' := fun W hW => (shawake_any W).mono fun e w' h => ⟨h.1, hW.trans (h.2.mono hW.size)⟩
  have HBYE := Lib.hid hbye
  clear hbye
  go_enter Tryz.func4, Tryz.ntmps4
  go_wp2_with fail
  rw [← hw1, ← hgA]
  clear hw1 hgA
  refine HAW.out.mono ?_
  rintro e w2 ⟨rfl, hb2⟩
  have HB2 := Lib.hid (HB1.out.trans (hb2.mono HB1.out.size))
  have HW2 := Lib.hid (HW1.out.below hb2 HW1.out.size)
  have c1 := HW2.out.cell 1 _ rfl
  clear hb2 HAW HW1 HB1
  cases hk0 : (ByteArray.toList k).isEmpty
  case true =>
    have HY := Lib.hid (HBYE.out w2 HB2.out)
    go_wp2_with fail
    refine HY.out.mono ?_
    rintro e w3 ⟨rfl, hb3⟩
    have HB3 := Lib.hid hb3
    clear hb3
    go_wp2_with fail
    go_ret
    exact ⟨rfl, HB3.out⟩
  case false =>
  cases hk1 : Op.bytesLess (ByteArray.toList k) [255, 255, 255]
  case false =>
    have HY := Lib.hid (HBYE.out w2 HB2.out)
    go_wp2_with fail
    refine HY.out.mono ?_
    rintro e w3 ⟨rfl, hb3⟩
    have HB3 := Lib.hid hb3
    clear hb3
    go_wp2_with fail
    go_ret
    exact ⟨rfl, HB3.out⟩
  case true =>
  have hkl : k < (⟨#[255, 255, 255]⟩ : K) := by
    have h1 := less_eq k (⟨#[255, 255, 255]⟩ : ByteArray)
    rw [show (⟨#[255, 255, 255]⟩ : ByteArray).toList = [255, 255, 255] from by rw [Lib.toList_data], hk1] at h1
    exact of_decide_eq_true h1.symm
  have HKL := Lib.hid hkl
  have hk00 : (⟨#[]⟩ : K) < k := by
    have h1 := less_eq (⟨#[]⟩ : ByteArray) k
    rw [show (⟨#[]⟩ : ByteArray).toList = [] from by rw [Lib.toList_data]] at h1
    refine of_decide_eq_true (h1.symm.trans ?_)
    cases hh : ByteArray.toList k with
    | nil => rw [hh] at hk0; cases hk0
    | cons a r => rfl
  have HK0 := Lib.hid hk00
  clear hkl hk00
  by_cases hk2 : 16 < k.size
  case pos =>
    have e2 : decide ((16 : Int) < (k.size : Int)) = true := decide_eq_true (by omega)
    have HY := Lib.hid (HBYE.out w2 HB2.out)
    go_wp2_with fail
    refine HY.out.mono ?_
    rintro e w3 ⟨rfl, hb3⟩
    have HB3 := Lib.hid hb3
    clear hb3
    go_wp2_with fail
    go_ret
    exact ⟨rfl, HB3.out⟩
  case neg =>
  have e2 : decide ((16 : Int) < (k.size : Int)) = false := decide_eq_false (by omega)
  have HCA := Lib.hid (rall_any cs hs _ w2 ((HC.out.below HB2.out (Nat.le_refl _)).mono HB2.out.size) hl)
  obtain ⟨ea, hea⟩ : ∃ x, x = allAns cs := ⟨_, rfl⟩
  rw [← hea] at HCA
  have HEA := Lib.hid hea
  clear hea
  go_wp2_with fail
  refine HCA.out.mono ?_
  rintro e w3 ⟨rfl, hb3⟩
  have HB3 := Lib.hid (HB2.out.trans (hb3.mono HB2.out.size))
  have HW3 := Lib.hid (HW2.out.below hb3 HW2.out.size)
  clear hb3 HCA HB2 HW2 c1
  by_cases hza : ea = 0
  case neg =>
    have hzb : (ea == 0) = false := by simpa using hza
    have HY := Lib.hid (HBYE.out w3 HB3.out)
    go_wp2_with fail
    refine HY.out.mono ?_
    rintro e w4 ⟨rfl, hb4⟩
    have HB4 := Lib.hid hb4
    clear hb4
    go_wp2_with fail
    go_ret
    exact ⟨rfl, HB4.out⟩
  case pos =>
  subst hza
  by_cases hna : 1000 < cs.length
  case pos =>
    have hx : decide ((1000 : Int) < (cs.length : Int)) = true := decide_eq_true (by omega)
    have HY := Lib.hid (HBYE.out w3 HB3.out)
    go_wp2_with fail
    refine HY.out.mono ?_
    rintro e w4 ⟨rfl, hb4⟩
    have HB4 := Lib.hid hb4
    clear hb4
    go_wp2_with fail
    go_ret
    exact ⟨rfl, HB4.out⟩
  case neg =>
  have hx : decide ((1000 : Int) < (cs.length : Int)) = false := decide_eq_false (by omega)
  have hza : allAns cs = 0 := HEA.out.symm
  have HZA := Lib.hid hza
  have HLA := Lib.hid (show cs.length ≤ 1000 by omega)
  have HK2 := Lib.hid (show k.size ≤ 16 by omega)
  obtain ⟨w4, hw4⟩ : ∃ W, W = w3.alloc (.cells #[.string ⟨#[]⟩, .string ⟨#[255, 255, 255]⟩, .string ⟨#[]⟩, .string k, .string k, .string ⟨#[255, 255, 255]⟩] 31) := ⟨_, rfl⟩
  obtain ⟨gS, hgS⟩ : ∃ g, g = w3.heap.size := ⟨_, rfl⟩
  have hb4 : Below w3.heap.size w3 w4 := by rw [hw4]; exact (Below.refl _ w3).alloc (Nat.le_refl _) _
  have hW4 : Whole w4 gS 31 [.string ⟨#[]⟩, .string ⟨#[255, 255, 255]⟩, .string ⟨#[]⟩, .string k, .string k, .string ⟨#[255, 255, 255]⟩] := by rw [hw4, hgS]; exact Whole.fresh w3 _ [_, _, _, _, _, _]
  have HS4 := Lib.hid hW4
  have HW4 := Lib.hid (HW3.out.below hb4 HW3.out.size)
  have HB4 := Lib.hid (HB3.out.trans (hb4.mono HB3.out.size))
  have c0 := HW3.out.cell 0 _ rfl
  have c1 := HW3.out.cell 1 _ rfl
  clear hza hb4 hW4 HB3 hna hk2 hl hs
  go_wp2_with fail
  rw [← hw4, ← hgS]
  clear hw4 hgS c0 c1 hx e2 hk0 hk1 HW3
  go_loopw [7, 8] (fun gv iv wr => ∃ (i : Nat) (rows : List PrR), i ≤ 3 ∧ iv = .int .i64 (i : Int) ∧ rows.map (·.l) = (List.range i).map (fun j => partL cs (spn k j)) ∧ Own encPr 1 37 wr w.heap.size gv rows ∧ (∀ e ∈ rows, RdG cellsS 2 wr wr.heap.size (fun b => gv.ownBlock = some b) e.v e.l) ∧ Whole wr gA 31 [.string ⟨#[]⟩, .string ⟨#[255, 255, 255]⟩] ∧ Whole wr gS 31 [.string ⟨#[]⟩, .string ⟨#[255, 255, 255]⟩, .string ⟨#[]⟩, .string k, .string k, .string ⟨#[255, 255, 255]⟩] ∧ Below w.heap.size w wr) (fun _ iv _ => 3 - (intOf iv).toNat)
  case atStart => exact ⟨0, [], by omega, rfl, rfl, Own.nil _ _, by simp, HW4.out, HS4.out, HB4.out⟩
  case round =>
    obtain ⟨i, rows, hi, rfl, hmap, hown, hrd, hwA, hwS, hb⟩ := hrel
    clear HW4 HS4 HB4
    by_cases hgo : i < 3
    · have h1 : (i : Int) < 3 := by omega
      have h012 : i = 0 ∨ i = 1 ∨ i = 2 := by omega
      rcases h012 with h | h | h
      · clear h1
        subst h
        have HT := Lib.hid (tnew_dry 1000 (by omega) (by omega) wr)
        have HOWN := Lib.hid hown
        have HRD := Lib.hid hrd
        have HWA := Lib.hid hwA
        have HWS := Lib.hid hwS
        have HB := Lib.hid hb
        have HMAP := Lib.hid hmap
        obtain ⟨Ag, cg, rfl, -⟩ := Own.rd encPr_len hown
        have hrl : rows.length = 0 := by have := congrArg List.length hmap; simpa using this
        have HRL := Lib.hid hrl
        clear hown hrd hwA hwS hb hmap hrl hgo hi
        go_wp2_with fail
        refine HT.out.mono ?_
        rintro e w5 ⟨p, rfl, ht, hb5⟩
        have HO := Lib.hid (shopen_any 1000 (by omega) (by omega) ((⟨#[]⟩ : K), (⟨#[255, 255, 255]⟩ : K)) (by decide) (by decide) wr w5 p ht hb5)
        have q0 := (HWS.out.below hb5 HWS.out.size).cell 0 _ rfl
        have q1 := (HWS.out.below hb5 HWS.out.size).cell 1 _ rfl
        clear ht hb5 HT
        go_wp2_with fail
        refine HO.out.mono ?_
        rintro e w6 ⟨q, G6, rfl, hs6, hb6⟩
        have hc6 := shtake_any wr.heap.size q 0 G6 _ 0 5 (by omega) (by omega) cs HZA.out HLA.out (.slice A cs.length ca) w6 hs6 (hs6.off hb6 ((HC.out.below HB.out (Nat.le_refl _)).mono HB.out.size) (Nat.le_refl _)) (by omega)
        rw [show (⟨((⟨#[]⟩ : K), (⟨#[255, 255, 255]⟩ : K)), 0, []⟩ : Sh).take 0 5 cs = (0, ⟨((⟨#[]⟩ : K), (⟨#[255, 255, 255]⟩ : K)), 5, applyP [] (cutP ((⟨#[]⟩ : K), (⟨#[255, 255, 255]⟩ : K)) cs)⟩) from by unfold Sh.take; rw [if_neg (by simp), if_neg (by simp)]] at hc6
        have HC6 := Lib.hid hc6
        have HS6 := Lib.hid hs6
        have HB6 := Lib.hid hb6
        clear hc6 hs6 hb6 HO q0 q1
        go_wp2_with fail
        refine HC6.out.mono ?_
        rintro e w7 ⟨rfl, G7, hs7, hG7, hm7⟩
        have hb7 := HB6.out.trans (HS6.out.below hm7)
        have hls := shlist_any wr.heap.size q _ G7 _ shAll (by decide) 5 10000 rfl (by omega) w7 hs7
        obtain ⟨L, hL⟩ : ∃ L, L = partL cs ((⟨#[]⟩ : K), (⟨#[255, 255, 255]⟩ : K)) := ⟨_, rfl⟩
        have hLL : (⟨((⟨#[]⟩ : K), (⟨#[255, 255, 255]⟩ : K)), 5, applyP [] (cutP ((⟨#[]⟩ : K), (⟨#[255, 255, 255]⟩ : K)) cs)⟩ : Sh).list shAll 10000 = L := hL.symm
        rw [hLL] at hls
        have HLS := Lib.hid hls
        have HLL := Lib.hid hL
        have HB7 := Lib.hid hb7
        have q0 := (HWA.out.below hb7 HWA.out.size).cell 0 _ rfl
        have q1 := (HWA.out.below hb7 HWA.out.size).cell 1 _ rfl
        clear hls hL hLL hs7 hG7 hm7 hb7 HC6 HS6 HB6
        go_wp2_with fail
        refine HLS.out.mono ?_
        rintro e w8 ⟨A8, c8, rfl, ho8, hb8⟩
        obtain ⟨w9, hw9⟩ : ∃ W, W = w8.alloc (.cells #[.slice A8 L.length c8] 37) := ⟨_, rfl⟩
        obtain ⟨g8, hg8⟩ : ∃ g, g = w8.heap.size := ⟨_, rfl⟩
        have hb9 : Below w8.heap.size w8 w9 := by rw [hw9]; exact (Below.refl _ w8).alloc (Nat.le_refl _) _
        have hW9 : Whole w9 g8 37 [.slice A8 L.length c8] := by rw [hw9, hg8]; exact Whole.fresh w8 _ [_]
        have hb8' := HB7.out.trans (hb8.mono HB7.out.size)
        have hb9' : Below wr.heap.size wr w9 := hb8'.trans (hb9.mono hb8'.size)
        have hrx : Rd encPr 1 w9 (g8 + 1) (.slice (some ⟨g8, 0, none⟩) 1 1) [⟨L, A8, c8⟩] := (Whole.rdg (G := fun _ => False) encPr_len (l := [(⟨L, A8, c8⟩ : PrR)]) hW9 (Nat.le_refl 1) (Nat.lt_succ_self _) (fun h => h)).rd
        have hlow : ∀ b, (Value.slice Ag rows.length cg).ownBlock = some b → b < wr.heap.size := fun b hb => (HOWN.out.low hb).2
        have hnew : RdG cellsS 2 w9 w9.heap.size (fun b => (Value.slice Ag rows.length cg).ownBlock = some b) (.slice A8 L.length c8) L :=
          ((ho8.mono (Nat.le_refl _) (fun b _ hd => by have e1 := hlow b hd; have e2 := HB7.out.size; omega) : RdG cellsS 2 w8 w8.heap.size (fun b => (Value.slice Ag rows.length cg).ownBlock = some b) (.slice A8 L.length c8) L).mv (Mv.of_new hb9 (fun _ => False)) (Nat.le_refl _) (fun _ _ h => h.elim)).mono hb9.size (fun _ _ h => h)
        have hall : ∀ e ∈ rows ++ [(⟨L, A8, c8⟩ : PrR)], RdG cellsS 2 w9 w9.heap.size (fun b => (Value.slice Ag rows.length cg).ownBlock = some b) e.v e.l := fun e he => by
          rcases List.mem_append.1 he with he | he
          · exact ((HRD.out e he).mv (Mv.of_new hb9' (fun _ => False)) (Nat.le_refl _) (fun _ _ h => h.elim)).mono hb9'.size (fun _ _ h => h)
          · rw [List.mem_singleton] at he
            subst he
            exact hnew
        have HRX := Lib.hid hrx
        have HALL9 := Lib.hid hall
        have HO9 := Lib.hid (HOWN.out.below hb9' (Nat.le_refl _))
        have HA9 := Lib.hid (HWA.out.below hb9' HWA.out.size)
        have HS9 := Lib.hid (HWS.out.below hb9' HWS.out.size)
        have HB9 := Lib.hid (HB.out.trans (hb9'.mono HB.out.size))
        have HZ9 := Lib.hid (show w.heap.size ≤ w9.heap.size from Nat.le_trans HB.out.size hb9'.size)
        clear ho8 hb8 hb9 hW9 hb8' hb9' hrx hlow hnew hall HLS HOWN HRD HWA HWS HB HB7 q0 q1
        go_wp2_with (rw [← hw9, ← hg8]; at_builtin; go_must (refine wpList_addPR rfl _ _ rfl w.heap.size (.slice Ag rows.length cg) rows rfl HO9.out (g8 + 1) (.slice (some ⟨g8, 0, none⟩) 1 1) [⟨L, A8, c8⟩] rfl HRX.out (by have := HRL.out; simp only [List.length_cons, List.length_nil]; omega) HZ9.out ?_))
        intro A10 c10 w10 ho10 hg10 hn10
        try rw [← hw9] at hg10
        try rw [← hw9] at hn10
        have hm10 := Mv.of_grown hg10.out
        have HX := Lib.hid (show ∀ e ∈ rows ++ [(⟨L, A8, c8⟩ : PrR)], RdG cellsS 2 w10 w10.heap.size (fun b => (Value.slice A10 (rows.length + 1) c10).ownBlock = some b) e.v e.l from fun e he => ((HALL9.out e he).mv hm10 (Nat.le_refl _) (fun b _ hd => hd.symm)).mono hm10.size (fun b hb hd => by
          rcases hn10.out b hd with h | h
          · exact h
          · omega))
        have HA10 := Lib.hid (hm10.whole HA9.out (Own.apart HO9.out HA9.out (by decide)))
        have HS10 := Lib.hid (hm10.whole HS9.out (Own.apart HO9.out HS9.out (by decide)))
        have HB10 := Lib.hid (HB9.out.trans (hm10.below HZ9.out (fun b hd => (HO9.out.low hd.symm).1)))
        have HM10 := Lib.hid (show (rows ++ [(⟨L, A8, c8⟩ : PrR)]).map (·.l) = (List.range (0 + 1)).map (fun j => partL cs (spn k j)) from by
          rw [List.map_append, HMAP.out, List.range_succ, List.map_append, List.map_cons, List.map_nil, List.map_cons, List.map_nil, HLL.out]
          rfl)
        have HO10 := Lib.hid ho10.out
        clear ho10 hg10 hn10 hm10
        clear hw9 hg8
        go_wp2_with fail
        go_roundw
        case rel => exact ⟨0 + 1, rows ++ [⟨L, A8, c8⟩], by omega, by go_num, HM10.out, HO10.out, HX.out, HA10.out, HS10.out, HB10.out⟩
        case measure => simp [intOf]
      · clear h1
        subst h
        have HT := Lib.hid (tnew_dry 1000 (by omega) (by omega) wr)
        have HOWN := Lib.hid hown
        have HRD := Lib.hid hrd
        have HWA := Lib.hid hwA
        have HWS := Lib.hid hwS
        have HB := Lib.hid hb
        have HMAP := Lib.hid hmap
        obtain ⟨Ag, cg, rfl, -⟩ := Own.rd encPr_len hown
        have hrl : rows.length = 1 := by have := congrArg List.length hmap; simpa using this
        have HRL := Lib.hid hrl
        clear hown hrd hwA hwS hb hmap hrl hgo hi
        go_wp2_with fail
        refine HT.out.mono ?_
        rintro e w5 ⟨p, rfl, ht, hb5⟩
        have HO := Lib.hid (shopen_any 1000 (by omega) (by omega) ((⟨#[]⟩ : K), k) HK0.out ⟨(by decide : (0 : Nat) ≤ 17), (by have := HK2.out; show k.size ≤ 17; omega)⟩ wr w5 p ht hb5)
        have q0 := (HWS.out.below hb5 HWS.out.size).cell 2 _ rfl
        have q1 := (HWS.out.below hb5 HWS.out.size).cell 3 _ rfl
        clear ht hb5 HT
        go_wp2_with fail
        refine HO.out.mono ?_
        rintro e w6 ⟨q, G6, rfl, hs6, hb6⟩
        have hc6 := shtake_any wr.heap.size q 0 G6 _ 0 5 (by omega) (by omega) cs HZA.out HLA.out (.slice A cs.length ca) w6 hs6 (hs6.off hb6 ((HC.out.below HB.out (Nat.le_refl _)).mono HB.out.size) (Nat.le_refl _)) (by omega)
        rw [show (⟨((⟨#[]⟩ : K), k), 0, []⟩ : Sh).take 0 5 cs = (0, ⟨((⟨#[]⟩ : K), k), 5, applyP [] (cutP ((⟨#[]⟩ : K), k) cs)⟩) from by unfold Sh.take; rw [if_neg (by simp), if_neg (by simp)]] at hc6
        have HC6 := Lib.hid hc6
        have HS6 := Lib.hid hs6
        have HB6 := Lib.hid hb6
        clear hc6 hs6 hb6 HO q0 q1
        go_wp2_with fail
        refine HC6.out.mono ?_
        rintro e w7 ⟨rfl, G7, hs7, hG7, hm7⟩
        have hb7 := HB6.out.trans (HS6.out.below hm7)
        have hls := shlist_any wr.heap.size q _ G7 _ shAll (by decide) 5 10000 rfl (by omega) w7 hs7
        obtain ⟨L, hL⟩ : ∃ L, L = partL cs ((⟨#[]⟩ : K), k) := ⟨_, rfl⟩
        have hLL : (⟨((⟨#[]⟩ : K), k), 5, applyP [] (cutP ((⟨#[]⟩ : K), k) cs)⟩ : Sh).list shAll 10000 = L := hL.symm
        rw [hLL] at hls
        have HLS := Lib.hid hls
        have HLL := Lib.hid hL
        have HB7 := Lib.hid hb7
        have q0 := (HWA.out.below hb7 HWA.out.size).cell 0 _ rfl
        have q1 := (HWA.out.below hb7 HWA.out.size).cell 1 _ rfl
        clear hls hL hLL hs7 hG7 hm7 hb7 HC6 HS6 HB6
        go_wp2_with fail
        refine HLS.out.mono ?_
        rintro e w8 ⟨A8, c8, rfl, ho8, hb8⟩
        obtain ⟨w9, hw9⟩ : ∃ W, W = w8.alloc (.cells #[.slice A8 L.length c8] 37) := ⟨_, rfl⟩
        obtain ⟨g8, hg8⟩ : ∃ g, g = w8.heap.size := ⟨_, rfl⟩
        have hb9 : Below w8.heap.size w8 w9 := by rw [hw9]; exact (Below.refl _ w8).alloc (Nat.le_refl _) _
        have hW9 : Whole w9 g8 37 [.slice A8 L.length c8] := by rw [hw9, hg8]; exact Whole.fresh w8 _ [_]
        have hb8' := HB7.out.trans (hb8.mono HB7.out.size)
        have hb9' : Below wr.heap.size wr w9 := hb8'.trans (hb9.mono hb8'.size)
        have hrx : Rd encPr 1 w9 (g8 + 1) (.slice (some ⟨g8, 0, none⟩) 1 1) [⟨L, A8, c8⟩] := (Whole.rdg (G := fun _ => False) encPr_len (l := [(⟨L, A8, c8⟩ : PrR)]) hW9 (Nat.le_refl 1) (Nat.lt_succ_self _) (fun h => h)).rd
        have hlow : ∀ b, (Value.slice Ag rows.length cg).ownBlock = some b → b < wr.heap.size := fun b hb => (HOWN.out.low hb).2
        have hnew : RdG cellsS 2 w9 w9.heap.size (fun b => (Value.slice Ag rows.length cg).ownBlock = some b) (.slice A8 L.length c8) L :=
          ((ho8.mono (Nat.le_refl _) (fun b _ hd => by have e1 := hlow b hd; have e2 := HB7.out.size; omega) : RdG cellsS 2 w8 w8.heap.size (fun b => (Value.slice Ag rows.length cg).ownBlock = some b) (.slice A8 L.length c8) L).mv (Mv.of_new hb9 (fun _ => False)) (Nat.le_refl _) (fun _ _ h => h.elim)).mono hb9.size (fun _ _ h => h)
        have hall : ∀ e ∈ rows ++ [(⟨L, A8, c8⟩ : PrR)], RdG cellsS 2 w9 w9.heap.size (fun b => (Value.slice Ag rows.length cg).ownBlock = some b) e.v e.l := fun e he => by
          rcases List.mem_append.1 he with he | he
          · exact ((HRD.out e he).mv (Mv.of_new hb9' (fun _ => False)) (Nat.le_refl _) (fun _ _ h => h.elim)).mono hb9'.size (fun _ _ h => h)
          · rw [List.mem_singleton] at he
            subst he
            exact hnew
        have HRX := Lib.hid hrx
        have HALL9 := Lib.hid hall
        have HO9 := Lib.hid (HOWN.out.below hb9' (Nat.le_refl _))
        have HA9 := Lib.hid (HWA.out.below hb9' HWA.out.size)
        have HS9 := Lib.hid (HWS.out.below hb9' HWS.out.size)
        have HB9 := Lib.hid (HB.out.trans (hb9'.mono HB.out.size))
        have HZ9 := Lib.hid (show w.heap.size ≤ w9.heap.size from Nat.le_trans HB.out.size hb9'.size)
        clear ho8 hb8 hb9 hW9 hb8' hb9' hrx hlow hnew hall HLS HOWN HRD HWA HWS HB HB7 q0 q1
        go_wp2_with (rw [← hw9, ← hg8]; at_builtin; go_must (refine wpList_addPR rfl _ _ rfl w.heap.size (.slice Ag rows.length cg) rows rfl HO9.out (g8 + 1) (.slice (some ⟨g8, 0, none⟩) 1 1) [⟨L, A8, c8⟩] rfl HRX.out (by have := HRL.out; simp only [List.length_cons, List.length_nil]; omega) HZ9.out ?_))
        intro A10 c10 w10 ho10 hg10 hn10
        try rw [← hw9] at hg10
        try rw [← hw9] at hn10
        have hm10 := Mv.of_grown hg10.out
        have HX := Lib.hid (show ∀ e ∈ rows ++ [(⟨L, A8, c8⟩ : PrR)], RdG cellsS 2 w10 w10.heap.size (fun b => (Value.slice A10 (rows.length + 1) c10).ownBlock = some b) e.v e.l from fun e he => ((HALL9.out e he).mv hm10 (Nat.le_refl _) (fun b _ hd => hd.symm)).mono hm10.size (fun b hb hd => by
          rcases hn10.out b hd with h | h
          · exact h
          · omega))
        have HA10 := Lib.hid (hm10.whole HA9.out (Own.apart HO9.out HA9.out (by decide)))
        have HS10 := Lib.hid (hm10.whole HS9.out (Own.apart HO9.out HS9.out (by decide)))
        have HB10 := Lib.hid (HB9.out.trans (hm10.below HZ9.out (fun b hd => (HO9.out.low hd.symm).1)))
        have HM10 := Lib.hid (show (rows ++ [(⟨L, A8, c8⟩ : PrR)]).map (·.l) = (List.range (1 + 1)).map (fun j => partL cs (spn k j)) from by
          rw [List.map_append, HMAP.out, List.range_succ, List.map_append, List.map_cons, List.map_nil, List.map_cons, List.map_nil, HLL.out]
          rfl)
        have HO10 := Lib.hid ho10.out
        clear ho10 hg10 hn10 hm10
        clear hw9 hg8
        go_wp2_with fail
        go_roundw
        case rel => exact ⟨1 + 1, rows ++ [⟨L, A8, c8⟩], by omega, by go_num, HM10.out, HO10.out, HX.out, HA10.out, HS10.out, HB10.out⟩
        case measure => simp [intOf]
      · clear h1
        subst h
        have HT := Lib.hid (tnew_dry 1000 (by omega) (by omega) wr)
        have HOWN := Lib.hid hown
        have HRD := Lib.hid hrd
        have HWA := Lib.hid hwA
        have HWS := Lib.hid hwS
        have HB := Lib.hid hb
        have HMAP := Lib.hid hmap
        obtain ⟨Ag, cg, rfl, -⟩ := Own.rd encPr_len hown
        have hrl : rows.length = 2 := by have := congrArg List.length hmap; simpa using this
        have HRL := Lib.hid hrl
        clear hown hrd hwA hwS hb hmap hrl hgo hi
        go_wp2_with fail
        refine HT.out.mono ?_
        rintro e w5 ⟨p, rfl, ht, hb5⟩
        have HO := Lib.hid (shopen_any 1000 (by omega) (by omega) (k, (⟨#[255, 255, 255]⟩ : K)) HKL.out ⟨(by have := HK2.out; show k.size ≤ 17; omega), (by decide : (3 : Nat) ≤ 17)⟩ wr w5 p ht hb5)
        have q0 := (HWS.out.below hb5 HWS.out.size).cell 4 _ rfl
        have q1 := (HWS.out.below hb5 HWS.out.size).cell 5 _ rfl
        clear ht hb5 HT
        go_wp2_with fail
        refine HO.out.mono ?_
        rintro e w6 ⟨q, G6, rfl, hs6, hb6⟩
        have hc6 := shtake_any wr.heap.size q 0 G6 _ 0 5 (by omega) (by omega) cs HZA.out HLA.out (.slice A cs.length ca) w6 hs6 (hs6.off hb6 ((HC.out.below HB.out (Nat.le_refl _)).mono HB.out.size) (Nat.le_refl _)) (by omega)
        rw [show (⟨(k, (⟨#[255, 255, 255]⟩ : K)), 0, []⟩ : Sh).take 0 5 cs = (0, ⟨(k, (⟨#[255, 255, 255]⟩ : K)), 5, applyP [] (cutP (k, (⟨#[255, 255, 255]⟩ : K)) cs)⟩) from by unfold Sh.take; rw [if_neg (by simp), if_neg (by simp)]] at hc6
        have HC6 := Lib.hid hc6
        have HS6 := Lib.hid hs6
        have HB6 := Lib.hid hb6
        clear hc6 hs6 hb6 HO q0 q1
        go_wp2_with fail
        refine HC6.out.mono ?_
        rintro e w7 ⟨rfl, G7, hs7, hG7, hm7⟩
        have hb7 := HB6.out.trans (HS6.out.below hm7)
        have hls := shlist_any wr.heap.size q _ G7 _ shAll (by decide) 5 10000 rfl (by omega) w7 hs7
        obtain ⟨L, hL⟩ : ∃ L, L = partL cs (k, (⟨#[255, 255, 255]⟩ : K)) := ⟨_, rfl⟩
        have hLL : (⟨(k, (⟨#[255, 255, 255]⟩ : K)), 5, applyP [] (cutP (k, (⟨#[255, 255, 255]⟩ : K)) cs)⟩ : Sh).list shAll 10000 = L := hL.symm
        rw [hLL] at hls
        have HLS := Lib.hid hls
        have HLL := Lib.hid hL
        have HB7 := Lib.hid hb7
        have q0 := (HWA.out.below hb7 HWA.out.size).cell 0 _ rfl
        have q1 := (HWA.out.below hb7 HWA.out.size).cell 1 _ rfl
        clear hls hL hLL hs7 hG7 hm7 hb7 HC6 HS6 HB6
        go_wp2_with fail
        refine HLS.out.mono ?_
        rintro e w8 ⟨A8, c8, rfl, ho8, hb8⟩
        obtain ⟨w9, hw9⟩ : ∃ W, W = w8.alloc (.cells #[.slice A8 L.length c8] 37) := ⟨_, rfl⟩
        obtain ⟨g8, hg8⟩ : ∃ g, g = w8.heap.size := ⟨_, rfl⟩
        have hb9 : Below w8.heap.size w8 w9 := by rw [hw9]; exact (Below.refl _ w8).alloc (Nat.le_refl _) _
        have hW9 : Whole w9 g8 37 [.slice A8 L.length c8] := by rw [hw9, hg8]; exact Whole.fresh w8 _ [_]
        have hb8' := HB7.out.trans (hb8.mono HB7.out.size)
        have hb9' : Below wr.heap.size wr w9 := hb8'.trans (hb9.mono hb8'.size)
        have hrx : Rd encPr 1 w9 (g8 + 1) (.slice (some ⟨g8, 0, none⟩) 1 1) [⟨L, A8, c8⟩] := (Whole.rdg (G := fun _ => False) encPr_len (l := [(⟨L, A8, c8⟩ : PrR)]) hW9 (Nat.le_refl 1) (Nat.lt_succ_self _) (fun h => h)).rd
        have hlow : ∀ b, (Value.slice Ag rows.length cg).ownBlock = some b → b < wr.heap.size := fun b hb => (HOWN.out.low hb).2
        have hnew : RdG cellsS 2 w9 w9.heap.size (fun b => (Value.slice Ag rows.length cg).ownBlock = some b) (.slice A8 L.length c8) L :=
          ((ho8.mono (Nat.le_refl _) (fun b _ hd => by have e1 := hlow b hd; have e2 := HB7.out.size; omega) : RdG cellsS 2 w8 w8.heap.size (fun b => (Value.slice Ag rows.length cg).ownBlock = some b) (.slice A8 L.length c8) L).mv (Mv.of_new hb9 (fun _ => False)) (Nat.le_refl _) (fun _ _ h => h.elim)).mono hb9.size (fun _ _ h => h)
        have hall : ∀ e ∈ rows ++ [(⟨L, A8, c8⟩ : PrR)], RdG cellsS 2 w9 w9.heap.size (fun b => (Value.slice Ag rows.length cg).ownBlock = some b) e.v e.l := fun e he => by
          rcases List.mem_append.1 he with he | he
          · exact ((HRD.out e he).mv (Mv.of_new hb9' (fun _ => False)) (Nat.le_refl _) (fun _ _ h => h.elim)).mono hb9'.size (fun _ _ h => h)
          · rw [List.mem_singleton] at he
            subst he
            exact hnew
        have HRX := Lib.hid hrx
        have HALL9 := Lib.hid hall
        have HO9 := Lib.hid (HOWN.out.below hb9' (Nat.le_refl _))
        have HA9 := Lib.hid (HWA.out.below hb9' HWA.out.size)
        have HS9 := Lib.hid (HWS.out.below hb9' HWS.out.size)
        have HB9 := Lib.hid (HB.out.trans (hb9'.mono HB.out.size))
        have HZ9 := Lib.hid (show w.heap.size ≤ w9.heap.size from Nat.le_trans HB.out.size hb9'.size)
        clear ho8 hb8 hb9 hW9 hb8' hb9' hrx hlow hnew hall HLS HOWN HRD HWA HWS HB HB7 q0 q1
        go_wp2_with (rw [← hw9, ← hg8]; at_builtin; go_must (refine wpList_addPR rfl _ _ rfl w.heap.size (.slice Ag rows.length cg) rows rfl HO9.out (g8 + 1) (.slice (some ⟨g8, 0, none⟩) 1 1) [⟨L, A8, c8⟩] rfl HRX.out (by have := HRL.out; simp only [List.length_cons, List.length_nil]; omega) HZ9.out ?_))
        intro A10 c10 w10 ho10 hg10 hn10
        try rw [← hw9] at hg10
        try rw [← hw9] at hn10
        have hm10 := Mv.of_grown hg10.out
        have HX := Lib.hid (show ∀ e ∈ rows ++ [(⟨L, A8, c8⟩ : PrR)], RdG cellsS 2 w10 w10.heap.size (fun b => (Value.slice A10 (rows.length + 1) c10).ownBlock = some b) e.v e.l from fun e he => ((HALL9.out e he).mv hm10 (Nat.le_refl _) (fun b _ hd => hd.symm)).mono hm10.size (fun b hb hd => by
          rcases hn10.out b hd with h | h
          · exact h
          · omega))
        have HA10 := Lib.hid (hm10.whole HA9.out (Own.apart HO9.out HA9.out (by decide)))
        have HS10 := Lib.hid (hm10.whole HS9.out (Own.apart HO9.out HS9.out (by decide)))
        have HB10 := Lib.hid (HB9.out.trans (hm10.below HZ9.out (fun b hd => (HO9.out.low hd.symm).1)))
        have HM10 := Lib.hid (show (rows ++ [(⟨L, A8, c8⟩ : PrR)]).map (·.l) = (List.range (2 + 1)).map (fun j => partL cs (spn k j)) from by
          rw [List.map_append, HMAP.out, List.range_succ, List.map_append, List.map_cons, List.map_nil, List.map_cons, List.map_nil, HLL.out]
          rfl)
        have HO10 := Lib.hid ho10.out
        clear ho10 hg10 hn10 hm10
        clear hw9 hg8
        go_wp2_with fail
        go_roundw
        case rel => exact ⟨2 + 1, rows ++ [⟨L, A8, c8⟩], by omega, by go_num, HM10.out, HO10.out, HX.out, HA10.out, HS10.out, HB10.out⟩
        case measure => simp [intOf]
    · have h1 : ¬ (i : Int) < 3 := by omega
      obtain rfl : i = 3 := by omega
      have hrl : rows.length = 3 := by have := congrArg List.length hmap; simpa using this
      obtain ⟨Ag, cg, rfl, hcap, hcell⟩ := Own.rd encPr_len hown
      obtain ⟨r0, r1, r2, rfl⟩ : ∃ r0 r1 r2, rows = [r0, r1, r2] := by
        match rows, hrl with
        | [a, b, c], _ => exact ⟨a, b, c, rfl⟩
      obtain ⟨b, o, rfl, hbl, f0⟩ := hcell 0 (by simp)
      obtain ⟨b1, o1, hh1, _, f1⟩ := hcell 1 (by simp)
      injection hh1 with hh1
      injection hh1 with h2 h3
      subst h2 h3
      obtain ⟨b1, o1, hh1, _, f2⟩ := hcell 2 (by simp)
      injection hh1 with hh1
      injection hh1 with h2 h3
      subst h2 h3
      have f0 : wr.cell? ⟨b, o, none⟩ = some (.slice r0.A r0.l.length r0.c) := f0 0 _ rfl
      have f1 : wr.cell? ⟨b, o + 1, none⟩ = some (.slice r1.A r1.l.length r1.c) := f1 0 _ rfl
      have f2 : wr.cell? ⟨b, o + 2, none⟩ = some (.slice r2.A r2.l.length r2.c) := f2 0 _ rfl
      have g0 : RdP wr wr.heap.size (.slice r0.A r0.l.length r0.c) r0.l := (hrd r0 (by simp)).rd
      have g1 : RdP wr wr.heap.size (.slice r1.A r1.l.length r1.c) r1.l := (hrd r1 (by simp)).rd
      have g2 : RdP wr wr.heap.size (.slice r2.A r2.l.length r2.c) r2.l := (hrd r2 (by simp)).rd
      have hm0 : r0.l = partL cs (spn k 0) ∧ r1.l = partL cs (spn k 1) ∧ r2.l = partL cs (spn k 2) := by
        have : [r0.l, r1.l, r2.l] = [partL cs (spn k 0), partL cs (spn k 1), partL cs (spn k 2)] := hmap
        injection this with a1 a2
        injection a2 with a2 a3
        injection a3 with a3 _
        exact ⟨a1, a2, a3⟩
      have hkle : k ≤ (⟨#[255, 255, 255]⟩ : K) := by have := HKL.out; grind
      have h0le : (⟨#[]⟩ : K) ≤ k := by have := HK0.out; grind
      have heq : r0.l = r1.l ++ r2.l := by
        rw [hm0.1, hm0.2.1, hm0.2.2, part_is cs _ (by show (⟨#[255, 255, 255]⟩ : K) ≤ _; grind) HLA.out, part_is cs _ (by show k ≤ _; exact hkle) HLA.out, part_is cs _ (by show (⟨#[255, 255, 255]⟩ : K) ≤ _; grind) HLA.out]
        exact cut_parts _ k _ h0le hkle cs
      have hlen : r0.l.length ≤ 10000 := by rw [hm0.1]; unfold partL Sh.list; rw [List.length_take]; show min (10000 : Int).toNat _ ≤ 10000; omega
      have hlen2 : r1.l.length + r2.l.length ≤ 10000 := by rw [← List.length_append, ← heq]; exact hlen
      obtain ⟨wd, hwd⟩ : ∃ W, W = wr.drew := ⟨_, rfl⟩
      have hbd : Below wr.heap.size wr wd := by rw [hwd]; exact (Below.refl _ _).drew
      have HF := Lib.hid (fun W (hW : Below wd.heap.size wd W) => show W.cell? ⟨b, o, none⟩ = some (.slice r0.A r0.l.length r0.c) ∧ W.cell? ⟨b, o + 1, none⟩ = some (.slice r1.A r1.l.length r1.c) ∧ W.cell? ⟨b, o + 2, none⟩ = some (.slice r2.A r2.l.length r2.c) from
        have hx := hbd.trans (hW.mono hbd.size)
        ⟨(hx.cell (p := ⟨b, _, none⟩) hbl).trans f0, (hx.cell (p := ⟨b, _, none⟩) hbl).trans f1, (hx.cell (p := ⟨b, _, none⟩) hbl).trans f2⟩)
      have HR := Lib.hid (fun W (hW : Below wd.heap.size wd W) => show RdP W W.heap.size (.slice r0.A r0.l.length r0.c) r0.l ∧ RdP W W.heap.size (.slice r1.A r1.l.length r1.c) r1.l ∧ RdP W W.heap.size (.slice r2.A r2.l.length r2.c) r2.l from
        have hx := hbd.trans (hW.mono hbd.size)
        ⟨(g0.below hx (Nat.le_refl _)).mono hx.size, (g1.below hx (Nat.le_refl _)).mono hx.size, (g2.below hx (Nat.le_refl _)).mono hx.size⟩)
      have HEQ := Lib.hid heq
      have HLN := Lib.hid hlen
      have HL2 := Lib.hid hlen2
      have HBD := Lib.hid (hb.trans (hbd.mono hb.size))
      have hcap' : 3 ≤ cg := by simpa using hcap
      clear hbd f0 f1 f2 g0 g1 g2 hm0 hkle h0le heq hlen hlen2 hown hrd hwA hwS hb hmap hrl hcell hcap hbl hgo hi h1
      go_wp2_with fail
      refine wp_region_planT (fun W => Below wd.heap.size wd W) (.take 0 (.take 1 (.take 2 (.take 4 (.take 5 (.take 6 (.take 8 (.take 9 (.take 10 (.step 3 (.step 7 (.step 11 (.step 12 (.take 13 .done)))))))))))))) (by kernel_rfl) (by kernel_rfl) (fun _ _ d _ _ h => by cases d <;> exact h) (by rw [← hwd]; exact Below.refl _ _) ?_
      rw [← hwd]
      clear hwd
      (refine PlanT.takeI (v := ?_) rfl rfl ?_ ?_; rotate_left; (focus (intro W hW; obtain ⟨k0, k1, k2⟩ := HF.out W hW; go_simp; (try with_reducible rfl); done)); (try simp only [Act.put, List.setIfInBounds_toArray, List.set_cons_zero, List.set_cons_succ]))
      (refine PlanT.takeI (v := ?_) rfl rfl ?_ ?_; rotate_left; (focus (intro W hW; obtain ⟨k0, k1, k2⟩ := HF.out W hW; go_simp; (try with_reducible rfl); done)); (try simp only [Act.put, List.setIfInBounds_toArray, List.set_cons_zero, List.set_cons_succ]))
      (refine PlanT.takeI (v := ?_) rfl rfl ?_ ?_; rotate_left; (focus (intro W hW; obtain ⟨k0, k1, k2⟩ := HF.out W hW; go_simp; (try with_reducible rfl); done)); (try simp only [Act.put, List.setIfInBounds_toArray, List.set_cons_zero, List.set_cons_succ]))
      (refine PlanT.takeI (v := ?_) rfl rfl ?_ ?_; rotate_left; (focus (intro W hW; obtain ⟨k0, k1, k2⟩ := HF.out W hW; go_simp; (try with_reducible rfl); done)); (try simp only [Act.put, List.setIfInBounds_toArray, List.set_cons_zero, List.set_cons_succ]))
      (refine PlanT.takeI (v := ?_) rfl rfl ?_ ?_; rotate_left; (focus (intro W hW; obtain ⟨k0, k1, k2⟩ := HF.out W hW; go_simp; (try with_reducible rfl); done)); (try simp only [Act.put, List.setIfInBounds_toArray, List.set_cons_zero, List.set_cons_succ]))
      (refine PlanT.takeI (v := ?_) rfl rfl ?_ ?_; rotate_left; (focus (intro W hW; obtain ⟨k0, k1, k2⟩ := HF.out W hW; go_simp; (try with_reducible rfl); done)); (try simp only [Act.put, List.setIfInBounds_toArray, List.set_cons_zero, List.set_cons_succ]))
      (refine PlanT.takeI (v := ?_) rfl rfl ?_ ?_; rotate_left; (focus (intro W hW; obtain ⟨k0, k1, k2⟩ := HF.out W hW; go_simp; (try with_reducible rfl); done)); (try simp only [Act.put, List.setIfInBounds_toArray, List.set_cons_zero, List.set_cons_succ]))
      (refine PlanT.takeI (v := ?_) rfl rfl ?_ ?_; rotate_left; (focus (intro W hW; obtain ⟨k0, k1, k2⟩ := HF.out W hW; go_simp; (try with_reducible rfl); done)); (try simp only [Act.put, List.setIfInBounds_toArray, List.set_cons_zero, List.set_cons_succ]))
      (refine PlanT.takeI (v := ?_) rfl rfl ?_ ?_; rotate_left; (focus (intro W hW; obtain ⟨k0, k1, k2⟩ := HF.out W hW; go_simp; (try with_reducible rfl); done)); (try simp only [Act.put, List.setIfInBounds_toArray, List.set_cons_zero, List.set_cons_succ]))
      refine wpOp_stepT rfl rfl (fun Kk hKk => ?_)
      go_simp
      obtain ⟨we, hwe⟩ : ∃ W, W = wd.alloc (.cells #[] 69) := ⟨_, rfl⟩
      have hbe : Below wd.heap.size wd we := by rw [hwe]; exact (Below.refl _ wd).alloc (Nat.le_refl _) _
      have hem : OwnP we wd.heap.size (.slice (some ⟨wd.heap.size, 0, none⟩) 0 0) [] := by rw [hwe]; exact Own.empty _ _ (Nat.le_refl _)
      rw [← hwe]
      refine hKk.out _ _ hbe ?_
      clear hKk Kk hwe
      (try simp only [Act.put, List.setIfInBounds_toArray, List.set_cons_zero, List.set_cons_succ])
      refine wpOp_stepT rfl rfl (fun Kk hKk => ?_)
      refine wp_addPr _ _ rfl wd.heap.size (.slice (some ⟨wd.heap.size, 0, none⟩) 0 0) [] rfl hem we.heap.size (.slice r1.A r1.l.length r1.c) r1.l rfl (HR.out we hbe).2.1 (by have := HL2.out; simp only [List.length_nil]; omega) hbe.size (fun A5 c5 w5 ho5 hg5 => ?_)
      have hb5 := hem.grown hbe hg5 (Nat.le_refl _) hbe.size
      refine hKk.out _ _ hb5 ?_
      clear hKk Kk hg5
      (try simp only [Act.put, List.setIfInBounds_toArray, List.set_cons_zero, List.set_cons_succ])
      refine wpOp_stepT rfl rfl (fun Kk hKk => ?_)
      refine wp_addPr _ _ rfl wd.heap.size (.slice A5 ([] ++ r1.l).length c5) ([] ++ r1.l) rfl ho5 w5.heap.size (.slice r2.A r2.l.length r2.c) r2.l rfl (HR.out w5 hb5).2.2 (by have := HL2.out; simp only [List.nil_append]; omega) hb5.size (fun A6 c6 w6 ho6 hg6 => ?_)
      have hb6 := ho5.grown hb5 hg6 (Nat.le_refl _) hb5.size
      refine hKk.out _ _ hb6 ?_
      clear hKk Kk hg6
      (try simp only [Act.put, List.setIfInBounds_toArray, List.set_cons_zero, List.set_cons_succ])
      refine wpOp_stepT rfl rfl (fun Kk hKk => ?_)
      go_simp
      have hpp := pairs_any r0.l ([] ++ r1.l ++ r2.l) _ _ w6 (HR.out w6 hb6).1 (ho6.rd cellsS_len) (by have := HLN.out; omega) (by have := HL2.out; simp only [List.nil_append, List.length_append]; omega)
      rw [show decide (r0.l = [] ++ r1.l ++ r2.l) = true from decide_eq_true (by rw [List.nil_append]; exact HEQ.out)] at hpp
      have HPP := Lib.hid hpp
      simp only [List.nil_append, List.length_append] at HPP
      go_at_call 13
      refine HPP.out.mono ?_
      rintro e w7 ⟨rfl, hb7⟩
      have hb7' := hb6.trans (hb7.mono hb6.size)
      refine hKk.out _ _ hb7' ?_
      clear hKk Kk hpp HPP
      (try simp only [Act.put, List.setIfInBounds_toArray, List.set_cons_zero, List.set_cons_succ])
      (refine PlanT.takeI (v := ?_) rfl rfl ?_ ?_; rotate_left; (focus (intro W hW; obtain ⟨k0, k1, k2⟩ := HF.out W hW; go_simp; (try with_reducible rfl); done)); (try simp only [Act.put, List.setIfInBounds_toArray, List.set_cons_zero, List.set_cons_succ]))
      simp only [PlanT]
      have HB7 := Lib.hid (HBD.out.trans (hb7'.mono HBD.out.size))
      clear hb7 hb7' hb6 hb5 hbe hem ho5 ho6
      go_wp2_with fail
      go_ret
      exact ⟨rfl, HB7.out⟩
end Go.Proofs.YtbifnogocmgddaaGreat
