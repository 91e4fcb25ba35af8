/- The frame layer's reader: spans, changes, and so many of them. Whether a message, a transaction, a batch, a state is sound: the program. Whether a batch, a state is sound: the program. What the arguments' forms say of numbers. Arguments of the frame laws as data: messages, transactions, batches, states. A chest as a state: its logs, its lock; what each call of it answers; pure. -/
import Derived.Test.YtmigninibdecmaaGreatFae
import Derived.Test.YtmigninibdecmaaGreatRows
import Derived.Test.YtmigninibdecmaaGreatFaa
import Derived.Test.YtmigninibdecmaaGreatFac
import Derived.Deep.Fields
import Derived.Deep.Strs
namespace Go.Proofs.YtmigninibdecmaaGreat
open Go.RowKit
attribute [local go_sem] less_eq same_eq le_eq ge_eq gt_eq

section
variable {α : Type} {enc : α → List Value} {k : Nat}
/-- append of what another slice holds; what grew is told -/
theorem wpList_addG {P : Program} {ops : Array Oper} {rest : List Oper} {o : Oper} {a : Act} {Q : Exit → Act → World → Prop} {w : World} (hgd : Region.wanted o (yielded ops a.tmps) = true) (t e : TypeId) (bytes : Nat) (i0 : TypeInfo) (z : Value) (ht : P.underlying t = some (.slice e)) (hi : P.info? e = some i0) (hz0 : i0.zero = some z) (hz1 : i0.size = k) (hz2 : i0.bytes = bytes) (hzs : z.cells.size = k) (hk0 : 0 < k)
    (hk : ∀ x, (enc x).length = k) (hone : ∀ x, ∀ u ∈ enc x, u.oneCell' = true) (s x : Operand)
    (ho : o.op = .call { callee := .builtin .append, args := #[s, x], argTypes := #[t, t] })
    (base : Nat) (v : Value) (l : List α) (hs : a.eval s = v) (hown : Own enc k e w base v l) (B : Nat) (v2 : Value) (p : List α) (hx : a.eval x = v2) (hp : Rd enc k w B v2 p)
    (h63 : l.length + p.length ≤ maxLen) (hbytes : ((l.length + p.length) + (l.length + p.length) / 4 + 192) * bytes ≤ 281474976710656) (hbase : base ≤ w.heap.size)
    (h : ∀ A' c' w', Hid (Own enc k e w' base (.slice A' (l ++ p).length c') (l ++ p)) → Hid (w.grownBy w' v.ownBlock) → wpList P ops Q rest (a.put o.dst (.slice A' (l ++ p).length c')) w') : wpList P ops Q (o :: rest) a w := by
  refine BigFrame.wpList_want hgd fun K hK => ?_
  refine wp_addAny t e bytes i0 z ht hi hz0 hz1 hz2 hzs hk0 hk hone s x ho base v l hs hown B v2 p hx hp h63 hbytes hbase fun A' c' w' h1 h2 => ?_
  exact hK _ _ (h A' c' w' (Lib.hid h1) (Lib.hid h2))
end

/-- what was owned from B on is so behind a reading whose reader lies below B -/
theorem Own.only {α : Type} {enc : α → List Value} {k : Nat} {e : TypeId} {w w' : World} {B p : Nat} {v : Value} {l : List α} (h : Own enc k e w B v l) (ho : Only p w w') (hp : p < B) : Own enc k e w' B v l := by
  refine Own.kept (row := some p) h ho ?_
  cases hb : v.ownBlock with
  | none => exact .inl rfl
  | some i => exact .inr fun e => by have := (h.low hb).1; injection e with e; omega

set_option maxHeartbeats 1000000 in
set_option maxRecDepth 100000 in
theorem fchange_any (S : Rest) (base p : Nat) (w : World) (hw : FR w base p S) :
    Calls Tryz.prog 84 #[.pointer (some ⟨p, 0, none⟩)] w fun x w' => x = .returned (cval (rdChg S).1) ∧ FR w' base p (rdChg S).2 ∧ Only p w w' := by
  unfold rdChg cval
  simp only
  obtain ⟨w1, hw1⟩ : ∃ w1, w1 = w.alloc (.cells #[.int .i64 0, .string ⟨#[]⟩, .string ⟨#[]⟩] 43) := ⟨_, rfl⟩
  have hb1 : Below w.heap.size w w1 := by rw [hw1]; exact (Below.refl _ _).alloc (Nat.le_refl _) _
  have hV1 : Whole w1 w.heap.size 43 [.int .i64 0, .string ⟨#[]⟩, .string ⟨#[]⟩] := by rw [hw1]; exact Whole.fresh _ _ _
  have hT0 := fnum_any S base p w1 (hw.more hb1)
  have hT := fun W h => ftext_any (rdN S).2 base p W h
  have hT2 := fun W h => ftext_any (rdT (rdN S).2).2 base p W h
  have hO1 := (Only.refl p w).below hb1
  have hpw := hw.size
  generalize (rdN S).1 = n at hT0 ⊢
  generalize strB (rdT (rdN S).2).1 = x at hT ⊢
  generalize rdT (rdT (rdN S).2).2 = r2 at hT2 ⊢
  generalize (rdT (rdN S).2).2 = S1 at hT hT2 ⊢
  generalize (rdN S).2 = S0 at hT0 hT ⊢
  generalize strB r2.1 = y at hT2 ⊢
  generalize r2.2 = S2 at hT2 ⊢
  have HT0 := Lib.hid hT0; clear hT0 hw
  have HT := Lib.hid hT; clear hT
  have HT2 := Lib.hid hT2; clear hT2
  have HW1 := Lib.hid hw1; clear hw1 hb1
  have HV1 := Lib.hid hV1; clear hV1
  have HO1 := Lib.hid hO1; clear hO1
  go_enter Tryz.func84, Tryz.ntmps84
  go_wp2_with fail
  rw [← HW1.out]
  refine HT0.out.mono ?_
  rintro e w5 ⟨rfl, hf, ho⟩
  have HT4 := Lib.hid (HT.out w5 hf); clear hf
  have HO5 := Lib.hid (HO1.out.trans ho)
  have HV5 := Lib.hid (HV1.out.grown (row := some p) ho (fun e => by injection e with e; omega)); clear ho
  go_wp2_with fail
  refine HT4.out.mono ?_
  rintro e w2 ⟨rfl, hf, ho⟩
  have HT3 := Lib.hid (HT2.out w2 hf); clear hf
  have HO2 := Lib.hid (HO5.out.trans ho)
  have HV2 := Lib.hid (HV5.out.grown (row := some p) ho (fun e => by injection e with e; omega)); clear ho
  go_wp2_with fail
  refine HT3.out.mono ?_
  rintro e w3 ⟨rfl, hf, ho⟩
  have HF := Lib.hid hf; clear hf
  have HO3 := Lib.hid (HO2.out.trans ho)
  have hV3 := (HV2.out.grown (row := some p) ho (fun e => by injection e with e; omega)); clear ho
  have q0 := hV3.cell 0 _ rfl
  have q1 := hV3.cell 1 _ rfl
  have q2 := hV3.cell 2 _ rfl
  have g0 := hV3.frozen 0
  have g1 := hV3.frozen 1
  have g2 := hV3.frozen 2
  have hV4 := ((hV3.put 0 (.int .i64 n)).put 1 (.string x)).put 2 (.string y)
  have j0 := hV4.cell 0 _ rfl
  have j1 := hV4.cell 1 _ rfl
  have j2 := hV4.cell 2 _ rfl
  have HV3 := Lib.hid hV3; clear hV3 hV4
  go_wp2_with fail
  refine bodyPost_ret (v := .agg #[.int .i64 n, .string x, .string y]) (by simp [results, Tryz.results84, go_sem, j0, j1, j2]) rfl ⟨rfl, ?_, ?_⟩
  · refine HF.out.kept (row := some w.heap.size) (B := w.heap.size) ?_ (fun k hk => by injection hk with hk; omega) hpw
    exact ((((Only.refl w.heap.size w3).put 0 _).put 1 _).put 2 _)
  · exact ((HO3.out.fresh (Nat.le_refl _) 0 _).fresh (Nat.le_refl _) 1 _).fresh (Nat.le_refl _) 2 _

set_option maxHeartbeats 4000000 in
set_option maxRecDepth 100000 in
theorem fchgs_rd (most : Nat) (hm : most ≤ 4096) (S : Rest) (base p : Nat) (w : World) (hw : FR w base p S) :
    Calls Tryz.prog 83 #[.pointer (some ⟨p, 0, none⟩), .int .i64 (most : Int), .func (.func 84) #[.pointer (some ⟨p, 0, none⟩)] #[]] w fun x w' => ∃ A c, x = .returned (.slice A (rdList rdChg most S).1.length c) ∧ Own encC 3 43 w' w.heap.size (.slice A (rdList rdChg most S).1.length c) (rdList rdChg most S).1 ∧ FR w' base p (rdList rdChg most S).2 ∧ Only p w w' := by
  obtain ⟨i0, hi, hz0, hz1, hz2⟩ := info_parts info_chg
  have hC := fcount_any most S base p w hw
  have hle := rdCount_le most S
  have hpw := hw.size
  unfold rdList
  simp only
  generalize rdCount most S = r at hC hle ⊢
  obtain ⟨n, S1⟩ := r
  simp only at hC hle ⊢
  obtain ⟨N, rfl⟩ : ∃ N : Nat, n = (N : Int) := ⟨n.toNat, by omega⟩
  rw [Int.toNat_natCast]
  have hN : N ≤ most := by omega
  have HC := Lib.hid hC; clear hC hw hle
  have HI0 := Lib.hid hi; clear hi
  have HZ0 := Lib.hid hz0; clear hz0
  have HZ1 := Lib.hid hz1; clear hz1
  have HZ2 := Lib.hid hz2; clear hz2
  obtain ⟨g, hg⟩ : ∃ g, g = w.heap.size := ⟨_, rfl⟩
  rw [← hg] at hpw ⊢
  have HG := Lib.hid hg; clear hg
  go_enter Tryz.func83, Tryz.ntmps83
  go_wp2_with fail
  refine HC.out.mono ?_
  rintro e w1 ⟨rfl, hf, ho⟩
  have HF1 := Lib.hid hf; clear hf
  have HO1 := Lib.hid ho; clear ho
  go_wp2_with fail
  go_loopw [7, 11] (fun sv iv wr => ∃ (i : Nat) (A : Option Addr) (c : Nat) (L : List Chg), i ≤ N ∧ iv = .int .i64 i ∧ sv = .slice A i c ∧ L.length = i ∧ L = repL rdChg i S1 ∧ Own encC 3 43 wr g (.slice A i c) L ∧ FR wr base p (repS rdChg i S1) ∧ Only p w wr) (fun _ iv _ => N - (intOf iv).toNat)
  case atStart => exact ⟨0, _, _, [], Nat.zero_le _, rfl, rfl, rfl, rfl, Own.nil _ _, HF1.out, HO1.out⟩
  case round =>
    obtain ⟨i, A, c, L, hil, rfl, rfl, hLl, hL, hown, hfr, honly⟩ := hrel
    have HO := Lib.hid hown; clear hown
    have HLL := Lib.hid hLl
    have HL := Lib.hid hL; clear hL
    have HON := Lib.hid honly
    have hsz : g ≤ wr.heap.size := by rw [HG.out]; exact honly.size
    clear honly
    by_cases hlt : i < N
    · have hone := fchange_any (repS rdChg i S1) base p wr hfr
      have hL2 : repL rdChg (i + 1) S1 = L ++ [(rdChg (repS rdChg i S1)).1] := by rw [repL, HL.out]
      have hS2 : repS rdChg (i + 1) S1 = (rdChg (repS rdChg i S1)).2 := rfl
      generalize rdChg (repS rdChg i S1) = r at hone hL2 hS2
      obtain ⟨x, S2⟩ := r
      simp only at hone hL2 hS2
      obtain ⟨n, x, y⟩ := x; unfold cval at hone; simp only at hone
      have HONE := Lib.hid hone; clear hone
      have HL2 := Lib.hid hL2; clear hL2
      have HS2 := Lib.hid hS2; clear hS2 hfr
      go_wp2_with fail
      refine HONE.out.mono ?_
      rintro e w2 ⟨rfl, hf2, ho2⟩
      have hsz2 : g ≤ w2.heap.size := Nat.le_trans hsz ho2.size
      have HF2 := Lib.hid hf2; clear hf2
      have HO2 := Lib.hid (HO.out.only ho2 hpw)
      have HON2 := Lib.hid (HON.out.trans ho2); clear ho2
      go_wp2_with (at_builtin; go_must (refine wpList_addG rfl 36 43 40 i0 _ Tryz.underlying36 HI0.out HZ0.out HZ1.out HZ2.out rfl (by decide) encC_len encC_one _ _ rfl g (.slice A i c) L rfl ?c0 (w2.heap.size + 1) _ [⟨n, x, y⟩] rfl ?c1 (by simp only [List.length_cons, List.length_nil]; unfold maxLen; omega) (by simp only [List.length_cons, List.length_nil]; omega) ?c2 ?_))
      case c0 => exact HO2.out.alloc _
      case c1 => exact Whole.rd (enc := encC) (k := 3) encC_len (l := [⟨n, x, y⟩]) (Whole.fresh w2 43 (flatG encC [⟨n, x, y⟩]))
      case c2 => simp; omega
      intro A3 c3 w3 ho3 hg3
      have hfa := (HF2.out.more ((Below.refl _ w2).alloc (Nat.le_refl _) (.cells (flatG encC [⟨n, x, y⟩]).toArray 43)))
      have hob := fun k hk => (HO2.out.low (i := k) hk).1
      have HF3 := Lib.hid (hfa.kept (B := g) hg3.out hob hpw)
      have HON3 := Lib.hid (show Only p w w3 from by
        have h1 := HON2.out.alloc (.cells (flatG encC [⟨n, x, y⟩]).toArray 43)
        have h2 := hg3.out
        refine ⟨h2.os.trans h1.os, h2.tape.trans h1.tape, h2.output.trans h1.output, Nat.le_trans h1.size h2.size, fun j hj hne => ?_⟩
        refine (h2.block j (Nat.lt_of_lt_of_le hj h1.size) fun e => ?_).trans (h1.block j hj hne)
        have := hob j e.symm
        rw [HG.out] at this
        omega)
      clear hfa hob hg3
      clear hLl
      go_wp2_with fail
      go_roundw
      case rel => exact ⟨i + 1, A3, c3, L ++ [⟨n, x, y⟩], by omega, by go_num, rfl, by rw [List.length_append, HLL.out]; rfl, by rw [HL2.out], ho3.out, by rw [HS2.out]; exact HF3.out, HON3.out⟩
      case measure => simp [intOf]; omega
    · obtain rfl : i = N := by omega
      have HF := Lib.hid hfr; clear hfr hLl
      go_wp2_with fail
      go_ret
      exact ⟨A, c, by rw [← HL.out, HLL.out]; rfl, by rw [← HL.out, HLL.out]; exact HO.out, HF.out, HON.out⟩

end Go.Proofs.YtmigninibdecmaaGreat
namespace Go.Proofs.YtmigninibdecmaaGreat
open Go.RowKit
attribute [local go_sem] less_eq same_eq le_eq ge_eq gt_eq

/-- numbers laid as a literal -/
theorem RdI.lit (W : World) (l : List Int) : RdI (W.alloc (.cells (l.map (.int .i64)).toArray 3)) (W.heap.size + 1) (.slice (some ⟨W.heap.size, 0, none⟩) l.length l.length) l := by
  have h := Whole.rd (enc := encI) (k := 1) encI_len (l := l) (Whole.fresh W 3 (flatG encI l))
  have e : flatG encI l = l.map (.int .i64) := by
    induction l with
    | nil => rfl
    | cons a r ih => rw [show a :: r = [a] ++ r from rfl, flatG_append, List.map_append, ih (Whole.rd encI_len (Whole.fresh W 3 _))]; rfl
  rw [e] at h
  exact h

set_option maxHeartbeats 1000000 in
set_option maxRecDepth 100000 in
theorem from0_any (l : List Int) (v : Value) (w : World) (B : Nat) (hv : RdI w B v l) (hl : l.length < 4611686018427387904) :
    Calls Tryz.prog 112 #[v] w fun e w' => e = .returned (.bool (decide (∀ n ∈ l, 0 ≤ n))) ∧ w' = w := by
  obtain ⟨A, c, rfl, hc, hi⟩ := hv.at
  obtain ⟨D, hD⟩ : ∃ D, D = decide (∀ n ∈ l, 0 ≤ n) := ⟨_, rfl⟩
  rw [← hD]
  have HD := Lib.hid hD; clear hD
  have HI := Lib.hid hi; clear hi
  clear hv
  go_enter Tryz.func112, Tryz.ntmps112
  go_wp2_with fail
  go_loop [7] (fun iv => ∃ i : Nat, i ≤ l.length ∧ iv = .int .i64 i ∧ Hid (∀ n ∈ l.take i, 0 ≤ n)) (fun iv => l.length - (intOf iv).toNat)
  case atStart => exact ⟨0, Nat.zero_le _, rfl, Lib.hid (by simp)⟩
  case round =>
    obtain ⟨i, hil, rfl, HALL⟩ := hrel
    by_cases hlt : i < l.length
    · obtain ⟨b, o, rfl, hbB, h1⟩ := HI.out i hlt
      have hyes : 0 ≤ l[i] → ∀ n ∈ l.take (i + 1), 0 ≤ n := fun h n hn => by
        rw [List.take_add_one, List.getElem?_eq_getElem hlt, List.mem_append] at hn
        rcases hn with hn | hn
        · exact HALL.out n hn
        · simp only [Option.toList_some, List.mem_singleton] at hn; rw [hn]; exact h
      have hno : ¬ (0 ≤ l[i]) → D = false := fun h => by rw [HD.out]; exact decide_eq_false fun hall => h (hall _ (List.getElem_mem hlt))
      generalize l[i] = z at h1 hyes hno
      have HY := Lib.hid hyes; clear hyes
      have HN := Lib.hid hno; clear hno
      by_cases hz : z < 0
      · go_wp2_with fail
        go_ret
        exact ⟨by rw [HN.out (by omega)]; rfl, rfl⟩
      · go_wp2_with fail
        go_round
        case rel => exact ⟨i + 1, by omega, by go_num, Lib.hid (HY.out (by omega))⟩
        case measure => simp [intOf]; omega
    · have hd : D = true := by
        rw [HD.out]
        have := HALL.out
        rw [List.take_of_length_le (by omega)] at this
        exact decide_eq_true this
      have HD2 := Lib.hid hd; clear hd
      go_wp2_with fail
      go_ret
      exact ⟨by rw [HD2.out]; rfl, rfl⟩

/-- a message as a value -/
def mval (m : Msg) (v : Value) : Value := .agg #[.int .i64 m.kind, .int .i64 m.frm, .int .i64 m.to, .int .i64 m.epoch, .int .i64 m.a, .int .i64 m.b, .int .i64 m.c, v]

theorem allAns_mem_zero {l : List Chg} (h : ∀ c ∈ l, checkAns c = 0) : allAns l = 0 := by
  induction l with
  | nil => rfl
  | cons x r ih => rw [allAns, if_pos (h x (by simp))]; exact ih fun c hc => h c (by simp [hc])

set_option maxHeartbeats 2000000 in
set_option maxRecDepth 100000 in
theorem soundCh_any (l : List Chg) (hs : ∀ c ∈ l, smallC c) (most : Nat) (hm : most ≤ 4096) (v : Value) (w : World) (hv : RdC w w.heap.size v l) (hl : l.length < 4611686018427387904) :
    Calls Tryz.prog 113 #[v, .int .i64 (most : Int)] w fun e w' => e = .returned (.bool (decide (l.length ≤ most ∧ allAns l = 0))) ∧ Below w.heap.size w w' := by
  obtain ⟨A, c, rfl, hc, hi⟩ := hv.at
  obtain ⟨D, hD⟩ : ∃ D, D = decide (l.length ≤ most ∧ allAns l = 0) := ⟨_, rfl⟩
  rw [← hD]
  have HD := Lib.hid hD; clear hD
  have HI := Lib.hid hi; clear hi
  have HS := Lib.hid hs; clear hs
  clear hv
  by_cases hbig : (most : Int) < (l.length : Int)
  · have hd : D = false := by rw [HD.out]; exact decide_eq_false fun h => by have := h.1; omega
    subst hd
    clear HD
    go_enter Tryz.func113, Tryz.ntmps113
    go_wp2_with fail
    go_ret
    exact ⟨rfl, Below.refl _ _⟩
  obtain ⟨g, hg⟩ : ∃ g, g = w.heap.size := ⟨_, rfl⟩
  rw [← hg] at HI ⊢
  have HG := Lib.hid hg; clear hg
  go_enter Tryz.func113, Tryz.ntmps113
  go_wp2_with fail
  go_loopw [13] (fun iv wr => ∃ i : Nat, i ≤ l.length ∧ iv = .int .i64 i ∧ Below g w wr ∧ g ≤ wr.heap.size ∧ Hid (∀ s ∈ l.take i, checkAns s = 0)) (fun iv _ => l.length - (intOf iv).toNat)
  case atStart => exact ⟨0, Nat.zero_le _, rfl, Below.refl _ _, by rw [HG.out]; exact Nat.le_refl _, Lib.hid (by simp)⟩
  case round =>
    obtain ⟨i, hil, rfl, hbw, hgs, HALL⟩ := hrel
    have HB := Lib.hid hbw; clear hbw
    by_cases hlt : i < l.length
    · obtain ⟨b, o, rfl, hbB, k0, k1, k2⟩ := HI.out i hlt
      rw [← HB.out.cell (p := ⟨b, _, none⟩) hbB] at k0 k1 k2
      have hsm := HS.out l[i] (List.getElem_mem hlt)
      have hyes : checkAns l[i] = 0 → ∀ s ∈ l.take (i + 1), checkAns s = 0 := fun h n hn => by
        rw [List.take_add_one, List.getElem?_eq_getElem hlt, List.mem_append] at hn
        rcases hn with hn | hn
        · exact HALL.out n hn
        · simp only [Option.toList_some, List.mem_singleton] at hn; rw [hn]; exact h
      have hno : ¬ checkAns l[i] = 0 → D = false := fun h => by rw [HD.out]; exact decide_eq_false fun hall => h (allAns_all hall.2 _ (List.getElem_mem hlt))
      generalize l[i] = z at k0 k1 k2 hyes hno hsm
      have hck := fun W => pcheck_any z W (by have := hsm.1; omega) (by have := hsm.2; omega)
      unfold cval at hck
      generalize checkAns z = q at hck hyes hno
      obtain ⟨kz, x, y⟩ := z
      simp only at k0 k1 k2 hck
      have HY := Lib.hid hyes; clear hyes
      have HN := Lib.hid hno; clear hno
      have HK := Lib.hid hck; clear hck hsm
      have HB2 := Lib.hid (show Below g w (wr.alloc (.cells #[.int .i64 kz, .string x, .string y] 43)) from HB.out.alloc hgs _)
      go_wp2_with fail
      refine (HK.out _).mono ?_
      rintro e w2 ⟨rfl, hb2⟩
      have hgs2 : g ≤ w2.heap.size := by have := hb2.size; simp at this; omega
      have HB3 := Lib.hid (show Below g w w2 from HB2.out.trans (hb2.mono (by simp; omega)))
      clear hb2 k0 k1 k2
      by_cases hq : q = 0
      · subst hq
        have hok := HY.out rfl
        have HOK := Lib.hid hok; clear hok
        go_wp2_with fail
        go_roundw
        case rel => exact ⟨i + 1, by omega, by go_num, HB3.out, hgs2, Lib.hid HOK.out⟩
        case measure => simp [intOf]; omega
      · go_wp2_with fail
        go_ret
        exact ⟨by rw [HN.out hq]; rfl, HB3.out⟩
    · have hd : D = true := by
        rw [HD.out]
        have := HALL.out
        rw [List.take_of_length_le (by omega)] at this
        exact decide_eq_true ⟨by omega, allAns_mem_zero this⟩
      have HD2 := Lib.hid hd; clear hd
      go_wp2_with fail
      go_ret
      exact ⟨by rw [HD2.out]; rfl, HB.out⟩

/-- a transaction, a batch, a state as values -/
def tval (t : Txn) (v1 v2 : Value) : Value := .agg #[.int .i64 t.read, v1, v2]
def bval (x : Bat) (v : Value) : Value := .agg #[.int .i64 x.prev, .int .i64 x.version, .int .i64 x.known, v]
def sval (x : Sta) (v : Value) : Value := .agg #[.int .i64 x.gen, .int .i64 x.epoch, .int .i64 x.recd, v]
/-- lengths that a walk needs -/
def fitT (t : Txn) : Prop := t.reads.length < 4611686018427387904 ∧ (∀ s ∈ t.reads, s.1.size < 4611686018427387904 ∧ s.2.size < 4611686018427387904) ∧ t.chgs.length < 4611686018427387904 ∧ ∀ c ∈ t.chgs, smallC c

end Go.Proofs.YtmigninibdecmaaGreat
namespace Go.Proofs.YtmigninibdecmaaGreat
open Go.RowKit

/-- a cell of a block that was made and stands -/
theorem box_cell {w W : World} {cs : List Value} {t : TypeId} (h : Below (w.heap.size + 1) (w.alloc (.cells cs.toArray t)) W) (i : Nat) (v : Value) (hv : cs[i]? = some v) : W.cell? ⟨w.heap.size, i, none⟩ = some v :=
  (h.cell (p := ⟨w.heap.size, i, none⟩) (Nat.lt_succ_self _)).trans ((Whole.fresh w t cs).cell i v hv)

def fitB (x : Bat) : Prop := x.chgs.length < 4611686018427387904 ∧ ∀ c ∈ x.chgs, smallC c

set_option maxHeartbeats 2000000 in
set_option maxRecDepth 100000 in
theorem soundB_any (x : Bat) (hft : fitB x) (v : Value) (w : World) (hv : RdC w w.heap.size v x.chgs) :
    Calls Tryz.prog 86 #[bval x v] w fun e w' => e = .returned (.bool (decide (soundB x))) ∧ Below w.heap.size w w' := by
  obtain ⟨h1, h2⟩ := hft
  obtain ⟨a, b, c, chgs⟩ := x
  obtain ⟨R, hR⟩ : ∃ R, R = decide (soundB ⟨a, b, c, chgs⟩) := ⟨_, rfl⟩
  rw [← hR]
  unfold soundB at hR
  unfold bval
  simp only at hR h1 h2 hv ⊢
  have hF := fun W B h => from0_any [a, b, c] (.slice (some ⟨w.heap.size + 1, 0, none⟩) 3 3) W B h (by simp)
  have hi1 := RdI.lit (w.alloc (.cells #[.int .i64 a, .int .i64 b, .int .i64 c, v] 38)) [a, b, c]
  simp only [World.size_alloc, List.map_cons, List.map_nil, List.length_cons, List.length_nil] at hi1
  have hb2 : Below w.heap.size w ((w.alloc (.cells #[.int .i64 a, .int .i64 b, .int .i64 c, v] 38)).alloc (.cells #[.int .i64 a, .int .i64 b, .int .i64 c] 3)) := ((Below.refl _ _).alloc (Nat.le_refl _) _).alloc (by simp) _
  have hA := soundCh_any chgs h2 4096 (by omega) v _ (hv.next hb2) h1
  obtain ⟨D1, hD1⟩ : ∃ D1, D1 = decide (∀ n ∈ [a, b, c], 0 ≤ n) := ⟨_, rfl⟩
  obtain ⟨D2, hD2⟩ : ∃ D2, D2 = decide (chgs.length ≤ 4096 ∧ allAns chgs = 0) := ⟨_, rfl⟩
  rw [← hD1] at hF
  rw [← hD2] at hA
  have e1 : (∀ n ∈ [a, b, c], 0 ≤ n) ↔ 0 ≤ a ∧ 0 ≤ b ∧ 0 ≤ c := by simp
  have hRR : R = (D1 && D2) := by
    rw [hR, hD1, hD2, ← Bool.decide_and]
    exact decide_eq_decide.2 ⟨fun h => ⟨e1.2 h.1, h.2⟩, fun h => ⟨e1.1 h.1, h.2⟩⟩
  have HF := Lib.hid (hF _ _ hi1); clear hF hi1
  have HA := Lib.hid hA; clear hA
  have HB2 := Lib.hid hb2; clear hb2
  obtain ⟨A1, c1, rfl, _, _⟩ := hv.at
  clear hR hD1 hD2 e1 hv h2
  subst hRR
  go_enter Tryz.func86, Tryz.ntmps86
  go_wp2_with fail
  refine HF.out.mono ?_
  rintro e w1 ⟨rfl, rfl⟩
  cases D1 with
  | false =>
    go_wp2_with fail
    go_ret
    exact ⟨rfl, HB2.out⟩
  | true =>
    go_wp2_with fail
    refine HA.out.mono ?_
    rintro e w3 ⟨rfl, hb3⟩
    have HB3 := Lib.hid (show Below w.heap.size w w3 from HB2.out.trans (hb3.mono (by simp; omega))); clear hb3
    cases D2 with
    | false =>
      go_wp2_with fail
      go_ret
      exact ⟨rfl, HB3.out⟩
    | true =>
      go_wp2_with fail
      go_ret
      exact ⟨rfl, HB3.out⟩

end Go.Proofs.YtmigninibdecmaaGreat
namespace Go.Proofs.YtmigninibdecmaaGreat
theorem int_of_wf {i : Int} (h : (Lit.int .i64 i).wf = true) : -9223372036854775808 ≤ i ∧ i < 9223372036854775808 := by
  have h1 : IntKind.i64.min = -9223372036854775808 := rfl
  have h2 : IntKind.i64.max = 9223372036854775807 := rfl
  simp only [Lit.wf, Bool.and_eq_true, decide_eq_true_eq] at h
  omega
theorem nat_of_wfu8 {i : Int} (h : (Lit.int .u8 i).wf = true) : ∃ n : Nat, i = (n : Int) ∧ n < 256 := by
  have h1 : IntKind.u8.min = 0 := rfl
  have h2 : IntKind.u8.max = 255 := rfl
  simp only [Lit.wf, Bool.and_eq_true, decide_eq_true_eq] at h
  exact ⟨i.toNat, by omega, by omega⟩
theorem nat_of_wfu16 {i : Int} (h : (Lit.int .u16 i).wf = true) : ∃ n : Nat, i = (n : Int) ∧ n < 65536 := by
  have h1 : IntKind.u16.min = 0 := rfl
  have h2 : IntKind.u16.max = 65535 := rfl
  simp only [Lit.wf, Bool.and_eq_true, decide_eq_true_eq] at h
  exact ⟨i.toNat, by omega, by omega⟩
theorem nat_of_wfu32 {i : Int} (h : (Lit.int .u32 i).wf = true) : ∃ n : Nat, i = (n : Int) ∧ n < 2 ^ 32 := by
  have h1 : IntKind.u32.min = 0 := rfl
  have h2 : IntKind.u32.max = 4294967295 := rfl
  simp only [Lit.wf, Bool.and_eq_true, decide_eq_true_eq] at h
  exact ⟨i.toNat, by omega, by omega⟩
end Go.Proofs.YtmigninibdecmaaGreat
namespace Go.Proofs.YtmigninibdecmaaGreat
open Go.ChangeShapes Go.WideShapes Go.ChangeAt Go.RowKit Go.Joins Go.Deep

theorem array8 {α : Type} {cs : Array α} (h : cs.size = 8) : ∃ c0 c1 c2 c3 c4 c5 c6 c7, cs = #[c0, c1, c2, c3, c4, c5, c6, c7] := by
  obtain ⟨l⟩ := cs
  match l, h with
  | [c0, c1, c2, c3, c4, c5, c6, c7], _ => exact ⟨c0, c1, c2, c3, c4, c5, c6, c7, rfl⟩
section
variable {H : Type} {enc : TypeId × Value → H} {P : Program} {w : World} {base : Nat} {spare : Nat → Bool} {held : Bool}
theorem open_agg8 {r : Reach} {b0 : Nat} {t : TypeId} {f0 f1 f2 f3 f4 f5 f6 f7 : Field} {v : Value} {d : DataW H} {p : List MemPlace} (hs : P.underlying t = some (.struct #[f0, f1, f2, f3, f4, f5, f6, f7])) (hone : oneCellFields P #[f0, f1, f2, f3, f4, f5, f6, f7] = true) (hC : P.cellsOf t = 8)
    (hv : Value.okWide P w r b0 t v) (h : DataW.Trod enc P w base spare held t v d p) :
    ∃ (v0 v1 v2 v3 v4 v5 v6 v7 : Value) (y0 y1 y2 y3 y4 y5 y6 y7 : DataW H × List MemPlace) (n : Nat), v = .agg #[v0, v1, v2, v3, v4, v5, v6, v7] ∧ d = .agg [y0.1, y1.1, y2.1, y3.1, y4.1, y5.1, y6.1, y7.1] ∧
      DataW.trod enc P w base spare held n f0.type [v0] = some y0 ∧ DataW.trod enc P w base spare held n f1.type [v1] = some y1 ∧ DataW.trod enc P w base spare held n f2.type [v2] = some y2 ∧ DataW.trod enc P w base spare held n f3.type [v3] = some y3 ∧ DataW.trod enc P w base spare held n f4.type [v4] = some y4 ∧ DataW.trod enc P w base spare held n f5.type [v5] = some y5 ∧ DataW.trod enc P w base spare held n f6.type [v6] = some y6 ∧ DataW.trod enc P w base spare held n f7.type [v7] = some y7 := by
  obtain ⟨cs, rfl, hsz⟩ := okWide_struct hs hv
  obtain ⟨c0, c1, c2, c3, c4, c5, c6, c7, rfl⟩ := array8 (hsz.trans hC)
  obtain ⟨fuel, hf⟩ := h
  obtain ⟨xs, n, _, hx, hl, hlen, hff⟩ := DataW.trod_struct hs hf
  match xs, hlen with
  | [y0, y1, y2, y3, y4, y5, y6, y7], _ =>
    obtain ⟨o0, k0⟩ := hone_of hone 0 f0 rfl
    obtain ⟨o1, k1⟩ := hone_of hone 1 f1 rfl
    obtain ⟨o2, k2⟩ := hone_of hone 2 f2 rfl
    obtain ⟨o3, k3⟩ := hone_of hone 3 f3 rfl
    obtain ⟨o4, k4⟩ := hone_of hone 4 f4 rfl
    obtain ⟨o5, k5⟩ := hone_of hone 5 f5 rfl
    obtain ⟨o6, k6⟩ := hone_of hone 6 f6 rfl
    obtain ⟨o7, k7⟩ := hone_of hone 7 f7 rfl
    have g0 := hff 0 f0 rfl
    have g1 := hff 1 f1 rfl
    have g2 := hff 2 f2 rfl
    have g3 := hff 3 f3 rfl
    have g4 := hff 4 f4 rfl
    have g5 := hff 5 f5 rfl
    have g6 := hff 6 f6 rfl
    have g7 := hff 7 f7 rfl
    simp only [Prod.mk.injEq] at hx
    exact ⟨c0, c1, c2, c3, c4, c5, c6, c7, y0, y1, y2, y3, y4, y5, y6, y7, n, rfl, by simpa using hx.1, by simpa [Value.cells, o0, k0] using g0, by simpa [Value.cells, o1, k1] using g1, by simpa [Value.cells, o2, k2] using g2, by simpa [Value.cells, o3, k3] using g3, by simpa [Value.cells, o4, k4] using g4, by simpa [Value.cells, o5, k5] using g5, by simpa [Value.cells, o6, k6] using g6, by simpa [Value.cells, o7, k7] using g7⟩
theorem slice_of {T e : TypeId} (hT : P.underlying T = some (.slice e)) {n : Nat} {v : Value} {y : DataW H × List MemPlace} (h : DataW.trod enc P w base spare held n T [v] = some y) : (∃ a len cap, v = .slice a len cap) ∧ DataW.Trod enc P w base spare held T v y.1 y.2 := by
  have hs : ∃ a len cap, v = .slice a len cap := by
    rcases open_slice hT h with ⟨hcs, _⟩ | ⟨a, len, cap, _, _, _, _, hcs, _⟩
    · exact ⟨none, 0, 0, by simpa using hcs⟩
    · exact ⟨some a, len, cap, by simpa using hcs⟩
  refine ⟨hs, ?_⟩
  obtain ⟨a, len, cap, rfl⟩ := hs
  exact ⟨n, by simpa [Value.cells] using h⟩
end
set_option maxRecDepth 100000 in
/-- a slice of bytes that came in reads as a list -/
theorem open_bytesF {H : Type} {enc : TypeId × Value → H} {W : World} {v : Value} {d : DataW H} {p : List MemPlace} (hv : ∃ a len cap, v = .slice a len cap) (h : DataW.Trod enc Tryz.prog W 0 (fun _ => true) true 41 v d p) :
    ∃ l, RdB W W.heap.size v l ∧ SizedB d l := by
  obtain ⟨a0, len, cap, rfl⟩ := hv
  obtain ⟨fuel, hf⟩ := h
  rcases open_ints Tryz.underlying41 Tryz.underlying5 (by kernel_rfl) hf with ⟨hcs, hx⟩ | ⟨a, len', cap', zs, hcs, _, hl, hm, hz, hx, hcell, hwz⟩
  · simp only [Value.cells] at hcs
    have e : Value.slice a0 len cap = .slice none 0 0 := by simpa using hcs
    injection e with e1 e2 e3
    subst e1 e2 e3
    simp only [Prod.mk.injEq] at hx
    exact ⟨[], Rd.nil _ _, .inl ⟨hx.1, rfl⟩⟩
  · simp only [Value.cells] at hcs
    have e : Value.slice a0 len cap = .slice (some a) len' cap' := by simpa using hcs
    injection e with e1 e2 e3
    subst e1 e2 e3
    simp only [Prod.mk.injEq] at hx
    obtain ⟨rfl, rfl⟩ := hx
    simp only [if_true] at hz
    have hb : ∀ n ∈ zs, 0 ≤ n ∧ n < 256 := fun n hn => by
      have h := hwz n hn
      have h1 : IntKind.u8.min = 0 := rfl
      have h2 : IntKind.u8.max = 255 := rfl
      simp only [Lit.wf, Bool.and_eq_true, decide_eq_true_eq] at h
      omega
    refine ⟨(zs.take len).map fun n => UInt8.ofNat n.toNat, ?_, .inr ⟨_, _, rfl, by simp [lits]⟩⟩
    have hlen : ((zs.take len).map fun n => UInt8.ofNat n.toNat).length = len := by simp; omega
    refine ⟨some a, cap, by rw [hlen], by rw [hlen]; exact hl, fun i hi => ?_⟩
    have hi' : i < len := by omega
    have hc := hcell i (by omega)
    have hsp : a.spot = none := by
      have h0 := hcell 0 (by omega)
      have e0 : a.add 0 = a := rfl
      rw [e0] at h0
      exact World.cell?_spot h0
    rw [addr_add a i hsp] at hc
    have hblk := World.block_lt_of_cell? _ _ hc
    refine ⟨a.block, a.off, by cases a; simp only at hsp; subst hsp; rfl, hblk, fun j u hu => ?_⟩
    match j, hu with
    | 0, hu =>
      simp only [byteEnc, List.getElem?_cons_zero, Option.some.injEq] at hu
      subst hu
      have hlt : i < zs.length := by omega
      have := hb zs[i] (List.getElem_mem hlt)
      rw [Nat.mul_one, Nat.add_zero, hc]
      simp [List.getD, hlt]
      omega
    | j + 1, hu => simp [byteEnc] at hu
set_option maxRecDepth 100000 in
/-- a slice of ints that came in reads as a list -/
theorem open_intsF {H : Type} {enc : TypeId × Value → H} {W : World} {v : Value} {d : DataW H} {p : List MemPlace} (hv : ∃ a len cap, v = .slice a len cap) (h : DataW.Trod enc Tryz.prog W 0 (fun _ => true) true 51 v d p) :
    ∃ l, RdI W W.heap.size v l ∧ SizedI d l ∧ ∀ n ∈ l, -9223372036854775808 ≤ n ∧ n < 9223372036854775808 := by
  obtain ⟨a0, len, cap, rfl⟩ := hv
  obtain ⟨fuel, hf⟩ := h
  rcases open_ints Tryz.underlying51 Tryz.underlying3 (by kernel_rfl) hf with ⟨hcs, hx⟩ | ⟨a, len', cap', zs, hcs, _, hl, hm, hz, hx, hcell, hwz⟩
  · simp only [Value.cells] at hcs
    have e : Value.slice a0 len cap = .slice none 0 0 := by simpa using hcs
    injection e with e1 e2 e3
    subst e1 e2 e3
    simp only [Prod.mk.injEq] at hx
    exact ⟨[], Rd.nil _ _, .inl ⟨hx.1, rfl⟩, by simp⟩
  · simp only [Value.cells] at hcs
    have e : Value.slice a0 len cap = .slice (some a) len' cap' := by simpa using hcs
    injection e with e1 e2 e3
    subst e1 e2 e3
    simp only [Prod.mk.injEq] at hx
    obtain ⟨rfl, rfl⟩ := hx
    simp only [if_true] at hz
    have hb : ∀ n ∈ zs, -9223372036854775808 ≤ n ∧ n < 9223372036854775808 := fun n hn => by
      have h := hwz n hn
      have h1 : IntKind.i64.min = -9223372036854775808 := rfl
      have h2 : IntKind.i64.max = 9223372036854775807 := rfl
      simp only [Lit.wf, Bool.and_eq_true, decide_eq_true_eq] at h
      omega
    have hlen : (zs.take len).length = len := by simp; omega
    refine ⟨zs.take len, ⟨some a, cap, by rw [hlen], by rw [hlen]; exact hl, fun i hi => ?_⟩, .inr ⟨_, _, rfl, by simp [lits]⟩, fun n hn => hb n (List.mem_of_mem_take hn)⟩
    have hi' : i < len := by omega
    have hc := hcell i (by omega)
    have hsp : a.spot = none := by
      have h0 := hcell 0 (by omega)
      have e0 : a.add 0 = a := rfl
      rw [e0] at h0
      exact World.cell?_spot h0
    rw [addr_add a i hsp] at hc
    have hblk := World.block_lt_of_cell? _ _ hc
    refine ⟨a.block, a.off, by cases a; simp only at hsp; subst hsp; rfl, hblk, fun j u hu => ?_⟩
    match j, hu with
    | 0, hu =>
      simp only [encI, List.getElem?_cons_zero, Option.some.injEq] at hu
      subst hu
      have hlt : i < zs.length := by omega
      rw [Nat.mul_one, Nat.add_zero, hc]
      simp [List.getD, hlt]
    | j + 1, hu => simp [encI] at hu
/-- what is known of the data of a list -/
def SizedL {H α : Type} (Ok : α → DataW H → Prop) (d : DataW H) (l : List α) : Prop := (d = .nil ∧ l = []) ∨ ∃ el sp, d = .slice el sp ∧ el.length = l.length ∧ ∀ i (_ : i < l.length), ∃ d', el[i]? = some d' ∧ Ok l[i] d'
set_option maxRecDepth 100000 in
/-- a slice that came in reads as a list, if each element's cells are known -/
theorem open_rowsF {H α : Type} [Inhabited α] {e2 : α → List Value} {k : Nat} (hk : 0 < k) (he2 : ∀ x, (e2 x).length = k) {T e : TypeId} (hT : Tryz.prog.underlying T = some (.slice e)) (hc : Tryz.prog.cellsOf e = k) (Ok : α → DataW H → Prop)
    {enc : TypeId × Value → H} {W : World} (one : ∀ fuel cs x, DataW.trod enc Tryz.prog W 0 (fun _ => true) true fuel e cs = some x → ∃ s, cs = e2 s ∧ Ok s x.1)
    {v : Value} {d : DataW H} {p : List MemPlace} (hv : ∃ a len cap, v = .slice a len cap) (h : DataW.Trod enc Tryz.prog W 0 (fun _ => true) true T v d p) :
    ∃ l, Rd e2 k W W.heap.size v l ∧ SizedL Ok d l := by
  obtain ⟨a0, len, cap, rfl⟩ := hv
  obtain ⟨fuel, hf⟩ := h
  rcases open_slice hT hf with ⟨hcs, hx⟩ | ⟨a, len', cap', m, n, D, Pl, hcs, _, hl, _, hm, hx, hi⟩
  · simp only [Value.cells] at hcs
    have e : Value.slice a0 len cap = .slice none 0 0 := by simpa using hcs
    injection e with e1 e2 e3
    subst e1 e2 e3
    simp only [Prod.mk.injEq] at hx
    exact ⟨[], Rd.nil _ _, .inl ⟨hx.1, rfl⟩⟩
  · simp only [Value.cells] at hcs
    have e : Value.slice a0 len cap = .slice (some a) len' cap' := by simpa using hcs
    injection e with e1 e2' e3
    subst e1 e2' e3
    simp only [Prod.mk.injEq] at hx
    obtain ⟨rfl, rfl⟩ := hx
    simp only [if_true] at hm
    subst hm
    have hcell : ∀ i, i < len → ∃ s : α, Ok s (D i) ∧ ∀ j, j < k → W.cell? (a.add (i * k + j)) = (e2 s)[j]? := fun i hi' => by
      obtain ⟨cs', hc', ht⟩ := hi i (Nat.lt_of_lt_of_le hi' hl)
      rw [hc] at hc'
      obtain ⟨s, rfl, hok⟩ := one _ _ _ ht
      obtain ⟨_, hlen, hat⟩ := World.cells?_some hc'
      refine ⟨s, hok, fun j hj => ?_⟩
      have h0 := hat j (by omega)
      rw [Go.Deep.add_add] at h0
      exact h0
    obtain ⟨f, hf⟩ : ∃ f : Nat → α, ∀ i, i < len → Ok (f i) (D i) ∧ ∀ j, j < k → W.cell? (a.add (i * k + j)) = (e2 (f i))[j]? := by
      refine ⟨fun i => if h : i < len then (hcell i h).choose else default, fun i hi' => ?_⟩
      simp only [dif_pos hi']
      exact (hcell i hi').choose_spec
    refine ⟨(List.range len).map f, ⟨some a, m, by simp, by simpa using hl, fun i hs => ?_⟩, .inr ⟨_, _, rfl, by simp, fun i hs => ?_⟩⟩
    · have hlt : i < len := by simpa using hs
      have h0 := (hf i hlt).2 0 hk
      rw [List.getElem?_eq_getElem (by rw [he2]; exact hk)] at h0
      have hblk := World.block_lt_of_cell? _ _ h0
      have hba : (a.add (i * k + 0)).block = a.block := by unfold Addr.add; split <;> rfl
      have hsp : a.spot = none := by
        have h0 := (hf 0 (by omega)).2 0 hk
        rw [List.getElem?_eq_getElem (by rw [he2]; exact hk), Nat.zero_mul] at h0
        exact World.cell?_spot (a := a.add (0 + 0)) h0
      refine ⟨a.block, a.off, by cases a; simp only at hsp; subst hsp; rfl, by omega, fun j u hu => ?_⟩
      have hj : j < k := by
        rcases Nat.lt_or_ge j k with h' | h'
        · exact h'
        · rw [List.getElem?_eq_none (by rw [he2]; exact h')] at hu; cases hu
      have h1 := (hf i hlt).2 j hj
      rw [addr_add a _ hsp] at h1
      simp only [List.getElem_map, List.getElem_range] at hu
      rw [hu] at h1
      rw [← h1]
      congr 2
      omega
    · have hlt : i < len := by simpa using hs
      exact ⟨D i, by simp [hlt], by simpa using (hf i hlt).1⟩

/-- the data of a pair, of a change -/
def PairD {H : Type} (s : K × K) (d : DataW H) : Prop := d = .agg [.lit (.string s.1.data.toList), .lit (.string s.2.data.toList)]
def ChgD {H : Type} (c : Chg) (d : DataW H) : Prop := ∃ y, d = .agg [y, .lit (.string c.key.data.toList), .lit (.string c.val.data.toList)]

section
variable {H : Type} {enc : TypeId × Value → H} {w : World} {base : Nat} {spare : Nat → Bool} {held : Bool}
set_option maxRecDepth 100000 in
theorem chg_of_cells {fuel : Nat} {cs : List Value} {x : DataW H × List MemPlace} (h : DataW.trod enc Tryz.prog w base spare held fuel 43 cs = some x) : ∃ s : Chg, cs = encC s ∧ ChgD s x.1 := by
  obtain ⟨y0, y1, y2, n, hx, hlen, h0, h1, h2⟩ := trod_struct3 Tryz.underlying43 h
  rw [show Tryz.prog.cellsOf 43 = 3 by kernel_rfl] at hlen
  match cs, hlen with
  | [u, v, t], _ =>
    have c9 : Tryz.prog.cellsOf 9 = 1 := by kernel_rfl
    have c3 : Tryz.prog.cellsOf 3 = 1 := by kernel_rfl
    simp [c9, c3] at h0 h1 h2
    obtain ⟨m, em, _, _⟩ := DataW.trod_int Tryz.underlying3 h0
    obtain ⟨a, ea, xa, ha⟩ := DataW.trod_string Tryz.underlying9 h1
    obtain ⟨b, eb, xb, hb⟩ := DataW.trod_string Tryz.underlying9 h2
    simp at em ea eb
    exact ⟨⟨m, a, b⟩, by rw [em, ea, eb]; rfl, y0.1, by rw [hx, xa, xb]⟩
end
theorem weights_el {H : Type} {P : Program} {T e : TypeId} (hu : P.underlying T = some (.slice e)) {el sp : List (DataW H)} {i : Nat} {d' : DataW H} (hi : el[i]? = some d') {n : Nat} (hn : n ∈ d'.weights P e) : n ∈ (DataW.slice el sp).weights P T := by
  have key : ∀ (el : List (DataW H)) (i : Nat), el[i]? = some d' → n ∈ DataW.weightsAll P e el := by
    intro el
    induction el with
    | nil => intro i h; simp at h
    | cons x r ih =>
      intro i h
      cases i with
      | zero => simp at h; subst h; simp [DataW.weightsAll, hn]
      | succ i => simp at h; simp [DataW.weightsAll, ih i h]
  simp only [DataW.weights, hu, List.mem_cons, List.mem_append]
  exact .inr (.inl (key el i hi))

theorem weights_all {H : Type} {P : Program} {ts : List TypeId} {ds : List (DataW H)} (h : (DataW.weightsEach P ts ds).all (· ≤ reachBytes) = true) {j : Nat} {t : TypeId} {d : DataW H} (ht : ts[j]? = some t) (hd : ds[j]? = some d) : ∀ n ∈ d.weights P t, n ≤ reachBytes := fun n hn => by
  have := List.all_eq_true.1 h _ (DataW.weights_mem_each ht hd n hn)
  simpa using this
theorem slice_len {H : Type} {P : Program} {T e : TypeId} (hu : P.underlying T = some (.slice e)) {el sp : List (DataW H)} (hw : ∀ n ∈ (DataW.slice el sp).weights P T, n ≤ reachBytes) : (el.length + sp.length) * P.bytesOf e ≤ 140737488351232 := by
  have := hw ((el.length + sp.length) * P.bytesOf e) (by simp [DataW.weights, hu])
  rwa [show reachBytes = 140737488351232 from rfl] at this
set_option maxRecDepth 100000 in
theorem SizedB.len {H : Type} {d : DataW H} {l : List UInt8} (hs : SizedB d l) (hw : ∀ n ∈ d.weights Tryz.prog 41, n ≤ reachBytes) : l.length ≤ 140737488351232 := by
  rcases hs with ⟨_, rfl⟩ | ⟨el, sp, rfl, he⟩
  · simp
  · have := slice_len Tryz.underlying41 hw
    rw [show Tryz.prog.bytesOf 5 = 1 by kernel_rfl] at this
    omega
set_option maxRecDepth 100000 in
theorem SizedI.len {H : Type} {d : DataW H} {l : List Int} (hs : SizedI d l) (hw : ∀ n ∈ d.weights Tryz.prog 51, n ≤ reachBytes) : l.length ≤ 17592186043904 := by
  rcases hs with ⟨_, rfl⟩ | ⟨el, sp, rfl, he⟩
  · simp
  · have := slice_len Tryz.underlying51 hw
    rw [show Tryz.prog.bytesOf 3 = 8 by kernel_rfl] at this
    omega
set_option maxRecDepth 100000 in
theorem SizedL.lenC {H : Type} {d : DataW H} {l : List Chg} (hs : SizedL ChgD d l) (hw : ∀ n ∈ d.weights Tryz.prog 36, n ≤ reachBytes) : l.length < 4611686018427387904 ∧ ∀ c ∈ l, smallC c := by
  rcases hs with ⟨_, rfl⟩ | ⟨el, sp, rfl, he, hall⟩
  · simp
  · have h1 := slice_len Tryz.underlying36 hw
    rw [show Tryz.prog.bytesOf 43 = 40 by kernel_rfl] at h1
    refine ⟨by omega, fun s hs => ?_⟩
    obtain ⟨i, hi, rfl⟩ := List.getElem_of_mem hs
    obtain ⟨d', h2, y, rfl⟩ := hall i hi
    have hm : ∀ n, n ∈ (DataW.agg [y, .lit (.string l[i].key.data.toList), .lit (.string l[i].val.data.toList)]).weights Tryz.prog 43 → n ≤ reachBytes := fun n hn => hw n (weights_el Tryz.underlying36 h2 hn)
    have a := hm l[i].key.data.toList.length (by simp [DataW.weights, DataW.weightsEach, Tryz.underlying43])
    have b := hm l[i].val.data.toList.length (by simp [DataW.weights, DataW.weightsEach, Tryz.underlying43])
    rw [show reachBytes = 140737488351232 from rfl] at a b
    have e : ∀ k : K, k.data.toList.length = k.size := fun k => by simp
    rw [e] at a b
    exact ⟨by omega, by omega⟩
set_option maxRecDepth 100000 in
theorem open_bat {H : Type} {enc : TypeId × Value → H} {W : World} {base : Nat} {v : Value} {d : DataW H} {p : List MemPlace} (hv : Value.okWide Tryz.prog W .any base 38 v) (h : DataW.Trod enc Tryz.prog W 0 (fun _ => true) true 38 v d p) (hw : ∀ n ∈ d.weights Tryz.prog 38, n ≤ reachBytes) :
    ∃ (s : Bat) (x : Value), v = bval s x ∧ RdC W W.heap.size x s.chgs ∧ (s.prev < 9223372036854775808 ∧ s.version < 9223372036854775808 ∧ s.known < 9223372036854775808) ∧ fitB s := by
  obtain ⟨v0, v1, v2, v3, y0, y1, y2, y3, n, rfl, rfl, _, h0, h1, h2, h3⟩ := open_agg4 Tryz.underlying38 (by kernel_rfl) (by kernel_rfl) hv h
  obtain ⟨i0, e0, _, g0⟩ := DataW.trod_int Tryz.underlying3 h0
  obtain ⟨i1, e1, _, g1⟩ := DataW.trod_int Tryz.underlying3 h1
  obtain ⟨i2, e2, _, g2⟩ := DataW.trod_int Tryz.underlying3 h2
  simp at e0 e1 e2
  obtain ⟨hs, ht⟩ := slice_of Tryz.underlying36 h3
  haveI : Inhabited Chg := ⟨⟨0, ⟨#[]⟩, ⟨#[]⟩⟩⟩
  obtain ⟨l, hr, hz⟩ := open_rowsF (by decide) encC_len Tryz.underlying36 (by kernel_rfl) _ (fun _ _ _ h => chg_of_cells h) hs ht
  refine ⟨⟨i0, i1, i2, l⟩, v3, by rw [e0, e1, e2]; rfl, hr, ?_, hz.lenC (fun n hn => hw n (by simp only [DataW.weights, Tryz.underlying38, List.map_cons, List.map_nil, DataW.weightsEach, List.mem_append]; simp only [hn, true_or, or_true]))⟩
  have k0 := int_of_wf g0
  have k1 := int_of_wf g1
  have k2 := int_of_wf g2
  simp only
  omega
end Go.Proofs.YtmigninibdecmaaGreat
namespace Go.Proofs.YtmigninibdecmaaGreat

/-- a log: with what it was laid, what it has, up to where it was popped, what is known -/
structure Lg where
  epoch : Int
  base : Int
  gone : Int
  known : Int
  first : List Bat
  held : List Bat
/-- up to which version these have all, behind one -/
def topB (at' : Int) (l : List Bat) : Int := match l.getLast? with | some b => b.version | none => at'
def Lg.top (g : Lg) : Int := topB g.gone g.held
theorem topB_nil (a : Int) : topB a [] = a := rfl
theorem topB_add (a : Int) (l : List Bat) (b : Bat) : topB a (l ++ [b]) = b.version := by simp [topB]
/-- each one's Prev is the version of the one ahead, and they rise -/
def chainB : Int → List Bat → Prop
  | _, [] => True
  | a, b :: r => b.prev = a ∧ a < b.version ∧ chainB b.version r
theorem chainB_add : ∀ {a : Int} {l : List Bat} {b : Bat}, chainB a l → b.prev = topB a l → topB a l < b.version → chainB a (l ++ [b])
  | a, [], b, _, h1, h2 => ⟨h1, h2, trivial⟩
  | a, x :: r, b, ⟨e1, e2, e3⟩, h1, h2 => by
    have ht : topB a (x :: r) = topB x.version r := by cases r <;> simp [topB, List.getLast?_cons]
    rw [ht] at h1 h2
    exact ⟨e1, e2, chainB_add e3 h1 h2⟩
theorem topB_cons (a : Int) (x : Bat) (r : List Bat) : topB a (x :: r) = topB x.version r := by cases r <;> simp [topB, List.getLast?_cons]
theorem chainB_app : ∀ {a : Int} {l r : List Bat}, chainB a (l ++ r) ↔ chainB a l ∧ chainB (topB a l) r
  | a, [], r => by simp [chainB, topB]
  | a, x :: l, r => by
    rw [topB_cons, List.cons_append]
    simp only [chainB]
    rw [chainB_app (l := l)]
    exact ⟨fun ⟨h1, h2, h3, h4⟩ => ⟨⟨h1, h2, h3⟩, h4⟩, fun ⟨⟨h1, h2, h3⟩, h4⟩ => ⟨h1, h2, h3, h4⟩⟩
theorem chainB_top : ∀ {a : Int} {l : List Bat}, chainB a l → a ≤ topB a l
  | a, [], _ => Int.le_refl _
  | a, x :: l, ⟨_, h2, h3⟩ => by
    rw [topB_cons]
    have := chainB_top h3
    omega
theorem chainB_mem : ∀ {a : Int} {l : List Bat}, chainB a l → ∀ b ∈ l, a < b.version ∧ b.version ≤ topB a l
  | a, x :: l, ⟨_, h2, h3⟩, b, hb => by
    rw [topB_cons]
    rcases List.mem_cons.1 hb with rfl | hb
    · exact ⟨h2, chainB_top h3⟩
    · have := chainB_mem h3 b hb
      exact ⟨by omega, this.2⟩
/-- the greatest that is known -/
def knownB (k : Int) (l : List Bat) : Int := l.foldl (fun k b => if k < b.known then b.known else k) k
theorem knownB_nil (k : Int) : knownB k [] = k := rfl
theorem knownB_add (k : Int) (l : List Bat) (b : Bat) : knownB k (l ++ [b]) = if knownB k l < b.known then b.known else knownB k l := by unfold knownB; rw [List.foldl_append]; rfl
/-- small enough for the laws, and sound -/
structure Bat.Tiny (b : Bat) : Prop where
  sound : soundB b
  len : (batB b).length ≤ 80
  fits : b.prev < 4611686018427387904 ∧ b.version < 4611686018427387904 ∧ b.known < 4611686018427387904

/-- a chest: its logs, rising; its lock; a hundred bytes at most were handed to it so often; its tape's room -/
structure Ch where
  logs : List Lg
  lock : Int
  units : Nat
  room : Int
namespace Ch
def new (room : Int) : Ch := ⟨[], 0, 0, room⟩
def find (h : Ch) (e : Int) : Option Lg := h.logs.find? (fun g => g.epoch == e)
def put (h : Ch) (g : Lg) : Ch := { h with logs := h.logs.map (fun x => if x.epoch = g.epoch then g else x) }
def ins (h : Ch) (g : Lg) : Ch := { h with logs := h.logs.takeWhile (fun x => x.epoch < g.epoch) ++ g :: h.logs.dropWhile (fun x => x.epoch < g.epoch) }
/-- so much more was handed to it -/
def more (h : Ch) (n : Nat) : Ch := { h with units := h.units + n }
def lay (h : Ch) (e b : Int) (l : List Bat) : Int × Ch :=
  if e < h.lock then (15, h.more (1 + l.length)) else
  match h.find e with
  | some g => if g.base = b ∧ g.first = l then (0, h.more (1 + l.length)) else (13, h.more (1 + l.length))
  | none => (0, (h.ins ⟨e, b, b, knownB 0 l, l, l⟩).more (1 + l.length))
def push (h : Ch) (e : Int) (b : Bat) : Int × Int × Ch :=
  match h.find e with
  | none => (0, 4, h.more 2)
  | some g =>
    if e < h.lock then (0, 15, h.more 2) else
    if b.version ≤ g.top then (g.top, 0, h.more 2) else
    if b.prev ≠ g.top then (0, 9, h.more 2) else
    if 24 ≤ g.held.length then (0, 10, h.more 2) else
    (b.version, 0, (h.put { g with held := g.held ++ [b], known := if g.known < b.known then b.known else g.known }).more 2)
def live (h : Ch) (e : Int) : Int :=
  match h.find e with
  | none => 4
  | some _ => if e < h.lock then 15 else 0
/-- what is behind a version -/
def behind (v : Int) (l : List Bat) : List Bat := l.filter (fun b => v < b.version)
def peek (h : Ch) (e v m : Int) : List Bat × Int × Int :=
  match h.find e with
  | none => ([], 0, 4)
  | some g => if v < g.gone then ([], 0, 7) else ((behind v g.held).take m.toNat, g.known, 0)
def lockd (h : Ch) (e o : Int) : (Int × Int × List Bat × Int) × Ch :=
  if e < h.lock then ((0, 0, [], 15), h.more 1) else
  match h.find o with
  | none => ((0, 0, [], 4), { h.more 1 with lock := e })
  | some g => ((g.gone, g.known, g.held, 0), { h.more 1 with lock := e })
/-- the version of the last one that goes -/
def lastGone (a v : Int) (l : List Bat) : Int := topB a (l.takeWhile (fun b => b.version ≤ v))
def pop (h : Ch) (e v : Int) : Int × Ch :=
  match h.find e with
  | none => (4, h.more 1)
  | some g => if g.top < v then (8, h.more 1) else (0, (h.put { g with gone := lastGone g.gone v g.held, held := g.held.dropWhile (fun b => b.version ≤ v) }).more 1)
/-- room for so much more -/
def Spare (h : Ch) (n : Nat) : Prop := 400 * ((h.units + n : Nat) : Int) ≤ h.room
instance (h : Ch) (n : Nat) : Decidable (h.Spare n) := by unfold Spare; exact inferInstance
theorem behind_app {a : Int} {l r : List Bat} (h : chainB a (l ++ r)) : behind (topB a l) (l ++ r) = r := by
  obtain ⟨h1, h2⟩ := chainB_app.1 h
  unfold behind
  rw [List.filter_append, List.filter_eq_nil_iff.2 (fun b hb => by simpa using (chainB_mem h1 b hb).2), List.nil_append, List.filter_eq_self.2 (fun b hb => by simpa using (chainB_mem h2 b hb).1)]
theorem drop_app {a : Int} {l r : List Bat} (h : chainB a (l ++ r)) : (l ++ r).dropWhile (fun b => b.version ≤ topB a l) = r ∧ (l ++ r).takeWhile (fun b => b.version ≤ topB a l) = l := by
  obtain ⟨h1, h2⟩ := chainB_app.1 h
  have hl : ∀ b ∈ l, decide (b.version ≤ topB a l) = true := fun b hb => by simpa using (chainB_mem h1 b hb).2
  have hr : ∀ (b : Bat) r', r = b :: r' → decide (b.version ≤ topB a l) = false := fun b r' e => by
    have := (chainB_mem h2 b (by rw [e]; simp)).1
    simpa using this
  constructor
  · rw [List.dropWhile_append_of_pos hl]
    cases r with
    | nil => rfl
    | cons b r' => rw [List.dropWhile_cons, hr b r' rfl]; rfl
  · rw [List.takeWhile_append_of_pos hl]
    cases r with
    | nil => simp
    | cons b r' => rw [List.takeWhile_cons, hr b r' rfl]; simp
theorem find_one (g : Lg) (lock : Int) (u : Nat) (room : Int) (e : Int) : (⟨[g], lock, u, room⟩ : Ch).find e = if g.epoch = e then some g else none := by
  unfold find
  by_cases h : g.epoch = e <;> simp [h]
theorem put_one (g g' : Lg) (lock : Int) (u : Nat) (room : Int) (h : g.epoch = g'.epoch) : (⟨[g], lock, u, room⟩ : Ch).put g' = ⟨[g'], lock, u, room⟩ := by
  unfold put
  simp [h]
theorem lay_first (room e b : Int) (l : List Bat) (he : 1 ≤ e) : (new room).lay e b l = (0, ⟨[⟨e, b, b, knownB 0 l, l, l⟩], 0, 1 + l.length, room⟩) := by
  unfold lay new
  rw [if_neg (by simp only; omega)]
  simp [find, ins, more]
theorem push_one_locked (g : Lg) (lock : Int) (u : Nat) (room : Int) (b : Bat) (h : g.epoch < lock) : (⟨[g], lock, u, room⟩ : Ch).push g.epoch b = (0, 15, ⟨[g], lock, u + 2, room⟩) := by
  unfold push
  rw [find_one, if_pos rfl]
  simp only
  rw [if_pos h]
  rfl
theorem push_one_elder (g : Lg) (lock : Int) (u : Nat) (room : Int) (b : Bat) (h : ¬ g.epoch < lock) (h1 : b.version ≤ g.top) : (⟨[g], lock, u, room⟩ : Ch).push g.epoch b = (g.top, 0, ⟨[g], lock, u + 2, room⟩) := by
  unfold push
  rw [find_one, if_pos rfl]
  simp only
  rw [if_neg h, if_pos h1]
  rfl
theorem push_one_full (g : Lg) (lock : Int) (u : Nat) (room : Int) (b : Bat) (h : ¬ g.epoch < lock) (h1 : g.top < b.version) (h2 : b.prev = g.top) (h3 : 24 ≤ g.held.length) : (⟨[g], lock, u, room⟩ : Ch).push g.epoch b = (0, 10, ⟨[g], lock, u + 2, room⟩) := by
  unfold push
  rw [find_one, if_pos rfl]
  simp only
  rw [if_neg h, if_neg (by omega), if_neg (by simpa using h2), if_pos h3]
  rfl
/-- a log with one more -/
def _root_.Go.Proofs.YtmigninibdecmaaGreat.Lg.add (g : Lg) (b : Bat) : Lg := { g with held := g.held ++ [b], known := if g.known < b.known then b.known else g.known }
theorem push_one (g : Lg) (lock : Int) (u : Nat) (room : Int) (b : Bat) (h : ¬ g.epoch < lock) (h1 : g.top < b.version) (h2 : b.prev = g.top) (h3 : g.held.length < 24) : (⟨[g], lock, u, room⟩ : Ch).push g.epoch b = (b.version, 0, ⟨[g.add b], lock, u + 2, room⟩) := by
  unfold push
  rw [find_one, if_pos rfl]
  simp only
  rw [if_neg h, if_neg (by omega), if_neg (by simpa using h2), if_neg (by omega)]
  exact congrArg (fun h : Ch => (b.version, (0 : Int), h.more 2)) (put_one g (g.add b) lock u room rfl)
theorem live_one (g : Lg) (lock : Int) (u : Nat) (room : Int) : (⟨[g], lock, u, room⟩ : Ch).live g.epoch = if g.epoch < lock then 15 else 0 := by
  unfold live
  rw [find_one, if_pos rfl]
theorem lock_one (g : Lg) (lock : Int) (u : Nat) (room e : Int) (h : ¬ e < lock) : (⟨[g], lock, u, room⟩ : Ch).lockd e g.epoch = ((g.gone, g.known, g.held, 0), ⟨[g], e, u + 1, room⟩) := by
  unfold lockd
  rw [if_neg h, find_one, if_pos rfl]
  rfl
theorem pop_one (g : Lg) (lock : Int) (u : Nat) (room v : Int) (h : v ≤ g.top) : (⟨[g], lock, u, room⟩ : Ch).pop g.epoch v = (0, ⟨[{ g with gone := lastGone g.gone v g.held, held := g.held.dropWhile (fun b => b.version ≤ v) }], lock, u + 1, room⟩) := by
  unfold pop
  rw [find_one, if_pos rfl]
  simp only
  rw [if_neg (by omega), put_one g ⟨g.epoch, g.base, lastGone g.gone v g.held, g.known, g.first, g.held.dropWhile (fun b => b.version ≤ v)⟩ _ _ _ rfl]
  rfl
theorem peek_one (g : Lg) (lock : Int) (u : Nat) (room v m : Int) (h : g.gone ≤ v) : (⟨[g], lock, u, room⟩ : Ch).peek g.epoch v m = ((behind v g.held).take m.toNat, g.known, 0) := by
  unfold peek
  rw [find_one, if_pos rfl]
  simp only
  rw [if_neg (by omega)]
theorem lay_locked (h : Ch) (e b : Int) (l : List Bat) (h1 : e < h.lock) : h.lay e b l = (15, h.more (1 + l.length)) := by
  unfold lay
  rw [if_pos h1]
theorem lay_again (g : Lg) (lock : Int) (u : Nat) (room : Int) (h : ¬ g.epoch < lock) : (⟨[g], lock, u, room⟩ : Ch).lay g.epoch g.base g.first = (0, ⟨[g], lock, u + (1 + g.first.length), room⟩) := by
  unfold lay
  rw [if_neg h, find_one, if_pos rfl]
  simp only
  rw [if_pos ⟨trivial, trivial⟩]
  rfl
theorem lay_clash (g : Lg) (lock : Int) (u : Nat) (room b : Int) (l : List Bat) (h : ¬ g.epoch < lock) (h1 : g.base ≠ b) : (⟨[g], lock, u, room⟩ : Ch).lay g.epoch b l = (13, ⟨[g], lock, u + (1 + l.length), room⟩) := by
  unfold lay
  rw [if_neg h, find_one, if_pos rfl]
  simp only
  rw [if_neg (fun k => h1 k.1)]
  rfl
theorem lay_next (g : Lg) (lock : Int) (u : Nat) (room e b : Int) (l : List Bat) (h : ¬ e < lock) (h1 : g.epoch < e) : (⟨[g], lock, u, room⟩ : Ch).lay e b l = (0, ⟨[g, ⟨e, b, b, knownB 0 l, l, l⟩], lock, u + (1 + l.length), room⟩) := by
  unfold lay
  rw [if_neg h, find_one, if_neg (by omega)]
  simp [ins, more, h1]
theorem end_new (room e : Int) : e < (new room).lock ∨ (new room).logs = [] ∨ ∃ g, (new room).logs = [g] ∧ g.epoch ≤ e := .inr (.inl rfl)
theorem end_one (g : Lg) (lock : Int) (u : Nat) (room e : Int) (h : g.epoch ≤ e) : e < (⟨[g], lock, u, room⟩ : Ch).lock ∨ (⟨[g], lock, u, room⟩ : Ch).logs = [] ∨ ∃ x, (⟨[g], lock, u, room⟩ : Ch).logs = [x] ∧ x.epoch ≤ e := .inr (.inr ⟨g, rfl, h⟩)
theorem spare_mk (L : List Lg) (lock : Int) (u : Nat) (room : Int) (n : Nat) (h : 400 * ((u : Int) + n) ≤ room) : Spare ⟨L, lock, u, room⟩ n := by
  unfold Spare
  simp only
  omega
end Ch
end Go.Proofs.YtmigninibdecmaaGreat
