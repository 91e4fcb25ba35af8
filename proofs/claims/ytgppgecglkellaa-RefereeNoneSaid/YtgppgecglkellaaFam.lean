/- The keys that changes name: what the program's named and Spans answer. The reference's Marks: Last. The reference's Marks: the verdict on a transaction. The reference's Marks while they are written into; transactions as arguments. The program's Marks: the verdict on a transaction; note; sound. The program's Marks: Judge; all calls of it. The key just behind a key: nothing lies between. -/
import Derived.Test.YtgppgecglkellaaFac
import Derived.Test.YtgppgecglkellaaFah
import Derived.Test.YtgppgecglkellaaFak
import Derived.Test.YtgppgecglkellaaFab
import Derived.Test.YtgppgecglkellaaFad
import Derived.Test.YtgppgecglkellaaFai
import Derived.Test.YtgppgecglkellaaFal
import Derived.Test.YtgppgecglkellaaFaa
namespace Go.Proofs.Ytgppgecglkellaa
open Go.RowKit
attribute [local go_sem] less_eq same_eq le_eq ge_eq gt_eq

set_option maxHeartbeats 4000000 in
set_option maxRecDepth 100000 in
theorem named_any (l : List Chg) (hs : ∀ c ∈ l, smallC c) (v : Value) (w : World) (hv : RdC w w.heap.size v l) (hl : l.length ≤ 2000000) :
    Calls Try.prog 34 #[v] w fun e w' => ∃ v' R, e = .returned v' ∧ OwnS w' w.heap.size v' R ∧ Below w.heap.size w w' ∧ Fits R (fun k => mem (l.map cspan) k) ∧ R.length ≤ 2000000 := by
  obtain ⟨A, cc, rfl, hcc, hi⟩ := hv.at
  have HI := Lib.hid hi; clear hi
  have HS := Lib.hid hs; clear hs
  obtain ⟨g, hg⟩ : ∃ g, g = w.heap.size := ⟨_, rfl⟩
  have HG := Lib.hid hg
  have hsz : g ≤ w.heap.size := by omega
  clear hv hg
  go_enter Try.func34, Try.ntmps34
  go_wp2_with fail
  go_loopw [3, 8] (fun ov iv wr => ∃ (i : Nat) (A' : Option Addr) (c' : Nat), i ≤ l.length ∧ iv = .int .i64 i ∧ ov = .slice A' i c' ∧ OwnS wr g ov ((l.take i).map cspan) ∧ Below g w wr ∧ g ≤ wr.heap.size) (fun _ iv _ => l.length - (intOf iv).toNat)
  case atStart => exact ⟨0, none, 0, Nat.zero_le _, rfl, rfl, OwnS.nil _ _, Below.refl _ _, hsz⟩
  case round =>
    obtain ⟨i, A', c', hil, rfl, rfl, ho, hbw, hbs⟩ := hrel
    have HBW := Lib.hid hbw; clear hbw
    have HBS := Lib.hid hbs; clear hbs
    have HO := Lib.hid ho; clear ho
    have hlm : ((l.take i).map cspan).length = i := by simp; omega
    by_cases hlt : i < l.length
    · obtain ⟨b, o, rfl, hbB, k0, k1, k2⟩ := HI.out i hlt
      rw [← HBW.out.cell (p := ⟨b, o + i * 3, none⟩) (by rw [HG.out]; exact hbB)] at k0
      rw [← HBW.out.cell (p := ⟨b, o + i * 3 + 1, none⟩) (by rw [HG.out]; exact hbB)] at k1
      rw [← HBW.out.cell (p := ⟨b, o + i * 3 + 2, none⟩) (by rw [HG.out]; exact hbB)] at k2
      have h1 := fun W => reach_any l[i] W (HS.out _ (List.getElem_mem hlt)).1
      have hnext : (l.take (i + 1)).map cspan = (l.take i).map cspan ++ [cspan l[i]] := by
        rw [List.take_succ_eq_append_getElem hlt, List.map_append]; rfl
      generalize (l.take i).map cspan = out at HO hlm hnext
      generalize cspan l[i] = sp at h1 hnext
      generalize l[i] = z at k0 k1 k2 h1
      obtain ⟨kz, xz, yz⟩ := z
      unfold cval spv at h1
      simp only at k0 k1 k2 h1
      have H1 := Lib.hid h1; clear h1
      have HN := Lib.hid hnext; clear hnext
      have HLM := Lib.hid hlm
      go_wp2_with fail
      refine (H1.out _).mono ?_
      rintro e w3 ⟨rfl, hb3⟩
      have HB3 := Lib.hid (show Below g w w3 from (HBW.out.alloc HBS.out _).trans (hb3.mono (by rw [World.size_alloc]; have := HBS.out; omega)))
      have HS3 := Lib.hid (show g ≤ w3.heap.size from Nat.le_trans HBS.out (Nat.le_trans (by simp) hb3.size))
      have HO3 := Lib.hid (show OwnS w3 g _ _ from (HO.out.alloc _).below hb3 (Nat.le_refl _))
      clear hb3 k0 k1 k2
      go_wp2_with (at_builtin; go_must (refine wpList_addT rfl _ _ rfl g (.slice A' i c') out rfl ?f1 (w3.heap.size + 1) _ [sp] rfl (RdS.one w3 sp) (by simp; omega) ?f2 g w ?f3 (Nat.le_refl _) ?f4))
      case f1 => exact HO3.out.alloc _
      case f2 => have := HS3.out; simp; omega
      case f3 => exact HB3.out.alloc HS3.out _
      intro A2 c2 w4 ho4 hb4 hz4
      go_wp2_with fail
      go_roundw
      case rel => exact ⟨i + 1, A2, c2, by omega, by go_num, by simp, by rw [HN.out]; exact ho4.out, hb4.out, hz4.out⟩
      case measure => simp [intOf]; omega
    · obtain rfl : i = l.length := by omega
      have ho := HO.out
      rw [List.take_length] at ho
      have HO2 := Lib.hid (show RdS wr wr.heap.size _ _ from ho.rd)
      clear ho
      have hj := join_any (l.map cspan) _ wr HO2.out (by simpa using hl)
      have HJ := Lib.hid hj; clear hj
      go_wp2_with fail
      refine HJ.out.mono ?_
      rintro e w5 ⟨v5, R, rfl, ho5, hb5, hn5, hf5, hl5⟩
      have HO5 := Lib.hid ho5; clear ho5
      have HB5 := Lib.hid hb5; clear hb5
      have HF5 := Lib.hid (show Fits R (fun k => mem (l.map cspan) k) from ⟨hn5, hf5⟩); clear hf5 hn5
      have HL5 := Lib.hid hl5; clear hl5
      go_wp2_with fail
      have hgz : w.heap.size ≤ wr.heap.size := by rw [← HG.out]; exact HBS.out
      refine bodyPost_ret (v := v5) ?_ rfl ⟨_, _, rfl, HO5.out.lower hgz, (by have h := HBW.out; rwa [HG.out] at h : Below w.heap.size w wr).trans (HB5.out.mono hgz), HF5.out, HL5.out⟩
      simp [results, Try.results34, go_sem]

/-- what Spans answers: an error, or spans of the call's own -/
def SpansIs (w : World) (base : Nat) (v' : Value) (q e : Int) (P : K → Prop) : Prop :=
  (q = e ∧ q ≠ 0 ∧ v' = .slice none 0 0) ∨ (e = 0 ∧ q = 0 ∧ ∃ R, OwnS w base v' R ∧ Fits R P ∧ R.length ≤ 2000000)
theorem SpansIs.err {w : World} {base : Nat} {q : Int} {P : K → Prop} (h : q ≠ 0) : SpansIs w base (.slice none 0 0) q q P := .inl ⟨rfl, h, rfl⟩
theorem SpansIs.ok {w : World} {base : Nat} {v' : Value} {P : K → Prop} {R : List (K × K)} (h1 : OwnS w base v' R) (h2 : Fits R P) (h3 : R.length ≤ 2000000) : SpansIs w base v' 0 0 P := .inr ⟨rfl, rfl, R, h1, h2, h3⟩

set_option maxHeartbeats 4000000 in
set_option maxRecDepth 100000 in
theorem pspans_any (l : List Chg) (hs : ∀ c ∈ l, smallC c) (v : Value) (w : World) (hv : RdC w w.heap.size v l) (hl : l.length ≤ 2000000) :
    Calls Try.prog 23 #[v] w fun e w' => ∃ v' q, e = .returned (.tuple #[v', .int .i64 q]) ∧ Below w.heap.size w w' ∧ SpansIs w' w.heap.size v' q (allAns l) (fun k => mem (l.map cspan) k) := by
  have hfirst := first_any l hs v w hv (by omega)
  have hnamed := fun W (h : RdC W W.heap.size v l) => named_any l hs v W h hl
  have HF := Lib.hid hfirst; clear hfirst
  have HN := Lib.hid hnamed; clear hnamed
  have HV := Lib.hid hv; clear hv
  clear hs
  generalize allAns l = q at HF ⊢
  go_enter Try.func23, Try.ntmps23
  go_wp2_with fail
  refine HF.out.mono ?_
  rintro e w1 ⟨rfl, hb1⟩
  have HV1 := Lib.hid (HV.out.next hb1)
  have HB1 := Lib.hid hb1; clear hb1
  by_cases h0 : q = 0
  · subst h0
    go_wp2_with fail
    refine (HN.out w1 HV1.out).mono ?_
    rintro e w2 ⟨v2, R, rfl, ho2, hb2, hf2, hl2⟩
    have HO2 := Lib.hid (ho2.lower HB1.out.size); clear ho2
    have HB2 := Lib.hid (HB1.out.trans (hb2.mono HB1.out.size)); clear hb2
    have HF2 := Lib.hid hf2; clear hf2
    have HL2 := Lib.hid hl2; clear hl2
    go_wp2_with fail
    go_ret2
    exact ⟨_, _, rfl, HB2.out, SpansIs.ok HO2.out HF2.out HL2.out⟩
  · have H0 := Lib.hid h0
    go_wp2_with fail
    go_ret2
    exact ⟨_, _, rfl, HB1.out, SpansIs.err H0.out⟩
end Go.Proofs.Ytgppgecglkellaa
namespace Go.Proofs.Ytgppgecglkellaa
open Go.RowKit
attribute [local go_sem] less_eq same_eq le_eq ge_eq gt_eq

/-- what is known of the first i that were written -/
def LastTo (L : List Wr) (floor : Int) (s : K × K) (i : Nat) (n : Int) : Prop :=
  (n = 0 ∨ (floor < n ∧ ∃ j k x, j < i ∧ L[j]? = some x ∧ Left L j k ∧ has s k ∧ x.v = n)) ∧ ∀ j k x, j < i → L[j]? = some x → Left L j k → has s k → x.v ≤ floor ∨ x.v ≤ n
theorem LastTo.start (L : List Wr) (floor : Int) (s : K × K) : LastTo L floor s 0 0 := ⟨.inl rfl, fun j _ _ h => by omega⟩
theorem LastTo.keep {L : List Wr} {floor : Int} {s : K × K} {i : Nat} {n : Int} (h : LastTo L floor s i n) (hi : i < L.length) (hs : L[i].v ≤ floor ∨ L[i].v ≤ n ∨ ∀ k, Left L i k → ¬ has s k) : LastTo L floor s (i + 1) n := by
  refine ⟨?_, fun j k x hj hx hl hk => ?_⟩
  · rcases h.1 with h1 | ⟨h1, j, k, x, hj, r⟩
    · exact .inl h1
    · exact .inr ⟨h1, j, k, x, by omega, r⟩
  · by_cases e : j = i
    · subst e
      rw [List.getElem?_eq_getElem hi] at hx
      injection hx with hx
      subst hx
      rcases hs with hs | hs | hs
      · exact .inl hs
      · exact .inr hs
      · exact absurd hk (hs k hl)
    · exact h.2 j k x (by omega) hx hl hk
theorem LastTo.rise {L : List Wr} {floor : Int} {s : K × K} {i : Nat} {n : Int} (h : LastTo L floor s i n) (hi : i < L.length) (h1 : floor < L[i].v) (h2 : n < L[i].v) {k : K} (hl : Left L i k) (hk : has s k) : LastTo L floor s (i + 1) L[i].v := by
  refine ⟨.inr ⟨h1, i, k, _, by omega, List.getElem?_eq_getElem hi, hl, hk, rfl⟩, fun j k x hj hx hl hk => ?_⟩
  by_cases e : j = i
  · subst e
    rw [List.getElem?_eq_getElem hi] at hx
    injection hx with hx
    subst hx
    exact .inr (Int.le_refl _)
  · rcases h.2 j k x (by omega) hx hl hk with h3 | h3
    · exact .inl h3
    · exact .inr (by omega)
theorem LastTo.whole {L : List Wr} {m : Mk} {s : K × K} {n : Int} (h : LastTo L m.floor s L.length n) (hf : ver L = m.f) (h0 : 0 ≤ m.floor) : LastIs m s n := by
  have hall : ∀ k, has s k → m.f k ≤ m.floor ∨ m.f k ≤ n := fun k hk => by
    rw [← hf]
    rcases ver_cases L k with ⟨e, _⟩ | ⟨j, x, hx, hl, e⟩
    · rw [e]; exact .inl h0
    · rw [e]; exact h.2 j k x (List.getElem?_eq_some_iff.1 hx).1 hx hl hk
  rcases h.1 with h1 | ⟨h1, j, k, x, _, hx, hl, hk, e⟩
  · refine .inl ⟨h1, fun k hk => ?_⟩
    rcases hall k hk with h2 | h2 <;> omega
  · refine .inr ⟨h1, ⟨k, hk, by rw [← hf, ver_left hl hx, e]⟩, fun k hk => ?_⟩
    rcases hall k hk with h2 | h2 <;> omega
/-- two spans have a key both just if what they have both is not empty -/
def meets (a b : K × K) : Bool := decide ((meet a b).1 < (meet a b).2)
theorem meets_iff (a b : K × K) : meets a b = true ↔ ∃ k, has a k ∧ has b k := by
  unfold meets meet
  by_cases h : mn a.2 b.2 ≤ mx a.1 b.1
  · rw [if_pos h]
    constructor
    · intro h1
      simp only [decide_eq_true_eq] at h1
      exact absurd h1 (by grind)
    · rintro ⟨k, h1, h2⟩
      exfalso
      unfold has at h1 h2
      rcases mx_cases a.1 b.1 with ⟨e1, e2⟩ | ⟨e1, e2⟩ <;> rcases mn_cases a.2 b.2 with ⟨e3, e4⟩ | ⟨e3, e4⟩ <;> rw [e2, e4] at h <;> grind
  · rw [if_neg h]
    simp only [decide_eq_true_eq]
    constructor
    · intro _
      refine ⟨mx a.1 b.1, ?_⟩
      unfold has
      rcases mx_cases a.1 b.1 with ⟨e1, e2⟩ | ⟨e1, e2⟩ <;> rcases mn_cases a.2 b.2 with ⟨e3, e4⟩ | ⟨e3, e4⟩ <;> rw [e2, e4] at h <;> rw [e2] <;> grind
    · intro _
      grind

end Go.Proofs.Ytgppgecglkellaa
namespace Go.Proofs.Ytgppgecglkellaa
open Go.RowKit

end Go.Proofs.Ytgppgecglkellaa
namespace Go.Proofs.Ytgppgecglkellaa
open Go.RowKit

/-- a transaction and where its spans and changes are -/
structure TxV where
  t : Txn
  v1 : Value
  v2 : Value
def encTx (x : TxV) : List Value := [.int .i64 x.t.read, x.v1, x.v2]
theorem encTx_len (x : TxV) : (encTx x).length = 3 := rfl
/-- transactions that are read, and lie in no block of G -/
structure RdTx (w : World) (B : Nat) (G : Nat → Prop) (v : Value) (l : List TxV) : Prop where
  row : RdG encTx 3 w B G v l
  parts : ∀ x ∈ l, RdG cellsS 2 w B G x.v1 x.t.reads ∧ RdG encC 3 w B G x.v2 x.t.chgs
theorem RdTx.mv {w w' : World} {B : Nat} {G D : Nat → Prop} {v : Value} {l : List TxV} (h : RdTx w B G v l) (hm : Mv D w w') (hB : B ≤ w.heap.size) (hD : ∀ b, b < B → D b → G b) : RdTx w' B G v l :=
  ⟨h.row.mv hm hB hD, fun x hx => ⟨(h.parts x hx).1.mv hm hB hD, (h.parts x hx).2.mv hm hB hD⟩⟩
theorem RdTx.mono {w : World} {B B' : Nat} {G G' : Nat → Prop} {v : Value} {l : List TxV} (h : RdTx w B G v l) (hB : B ≤ B') (hG : ∀ b, b < B → G' b → G b) : RdTx w B' G' v l :=
  ⟨h.row.mono hB hG, fun x hx => ⟨(h.parts x hx).1.mono hB hG, (h.parts x hx).2.mono hB hG⟩⟩
theorem RdTx.at {w : World} {B : Nat} {G : Nat → Prop} {v : Value} {l : List TxV} (h : RdTx w B G v l) : ∃ A c, v = .slice A l.length c ∧ l.length ≤ c ∧ ∀ i (_ : i < l.length), ∃ b o, A = some ⟨b, o, none⟩ ∧ b < B ∧ ¬ G b ∧
    w.cell? ⟨b, o + i * 3, none⟩ = some (.int .i64 l[i].t.read) ∧ w.cell? ⟨b, o + i * 3 + 1, none⟩ = some l[i].v1 ∧ w.cell? ⟨b, o + i * 3 + 2, none⟩ = some l[i].v2 := by
  obtain ⟨A, c, hv, hc, hi⟩ := h.row
  refine ⟨A, c, hv, hc, fun i hs => ?_⟩
  obtain ⟨b, o, hA, hB, hg, h1⟩ := hi i hs
  exact ⟨b, o, hA, hB, hg, h1 0 _ rfl, h1 1 _ rfl, h1 2 _ rfl⟩

/-- rows of unlike elements are not one block -/
theorem Own.apart2 {α β : Type} {enc : α → List Value} {k : Nat} {e : TypeId} {enc' : β → List Value} {k' : Nat} {e' : TypeId} {w : World} {base base' : Nat} {v v' : Value} {l : List α} {l' : List β} (h : Own enc k e w base v l) (h' : Own enc' k' e' w base' v' l') (hne : e ≠ e') {g : Nat} (hg : v.ownBlock = some g) : v'.ownBlock ≠ some g := by
  rcases Own.row h with ⟨rfl, _⟩ | ⟨g1, cap, cur, rfl, _, hW, _⟩
  · simp [Value.ownBlock] at hg
  · have e1 : g1 = g := by simpa [Value.ownBlock] using hg
    subst e1
    exact fun e2 => Own.apart h' hW (fun e => hne e.symm) e2.symm

section
variable {w w' wf w4 : World} {base r : Nat} {ov : Option Nat} {D : Nat → Prop} {n : Nat} {m : Mk} {floor most : Int} {L : List Wr}
end
section
variable {ops : Array Oper} {rest : List Oper} {o : Oper} {a : Act} {Q : Exit → Act → World → Prop} {w : World}
set_option maxRecDepth 100000 in
theorem wpList_addIm (hgd : Region.wanted o (yielded ops a.tmps) = true) (s x : Operand)
    (ho : o.op = .call { callee := .builtin .append, args := #[s, x], argTypes := #[28, 28] })
    (base : Nat) (v : Value) (l : List Int) (hs : a.eval s = v) (hown : OwnI w base v l) (B : Nat) (v2 : Value) (p : List Int) (hx : a.eval x = v2) (hp : RdI w B v2 p)
    (hlen : l.length + p.length ≤ 28147497670000) (hbase : base ≤ w.heap.size)
    (h : ∀ A' c' w', Hid (OwnI w' base (.slice A' (l ++ p).length c') (l ++ p)) → Hid (w.grownBy w' v.ownBlock) → wpList Try.prog ops Q rest (a.put o.dst (.slice A' (l ++ p).length c')) w') : wpList Try.prog ops Q (o :: rest) a w := by
  obtain ⟨i0, hi, hz0, hz1, hz2⟩ := info_parts info_int
  refine BigFrame.wpList_want hgd fun K hK => ?_
  refine wp_addAny (enc := encI) (k := 1) 28 3 8 i0 _ Try.underlying28 hi hz0 hz1 hz2 rfl (by decide) encI_len encI_one s x ho base v l hs hown B v2 p hx hp (by unfold maxLen; omega) (by omega) hbase fun A' c' w' h1 h2 => ?_
  exact hK _ _ (h A' c' w' (Lib.hid h1) (Lib.hid h2))
end
end Go.Proofs.Ytgppgecglkellaa
namespace Go.Proofs.Ytgppgecglkellaa
open Go.RowKit

set_option maxHeartbeats 8000000 in
set_option maxRecDepth 100000 in
theorem pverdict_any (r : Nat) (L : List Wr) (m : Mk) (hrep : Rep m.f m.floor L) (hok : m.Ok) (hl : L.length ≤ 90000) (t : Txn) (hs : soundT t) (v1 v2 : Value) (w : World) (h : PmRd w r m.floor L) (hv1 : RdP w w.heap.size v1 t.reads) :
    Calls Try.prog 17 #[.pointer (some ⟨r, 0, none⟩), tval t v1 v2] w fun e w' => e = .returned (.int .i64 (verd m t)) ∧ Below w.heap.size w w' := by
  obtain ⟨read, reads, chgs⟩ := t
  obtain ⟨R, hR⟩ : ∃ R, R = verd m ⟨read, reads, chgs⟩ := ⟨_, rfl⟩
  rw [← hR]
  unfold verd at hR
  unfold tval
  simp only at hR hv1 ⊢
  have hrd0 : 0 ≤ read := hs.1
  have hrl : reads.length ≤ 24 := hs.2.1
  obtain ⟨A1, c1, rfl, hc1, hi⟩ := hv1.at
  have hb0 : Below w.heap.size w (w.alloc (.cells #[.int .i64 read, .slice A1 reads.length c1, v2] 44)) := (Below.refl _ w).alloc (Nat.le_refl _) _
  have hB0 : Whole (w.alloc (.cells #[.int .i64 read, .slice A1 reads.length c1, v2] 44)) w.heap.size 44 [.int .i64 read, .slice A1 reads.length c1, v2] := Whole.fresh w _ [_, _, _]
  have h0 := h.next hb0
  have hz0 : (w.alloc (.cells #[.int .i64 read, .slice A1 reads.length c1, v2] 44)).heap.size = w.heap.size + 1 := by simp
  obtain ⟨A, cap, hw, -, -⟩ := h
  have hrs := hw.size
  have x0 : ∀ W, Below (w.alloc (.cells #[.int .i64 read, .slice A1 reads.length c1, v2] 44)).heap.size (w.alloc (.cells #[.int .i64 read, .slice A1 reads.length c1, v2] 44)) W → W.cell? ⟨w.heap.size, 0, none⟩ = some (.int .i64 read) := fun W hW => (hB0.below hW hB0.size).cell 0 _ rfl
  have x1 : ∀ W, Below (w.alloc (.cells #[.int .i64 read, .slice A1 reads.length c1, v2] 44)).heap.size (w.alloc (.cells #[.int .i64 read, .slice A1 reads.length c1, v2] 44)) W → W.cell? ⟨w.heap.size, 1, none⟩ = some (.slice A1 reads.length c1) := fun W hW => (hB0.below hW hB0.size).cell 1 _ rfl
  have x2 : ∀ W, Below (w.alloc (.cells #[.int .i64 read, .slice A1 reads.length c1, v2] 44)).heap.size (w.alloc (.cells #[.int .i64 read, .slice A1 reads.length c1, v2] 44)) W → W.cell? ⟨r, 0, none⟩ = some (.int .i64 m.floor) := fun W hW => ((hw.below hb0 hrs).below hW (by rw [hz0]; omega)).cell 0 _ rfl
  have hi0 : ∀ i (_ : i < reads.length), ∃ b o, A1 = some ⟨b, o, none⟩ ∧ b < w.heap.size ∧ (w.alloc (.cells #[.int .i64 read, .slice A1 reads.length c1, v2] 44)).cell? ⟨b, o + i * 2, none⟩ = some (.string reads[i].1) ∧ (w.alloc (.cells #[.int .i64 read, .slice A1 reads.length c1, v2] 44)).cell? ⟨b, o + i * 2 + 1, none⟩ = some (.string reads[i].2) := fun i hlt => by
    obtain ⟨b, o, e, hb, k0, k1⟩ := hi i hlt
    exact ⟨b, o, e, hb, (hb0.cell (p := ⟨b, _, none⟩) hb).trans k0, (hb0.cell (p := ⟨b, _, none⟩) hb).trans k1⟩
  have HB0 := Lib.hid hb0
  have HR0 := Lib.hid h0
  have HZ0 := Lib.hid hz0
  have X0 := Lib.hid x0
  have X1 := Lib.hid x1
  have X2 := Lib.hid x2
  have HI := Lib.hid hi0
  clear hb0 hB0 h0 hz0 hw hrs x0 x1 x2 hi0 hi hv1 hs
  go_enter Try.func17, Try.ntmps17
  go_wp2_with fail
  generalize w.alloc (.cells #[.int .i64 read, .slice A1 reads.length c1, v2] 44) = w0 at HB0 HR0 HZ0 X0 X1 X2 HI ⊢
  have hd0 : Below w0.heap.size w0 w0.drew := (Below.refl _ w0).drew
  have hlt0 : (0 < (reads.length : Int)) ↔ reads ≠ [] := by
    cases reads with
    | nil => simp
    | cons a l => simp
  by_cases hne : reads = []
  · subst hne
    have hR1 : R = 1 := by
      rw [hR, if_neg (by simp), if_neg]
      rintro ⟨s, hs, _⟩
      simp at hs
    have hzz : decide ((0 : Int) < ((([] : List (K × K)).length : Nat) : Int)) = false := by simp
    clear hR hlt0
    refine wp_region_planB [(true, 0), (true, 1), (true, 2), (true, 3), (true, 4), (true, 5), (true, 6), (true, 7), (true, 8), (true, 9), (true, 10), (true, 11), (true, 12)] (by kernel_rfl) (by kernel_rfl) (fun _ _ d _ _ h => by cases d <;> exact h) ?_
    repeat (first | (refine PlanB.take (v := ?_) rfl rfl ?_ ?_; rotate_left; (focus (intro W hW; have k0 := X0.out W (hd0.trans hW); have k1 := X1.out W (hd0.trans hW); have k2 := X2.out W (hd0.trans hW); go_simp; (try with_reducible rfl); done)); (try simp only [Act.put, List.setIfInBounds_toArray, List.set_cons_zero, List.set_cons_succ])) | (refine PlanB.skip rfl rfl ?_; (try simp only [Act.put, List.setIfInBounds_toArray, List.set_cons_zero, List.set_cons_succ])))
    simp only [PlanB]
    have k1 := X1.out _ hd0
    go_wp2_with fail
    refine wp_loop_rounds 1 ?_
    rw [rounds_succ]
    go_wp2_with fail
    go_ret
    exact ⟨by rw [hR1]; rfl, HB0.out.drew⟩
  · have hpos := hlt0.2 hne
    have hposb := decide_eq_true hpos
    have hposn : 0 < reads.length := by omega
    have hposm := decide_eq_true hposn
    by_cases hlate : read < m.floor
    · rw [if_pos ⟨hne, hlate⟩] at hR
      subst hR
      have hlb := decide_eq_true hlate
      clear hlt0 hne
      refine wp_region_planB [(true, 0), (true, 1), (true, 2), (true, 3), (true, 4), (true, 5), (true, 6), (true, 7), (true, 8), (true, 9), (true, 10), (true, 11), (true, 12)] (by kernel_rfl) (by kernel_rfl) (fun _ _ d _ _ h => by cases d <;> exact h) ?_
      repeat (first | (refine PlanB.take (v := ?_) rfl rfl ?_ ?_; rotate_left; (focus (intro W hW; have k0 := X0.out W (hd0.trans hW); have k1 := X1.out W (hd0.trans hW); have k2 := X2.out W (hd0.trans hW); go_simp; (try with_reducible rfl); done)); (try simp only [Act.put, List.setIfInBounds_toArray, List.set_cons_zero, List.set_cons_succ])) | (refine PlanB.skip rfl rfl ?_; (try simp only [Act.put, List.setIfInBounds_toArray, List.set_cons_zero, List.set_cons_succ])))
      simp only [PlanB]
      go_wp2_with fail
      go_ret
      exact ⟨rfl, HB0.out.drew⟩
    · rw [if_neg (fun h => hlate h.2)] at hR
      have hlb := decide_eq_false hlate
      have HCL := Lib.hid hR
      clear hlt0 hne hR
      refine wp_region_planB [(true, 0), (true, 1), (true, 2), (true, 3), (true, 4), (true, 5), (true, 6), (true, 7), (true, 8), (true, 9), (true, 10), (true, 11), (true, 12)] (by kernel_rfl) (by kernel_rfl) (fun _ _ d _ _ h => by cases d <;> exact h) ?_
      repeat (first | (refine PlanB.take (v := ?_) rfl rfl ?_ ?_; rotate_left; (focus (intro W hW; have k0 := X0.out W (hd0.trans hW); have k1 := X1.out W (hd0.trans hW); have k2 := X2.out W (hd0.trans hW); go_simp; (try with_reducible rfl); done)); (try simp only [Act.put, List.setIfInBounds_toArray, List.set_cons_zero, List.set_cons_succ])) | (refine PlanB.skip rfl rfl ?_; (try simp only [Act.put, List.setIfInBounds_toArray, List.set_cons_zero, List.set_cons_succ])))
      simp only [PlanB]
      have k1 := X1.out _ hd0
      go_wp2_with fail
      clear k1
      go_loopw [25] (fun iv wr => ∃ i : Nat, i ≤ reads.length ∧ iv = .int .i64 (i : Int) ∧ (∀ s ∈ reads.take i, ¬ ∃ k, has s k ∧ m.floor < m.f k ∧ read < m.f k) ∧ Below w0.heap.size w0 wr) (fun iv _ => reads.length - (intOf iv).toNat)
      case atStart => exact ⟨0, Nat.zero_le _, rfl, by simp, hd0⟩
      case round =>
        obtain ⟨i, hil, rfl, hno, hbw⟩ := hrel
        have HNO := Lib.hid hno
        have HBW := Lib.hid hbw
        have k1 := X1.out wr hbw
        have k0 := X0.out wr hbw
        by_cases hlt : i < reads.length
        · obtain ⟨b, o, rfl, hbB, g0, g1⟩ := HI.out i hlt
          have hbB0 : b < w0.heap.size := by have := HZ0.out; omega
          rw [← hbw.cell (p := ⟨b, o + i * 2, none⟩) hbB0] at g0
          rw [← hbw.cell (p := ⟨b, o + i * 2 + 1, none⟩) hbB0] at g1
          have hmem := List.getElem_mem hlt
          have hnext : (¬ ∃ k, has reads[i] k ∧ m.floor < m.f k ∧ read < m.f k) → ∀ s ∈ reads.take (i + 1), ¬ ∃ k, has s k ∧ m.floor < m.f k ∧ read < m.f k := fun h s hs => by
            rw [List.take_add_one, List.getElem?_eq_getElem hlt, List.mem_append] at hs
            rcases hs with hs | hs
            · exact HNO.out s hs
            · simp only [Option.toList_some, List.mem_singleton] at hs; rw [hs]; exact h
          have hyes : (∃ k, has reads[i] k ∧ m.floor < m.f k ∧ read < m.f k) → R = 2 := fun h => by
            rw [HCL.out, if_pos ⟨_, hmem, h⟩]
          have hcon := fun W (hW : Below wr.heap.size wr W) => plast_any r m L reads[i] W (HR0.out.next (hbw.trans (hW.mono hbw.size))) hrep hok (by omega)
          generalize reads[i] = x at g0 g1 hnext hyes hcon
          obtain ⟨xf, xt⟩ := x
          simp only at g0 g1 hcon
          have HNEXT := Lib.hid hnext
          have HYES := Lib.hid hyes
          have HCON := Lib.hid hcon
          have h0 : (0 : Int) ≤ (i : Int) := by omega
          have h1 : (i : Int) < (reads.length : Int) := by omega
          have h2 : IntKind.i64.wrap ((i : Int) + 1) = ((i + 1 : Nat) : Int) := by rw [IntKind.wrap_i64]; omega
          clear hnext hyes hcon hno hmem
          go_wp2_with fail
          refine (HCON.out _ ((Below.refl _ _).alloc (Nat.le_refl _) _)).mono ?_
          rintro e w2 ⟨n, rfl, hlast, hb2'⟩
          have hb2 : Below wr.heap.size wr w2 := ((Below.refl _ wr).alloc (Nat.le_refl _) _).trans (hb2'.mono (by simp))
          clear hb2'
          have hLI := hlast
          have hiff := LastIs.clash hok hLI read hrd0
          have hbw2 : Below w0.heap.size w0 w2 := hbw.trans (hb2.mono hbw.size)
          have k0' := X0.out w2 hbw2
          have HBW2 := Lib.hid hbw2
          have HIFF := Lib.hid hiff
          have HFB := Lib.hid (HB0.out.trans (hbw2.mono (by have := HZ0.out; omega)))
          clear hlast hLI hiff hbw2 hb2 hbw k0 k1 g0 g1
          by_cases hn0 : 0 < n
          · have hnb := decide_eq_true hn0
            by_cases hnr : read < n
            · have hnrb := decide_eq_true hnr
              have hR2 := HYES.out (HIFF.out.2 hnr)
              go_wp2_with fail
              go_ret
              exact ⟨by rw [hR2]; rfl, HFB.out⟩
            · have hnrb := decide_eq_false hnr
              have HN2 := Lib.hid (HNEXT.out (fun h => hnr (HIFF.out.1 h)))
              go_wp2_with fail
              go_roundw
              case rel => exact ⟨i + 1, by omega, rfl, HN2.out, HBW2.out⟩
              case measure => simp [intOf]; omega
          · have hnb := decide_eq_false hn0
            have HN2 := Lib.hid (HNEXT.out (fun h => by have := HIFF.out.1 h; omega))
            go_wp2_with fail
            go_roundw
            case rel => exact ⟨i + 1, by omega, rfl, HN2.out, HBW2.out⟩
            case measure => simp [intOf]; omega
        · obtain rfl : i = reads.length := by omega
          have hR1 : R = 1 := by
            rw [List.take_length] at hno
            rw [HCL.out, if_neg]
            rintro ⟨s, hs, hk⟩
            exact hno s hs hk
          have HFB := Lib.hid (HB0.out.trans (hbw.mono (by have := HZ0.out; omega)))
          clear hno hbw
          go_wp2_with fail
          go_ret
          exact ⟨by rw [hR1]; rfl, HFB.out⟩

open Classical in
/-- the keys of spans written at a version -/
noncomputable def noteF (R : List (K × K)) (v : Int) (f : K → Int) (k : K) : Int := if mem R k then v else f k
theorem noteF_nil (v : Int) (f : K → Int) : noteF [] v f = f := by
  funext k; unfold noteF; rw [if_neg (mem_nil k)]
theorem noteF_snoc (R : List (K × K)) (s : K × K) (v : Int) (f : K → Int) : (fun k => if has s k then v else noteF R v f k) = noteF (R ++ [s]) v f := by
  funext k
  unfold noteF
  have e : mem (R ++ [s]) k ↔ mem R k ∨ has s k := by rw [mem_append, mem_cons]; simp [mem_nil]
  by_cases h1 : has s k
  · rw [if_pos h1, if_pos (e.2 (.inr h1))]
  · by_cases h2 : mem R k
    · rw [if_neg h1, if_pos h2, if_pos (e.2 (.inl h2))]
    · rw [if_neg h1, if_neg h2, if_neg (fun h => (e.1 h).elim h2 h1)]

set_option maxHeartbeats 8000000 in
set_option maxRecDepth 100000 in
theorem note_any (base q : Nat) (ov : Option Nat) (m : Mk) (L : List Wr) (v : Int) (cs : List Chg) (vv : Value) (w : World) (h : PmL w base q ov m.floor L) (hrep : Rep m.f m.floor L) (hv : m.floor < v) (hsm : ∀ c ∈ cs, smallC c) (ha : allAns cs = 0) (hn : cs.length ≤ 24) (hr : RdC w w.heap.size vv cs) (hl : L.length ≤ 50000) :
    Calls Try.prog 18 #[.pointer (some ⟨q, 0, none⟩), .int .i64 v, vv] w fun e w' => e = .returned (.tuple #[]) ∧ ∃ ov' L' R, PmW w w' base q ov m.floor L' ov' ∧ Fits R (fun k => mem (cs.map cspan) k) ∧ Rep (noteF R v m.f) m.floor L' ∧ L'.length ≤ L.length + 48 := by
  have hsp := pspans_any cs hsm vv w hr (by omega)
  rw [ha] at hsp
  have HSP := Lib.hid hsp; clear hsp
  have H := Lib.hid h
  have HREP := Lib.hid hrep; clear hrep
  have hqs := h.size
  have HROW := Lib.hid (show ∀ g, ov = some g → g < w.heap.size from fun g hg => (h.row hg).2)
  obtain ⟨A0, c0, rfl, -, -⟩ := hr.at
  clear h hsm ha hr
  go_enter Try.func18, Try.ntmps18
  go_wp2_with fail
  refine HSP.out.mono ?_
  rintro e w1 ⟨v', qe, rfl, hb1, hsi⟩
  have hR : qe = 0 ∧ ∃ R, OwnS w1 w.heap.size v' R ∧ Fits R (fun k => mem (cs.map cspan) k) := by
    rcases hsi with ⟨h1, h2, _⟩ | ⟨_, h2, R, h3, h4, _⟩
    · exact absurd h1 (by omega)
    · exact ⟨h2, R, h3, h4⟩
  obtain ⟨rfl, R, ho1, hf1⟩ := hR
  have hRl : R.length ≤ 24 := by
    have := fits_len hf1
    rw [List.length_map] at this
    omega
  have hp1 : PmL w1 base q ov m.floor L := H.out.new hb1
  have HP1 := Lib.hid hp1
  have HB1 := Lib.hid hb1
  have HO1 := Lib.hid ho1
  have HF1 := Lib.hid hf1
  have hz1 : w.heap.size ≤ w1.heap.size := hb1.size
  obtain ⟨A1, c1, hv1, hcel⟩ := ho1.read
  subst hv1
  have hst : ∀ W, Mv (PmD q ov) w1 W → ∀ i (_ : i < R.length), ∃ g, A1 = some ⟨g, 0, none⟩ ∧ W.cell? ⟨g, i * 2, none⟩ = some (.string R[i].1) ∧ W.cell? ⟨g, i * 2 + 1, none⟩ = some (.string R[i].2) := fun W hW i hi => by
    obtain ⟨g, e, h1, h2, h3, h4⟩ := hcel i hi
    have hb : W.heap[g]? = w1.heap[g]? := hW.block g h2 (fun hd => by
      rcases hd with h5 | h5
      · omega
      · have := HROW.out g h5.symm; omega)
    refine ⟨g, e, ?_, ?_⟩
    · rw [← h3]; unfold World.cell?; rw [hb]
    · rw [← h4]; unfold World.cell?; rw [hb]
  have HST := Lib.hid hst
  have HNE := Lib.hid (show ∀ s ∈ R, s.1 < s.2 from hf1.1.ne)
  clear hst hcel ho1 hf1 hp1 hb1 hsi
  go_wp2_with fail
  go_loopw [17] (fun iv wr => ∃ (i : Nat) (ovi : Option Nat) (Li : List Wr), i ≤ R.length ∧ iv = .int .i64 (i : Int) ∧ Hid (PmW w1 wr base q ov m.floor Li ovi) ∧ Hid (Rep (noteF (R.take i) v m.f) m.floor Li) ∧ Li.length ≤ L.length + 2 * i) (fun iv _ => R.length - (intOf iv).toNat)
  case atStart => exact ⟨0, ov, L, Nat.zero_le _, rfl, Lib.hid (PmW.refl HP1.out), Lib.hid (by rw [List.take_zero, noteF_nil]; exact HREP.out), by omega⟩
  case round =>
    obtain ⟨i, ovi, Li, hil, rfl, HPW, HRP, hLi⟩ := hrel
    by_cases hlt : i < R.length
    · obtain ⟨g, rfl, k0, k1⟩ := HST.out wr HPW.out.moved i hlt
      have hne := HNE.out R[i] (List.getElem_mem hlt)
      have htk : R.take (i + 1) = R.take i ++ [R[i]] := by rw [List.take_add_one, List.getElem?_eq_getElem hlt]; rfl
      have hsn := noteF_snoc (R.take i) R[i] v m.f
      rw [← htk] at hsn
      clear htk
      generalize R[i] = u at k0 k1 hne hsn
      obtain ⟨u1, u2⟩ := u
      simp only at k0 k1 hne
      have hwr := write_any base q ovi m.floor Li (noteF (R.take i) v m.f) m.floor (u1, u2) v (wr.alloc (.cells #[.string u1, .string u2] 58)) (HPW.out.now.new ((Below.refl _ _).alloc (Nat.le_refl _) _)) HRP.out hne hv (by omega)
      rw [hsn] at hwr
      have HWR := Lib.hid hwr
      have HPA := Lib.hid (HPW.out.after (w2 := wr.alloc (.cells #[.string u1, .string u2] 58)) ((Below.refl _ _).alloc (Nat.le_refl _) _))
      have HSN := Lib.hid hsn
      clear hwr hsn hne
      go_wp2_with fail
      refine HWR.out.mono ?_
      rintro e w3 ⟨rfl, ov3, L3, hp3, hr3⟩
      have hl3 := write_len HRP.out (by rw [HSN.out]; exact hr3)
      have HP3 := Lib.hid (HPA.out.trans hp3)
      have HR3 := Lib.hid hr3
      clear hp3 hr3 k0 k1
      go_wp2_with fail
      go_roundw
      case rel => exact ⟨i + 1, ov3, L3, by omega, by go_num, HP3, HR3, by omega⟩
      case measure => simp [intOf]; omega
    · obtain rfl : i = R.length := by omega
      have hrp := HRP.out
      rw [List.take_length] at hrp
      have HRP2 := Lib.hid hrp
      have HPF := Lib.hid (((PmW.refl H.out).after HB1.out).trans HPW.out)
      clear hrp
      go_wp2_with fail
      go_end0
      exact ⟨rfl, ovi, Li, R, HPF.out, HF1.out, HRP2.out, by omega⟩

set_option maxHeartbeats 4000000 in
set_option maxRecDepth 100000 in
theorem psound_any (ts : List TxV) (G : Nat → Prop) (vv : Value) (w : World) (hr : RdTx w w.heap.size G vv ts) (hf : ∀ x ∈ ts, fitT x.t) (hi : ∀ x ∈ ts, I64 x.t.read) :
    Calls Try.prog 16 #[vv] w fun e w' => e = .returned (.bool (decide (ts.length ≤ 4 ∧ ∀ x ∈ ts, soundT x.t))) ∧ Below w.heap.size w w' := by
  obtain ⟨D, hD⟩ : ∃ D, D = decide (ts.length ≤ 4 ∧ ∀ x ∈ ts, soundT x.t) := ⟨_, rfl⟩
  rw [← hD]
  have HD := Lib.hid hD; clear hD
  obtain ⟨A, c, rfl, hc, hcel⟩ := hr.at
  have HCE := Lib.hid hcel; clear hcel
  have HPA := Lib.hid hr.parts; clear hr
  have HFI := Lib.hid hf; clear hf
  have HII := Lib.hid hi; clear hi
  by_cases hbig : (4 : Int) < (ts.length : Int)
  · have hd : D = false := by rw [HD.out]; exact decide_eq_false fun h => by have := h.1; omega
    subst hd
    clear HD
    go_enter Try.func16, Try.ntmps16
    go_wp2_with fail
    go_ret
    exact ⟨rfl, Below.refl _ _⟩
  go_enter Try.func16, Try.ntmps16
  go_wp2_with fail
  go_loopw [12] (fun iv wr => ∃ i : Nat, i ≤ ts.length ∧ iv = .int .i64 (i : Int) ∧ Hid (∀ x ∈ ts.take i, soundT x.t) ∧ Hid (Below w.heap.size w wr)) (fun iv _ => ts.length - (intOf iv).toNat)
  case atStart => exact ⟨0, Nat.zero_le _, rfl, Lib.hid (by simp), Lib.hid (Below.refl _ _)⟩
  case round =>
    obtain ⟨i, hil, rfl, HALL, HB⟩ := hrel
    by_cases hlt : i < ts.length
    · obtain ⟨b, o, rfl, hbB, _, k0, k1, k2⟩ := HCE.out i hlt
      rw [← HB.out.cell (p := ⟨b, _, none⟩) hbB] at k0
      rw [← HB.out.cell (p := ⟨b, _, none⟩) hbB] at k1
      rw [← HB.out.cell (p := ⟨b, _, none⟩) hbB] at k2
      have hmem := List.getElem_mem hlt
      have hp := HPA.out _ hmem
      have hft := HFI.out _ hmem
      have hii := HII.out _ hmem
      have hyes : soundT ts[i].t → ∀ x ∈ ts.take (i + 1), soundT x.t := fun h x hx => by
        rw [List.take_add_one, List.getElem?_eq_getElem hlt, List.mem_append] at hx
        rcases hx with hx | hx
        · exact HALL.out x hx
        · simp only [Option.toList_some, List.mem_singleton] at hx; rw [hx]; exact h
      have hno : ¬ soundT ts[i].t → D = false := fun h => by rw [HD.out]; exact decide_eq_false fun h2 => h (h2.2 _ hmem)
      have hbw : ∀ W, Below wr.heap.size wr W → Below w.heap.size w W := fun W hW => HB.out.trans (hW.mono HB.out.size)
      have hok := fun (hs : soundT ts[i].t) W (hW : Below wr.heap.size wr W) => pputT_ok ts[i].t hs hii.2 hft ts[i].v1 ts[i].v2 W ((hp.1.rd.below (hbw W hW) (Nat.le_refl _)).mono (hbw W hW).size) ((hp.2.rd.below (hbw W hW) (Nat.le_refl _)).mono (hbw W hW).size)
      have hbad := fun (hs : ¬ soundT ts[i].t) W (hW : Below wr.heap.size wr W) => pputT_bad ts[i].t hs hii.2 hft ts[i].v1 ts[i].v2 W ((hp.1.rd.below (hbw W hW) (Nat.le_refl _)).mono (hbw W hW).size) ((hp.2.rd.below (hbw W hW) (Nat.le_refl _)).mono (hbw W hW).size)
      have hs1 : ∃ A1 c1, ts[i].v1 = .slice A1 ts[i].t.reads.length c1 := by obtain ⟨A1, c1, e, _⟩ := hp.1.rd; exact ⟨A1, c1, e⟩
      have hs2 : ∃ A2 c2, ts[i].v2 = .slice A2 ts[i].t.chgs.length c2 := by obtain ⟨A2, c2, e, _⟩ := hp.2.rd; exact ⟨A2, c2, e⟩
      clear hp hft hii hmem
      generalize ts[i] = x at k0 k1 k2 hyes hno hok hbad hs1 hs2
      obtain ⟨t, v1, v2⟩ := x
      unfold tval at hok hbad
      simp only at k0 k1 k2 hyes hno hok hbad hs1 hs2
      obtain ⟨A1, c1, rfl⟩ := hs1
      obtain ⟨A2, c2, rfl⟩ := hs2
      have HYES := Lib.hid hyes
      have HNO := Lib.hid hno
      have HOK := Lib.hid hok
      have HBAD := Lib.hid hbad
      have HBW := Lib.hid hbw
      have hb0 : Below wr.heap.size wr (wr.alloc (.cells #[.int .i64 t.read, .slice A1 t.reads.length c1, .slice A2 t.chgs.length c2] 44)) := (Below.refl _ _).alloc (Nat.le_refl _) _
      have HB0 := Lib.hid hb0
      clear hyes hno hok hbad hbw hb0
      by_cases hs : soundT t
      · have HC := Lib.hid (HOK.out hs _ HB0.out)
        go_wp2_with fail
        refine HC.out.mono ?_
        rintro e w2 ⟨v', rfl, -, hb2⟩
        have HB2 := Lib.hid (HBW.out _ (HB0.out.trans (hb2.mono HB0.out.size)))
        have HAL2 := Lib.hid (HYES.out hs)
        clear hb2 k0 k1 k2
        go_wp2_with fail
        go_roundw
        case rel => exact ⟨i + 1, by omega, by go_num, HAL2, HB2⟩
        case measure => simp [intOf]; omega
      · have HC := Lib.hid (HBAD.out hs _ HB0.out)
        go_wp2_with fail
        refine HC.out.mono ?_
        rintro e w2 ⟨rfl, hb2⟩
        have HB2 := Lib.hid (HBW.out _ (HB0.out.trans (hb2.mono HB0.out.size)))
        have HD2 := Lib.hid (HNO.out hs)
        clear hb2 k0 k1 k2
        go_wp2_with fail
        go_ret
        exact ⟨by rw [HD2.out]; rfl, HB2.out⟩
    · have hd : D = true := by
        rw [HD.out]
        have h1 := HALL.out
        rw [List.take_of_length_le (by omega)] at h1
        exact decide_eq_true ⟨by omega, h1⟩
      have HD2 := Lib.hid hd; clear hd
      go_wp2_with fail
      go_ret
      exact ⟨by rw [HD2.out]; rfl, HB.out⟩
end Go.Proofs.Ytgppgecglkellaa
namespace Go.Proofs.Ytgppgecglkellaa
open Go.RowKit

theorem MkAt.wide {w : World} {base q n n' : Nat} {G : Nat → Prop} {m : Mk} (h : MkAt w base q G n m) (hn : n ≤ n') (hn2 : n' ≤ 64) : MkAt w base q G n' m := by
  obtain ⟨ov, L, h1, h2, h3, h4, h5, h6, h7⟩ := h
  exact ⟨ov, L, h1, h2, h3, h4, by omega, h6, hn2⟩
theorem PmW.grow {w w' w2 : World} {base q : Nat} {ov ov' : Option Nat} {floor : Int} {L : List Wr} {α : Type} {enc : α → List Value} {k : Nat} {e : TypeId} {v : Value} {l : List α} (h : PmW w w' base q ov floor L ov') (ho : Own enc k e w' w.heap.size v l) (h1 : e ≠ 51) (h2 : e ≠ 60) (hg : w'.grownBy w2 v.ownBlock) : PmW w w2 base q ov floor L ov' :=
  ⟨h.now.grown ho h1 h2 hg, h.moved.trans (Mv.of_grown hg) (fun i hi e => by have := (ho.low e.symm).1; omega), h.new⟩
theorem wrote_note {M : Mk} {t : Txn} {v : Int} {R : List (K × K)} (hf : Fits R (fun k => mem (t.chgs.map cspan) k)) : (wrote M v t).f = noteF R v M.f := by
  funext k
  unfold wrote noteF
  simp only
  by_cases h : keysOf t k
  · rw [if_pos h, if_pos ((hf.2 k).2 h)]
  · rw [if_neg h, if_neg (fun h2 => h ((hf.2 k).1 h2))]
theorem Top.wrote {M : Mk} (h : Top M) (v : Int) (t : Txn) : Top (wrote M v t) := by
  by_cases he : ∃ k, keysOf t k
  · obtain ⟨k, hk⟩ := id he
    right
    refine ⟨k, ?_⟩
    unfold Go.Proofs.Ytgppgecglkellaa.wrote
    simp only
    rw [if_pos hk, if_pos he]
  · have e1 : (Go.Proofs.Ytgppgecglkellaa.wrote M v t).most = M.most := by unfold Go.Proofs.Ytgppgecglkellaa.wrote; simp only; rw [if_neg he]
    rcases h with h | ⟨k, hk⟩
    · left; rw [e1]; exact h
    · right
      refine ⟨k, ?_⟩
      rw [e1, ← hk]
      unfold Go.Proofs.Ytgppgecglkellaa.wrote
      simp only
      rw [if_neg (fun hk2 => he ⟨k, hk2⟩)]
theorem take_mapM {α β : Type} (f : α → β) (l : List α) (i : Nat) (h : i < l.length) : (l.map f).take (i + 1) = (l.map f).take i ++ [f l[i]] := by
  rw [List.take_add_one, List.getElem?_map, List.getElem?_eq_getElem h]
  rfl

set_option maxHeartbeats 16000000 in
set_option maxRecDepth 100000 in
theorem mkjudge_any (base q n : Nat) (G : Nat → Prop) (m : Mk) (v : Int) (hv : I64 v) (ts : List TxV) (vv : Value) (w : World) (h : MkAt w base q G n m) (hr : RdTx w w.heap.size G vv ts) (hf : ∀ x ∈ ts, fitT x.t) (hi : ∀ x ∈ ts, I64 x.t.read) (hn : n ≤ 60) :
    Calls Try.prog 13 #[.pointer (some ⟨q, 0, none⟩), .int .i64 v, vv] w fun e w' => ∃ A cap, e = .returned (.tuple #[.slice A (jout m v (ts.map (·.t))).length cap, .int .i64 (jerr m v (ts.map (·.t)))]) ∧
      ∃ G', MkAt w' base q G' (n + 4) (jnext m v (ts.map (·.t))) ∧ (∀ i, G' i → G i ∨ w.heap.size ≤ i) ∧ Mv G w w' ∧ RdG encI 1 w' w'.heap.size (fun i => G' i ∨ Else w G i) (.slice A (jout m v (ts.map (·.t))).length cap) (jout m v (ts.map (·.t))) := by
  obtain ⟨E, hE⟩ : ∃ E, E = jerr m v (ts.map (·.t)) := ⟨_, rfl⟩
  obtain ⟨O, hO⟩ : ∃ O, O = jout m v (ts.map (·.t)) := ⟨_, rfl⟩
  obtain ⟨N, hN⟩ : ∃ N, N = jnext m v (ts.map (·.t)) := ⟨_, rfl⟩
  rw [← hE, ← hO, ← hN]
  unfold jout at hO
  unfold jnext at hN
  rw [← hE] at hO hN
  have hbad : ∀ c : Int, c ≠ 0 → E = c → O = [] ∧ N = m := fun c hc he => by
    rw [if_neg (by omega)] at hO hN
    exact ⟨hO, hN⟩
  have HBAD := Lib.hid hbad; clear hbad
  have HMK := Lib.hid h
  have hstay : ∀ w', Below w.heap.size w w' → ∃ G', MkAt w' base q G' (n + 4) m ∧ (∀ i, G' i → G i ∨ w.heap.size ≤ i) ∧ Mv G w w' ∧ RdG encI 1 w' w'.heap.size (fun i => G' i ∨ Else w G i) (.slice none 0 0) [] := fun w' hb =>
    ⟨G, (h.mv (Mv.of_below hb) (fun i hi => by have := h.low.2 i hi; omega)).wide (by omega) (by omega), fun i hi => .inl hi, Mv.of_new hb _, RdG.none_ _ _ _ _ _⟩
  have HSTAY := Lib.hid hstay; clear hstay
  obtain ⟨ov, L, h1, rfl, h2, h3, h4, h5, h6⟩ := h
  have hnew := newest_any q m.floor L w h1.rd (by omega)
  have hiff := h2.newest h5 h3 v
  have hsnd := fun W (hb : Below w.heap.size w W) => psound_any ts (PmD q ov) vv W ((hr.mv (Mv.of_below hb) (Nat.le_refl _) (fun b h1 h2 => by omega)).mono hb.size (fun _ _ h => h)) hf hi
  obtain ⟨A0, c0, hvv, hc0, hcel⟩ := hr.at
  subst hvv
  have HNEW := Lib.hid hnew; clear hnew
  have HSND := Lib.hid hsnd; clear hsnd
  have HCE := Lib.hid hcel; clear hcel
  have HPA := Lib.hid hr.parts; clear hr
  have HFI := Lib.hid hf; clear hf
  have H1 := Lib.hid h1
  have H2 := Lib.hid h2; clear h2
  have H3 := Lib.hid h3; clear h3
  have H5 := Lib.hid h5; clear h5
  have hqs := h1.size
  have HROW := Lib.hid (show ∀ g, ov = some g → g < w.heap.size from fun g hg => (h1.row hg).2)
  clear h1 hi
  unfold jerr at hE
  by_cases hlow : v ≤ newestL m.floor L
  · rw [if_pos (hiff.1 hlow)] at hE
    obtain ⟨e1, e2⟩ := HBAD.out 9 (by omega) hE
    clear hO hN hiff
    subst hE e1 e2
    go_enter Try.func13, Try.ntmps13
    go_wp2_with fail
    refine HNEW.out.mono ?_
    rintro e w1 ⟨rfl, hb1⟩
    have HS := Lib.hid (HSTAY.out w1 hb1); clear hb1
    go_wp2_with fail
    go_ret2
    exact ⟨_, _, rfl, HS.out⟩
  rw [if_neg (fun h => hlow (hiff.2 h))] at hE
  have hfv : m.floor < v ∧ m.most < v := by
    have h1 : ¬ (v ≤ m.floor ∨ v ≤ m.most) := fun h => hlow (hiff.2 h)
    omega
  clear hiff
  by_cases hso : ¬ (ts.length ≤ 4 ∧ ∀ x ∈ ts, soundT x.t)
  · have he : E = 2 := by
      rw [hE, if_pos]
      rw [List.length_map]
      by_cases hl : ts.length ≤ 4
      · right
        by_cases hall : ∀ x ∈ ts, soundT x.t
        · exact absurd ⟨hl, hall⟩ hso
        · simp only [Classical.not_forall] at hall
          obtain ⟨x, hx, hns⟩ := hall
          exact ⟨x.t, List.mem_map.2 ⟨x, hx, rfl⟩, hns⟩
      · left; omega
    obtain ⟨e1, e2⟩ := HBAD.out 2 (by omega) he
    clear hO hN hE
    subst he e1 e2
    rw [decide_eq_false hso] at HSND
    clear hso
    go_enter Try.func13, Try.ntmps13
    go_wp2_with fail
    refine HNEW.out.mono ?_
    rintro e w1 ⟨rfl, hb1⟩
    have HB1 := Lib.hid hb1; clear hb1
    go_wp2_with fail
    refine (HSND.out w1 HB1.out).mono ?_
    rintro e w2 ⟨rfl, hb2⟩
    have HS := Lib.hid (HSTAY.out w2 (HB1.out.trans (hb2.mono HB1.out.size))); clear hb2
    go_wp2_with fail
    go_ret2
    exact ⟨_, _, rfl, HS.out⟩
  rw [Classical.not_not] at hso
  have he : E = 0 := by
    rw [hE, if_neg]
    rw [List.length_map]
    rintro (h1 | ⟨t, ht, hns⟩)
    · omega
    · obtain ⟨x, hx, rfl⟩ := List.mem_map.1 ht
      exact hns (hso.2 x hx)
  rw [if_pos he] at hO hN
  clear hE
  subst he
  rw [decide_eq_true hso] at HSND
  have HSO := Lib.hid hso.2
  have hlen4 := hso.1
  have HO := Lib.hid hO
  have HN := Lib.hid hN
  clear hso hO hN HBAD HSTAY HMK
  go_enter Try.func13, Try.ntmps13
  go_wp2_with fail
  refine HNEW.out.mono ?_
  rintro e w1 ⟨rfl, hb1⟩
  have HB1 := Lib.hid hb1; clear hb1
  go_wp2_with fail
  refine (HSND.out w1 HB1.out).mono ?_
  rintro e w2 ⟨rfl, hb2⟩
  have HPW2 := Lib.hid ((PmW.refl H1.out).after (HB1.out.trans (hb2.mono HB1.out.size)))
  clear hb2 HSND HNEW HB1 hlow
  go_wp2_with fail
  go_loopw [8, 26] (fun sv iv wr => ∃ (i : Nat) (A' : Option Addr) (c' : Nat) (ovi : Option Nat) (Li : List Wr), i ≤ ts.length ∧ iv = .int .i64 (i : Int) ∧ sv = .slice A' i c' ∧ Hid (OwnI wr w.heap.size (.slice A' i c') (judgeL m v ((ts.map (·.t)).take i))) ∧ Hid (PmW w wr base q ov m.floor Li ovi) ∧ Hid (Rep (judgeM m v ((ts.map (·.t)).take i)).f m.floor Li ∧ Top (judgeM m v ((ts.map (·.t)).take i))) ∧ Li.length ≤ L.length + 48 * i) (fun _ iv _ => ts.length - (intOf iv).toNat)
  case atStart => exact ⟨0, none, 0, ov, L, Nat.zero_le _, rfl, rfl, Lib.hid (Own.nil _ _), HPW2, Lib.hid ⟨H2.out, H3.out⟩, by omega⟩
  case round =>
    obtain ⟨i, A', c', ovi, Li, hil, rfl, rfl, HOI, HPW, HRT, hLi⟩ := hrel
    clear HPW2
    by_cases hlt : i < ts.length
    · obtain ⟨b, o, rfl, hbB, hbG, k0, k1, k2⟩ := HCE.out i hlt
      have hcw : ∀ j, wr.cell? ⟨b, j, none⟩ = w.cell? ⟨b, j, none⟩ := fun j => by unfold World.cell?; rw [HPW.out.moved.block b hbB hbG]
      rw [← hcw] at k0 k1 k2
      have hmem := List.getElem_mem hlt
      have hp := HPA.out _ hmem
      have hft := HFI.out _ hmem
      have hst := HSO.out _ hmem
      have hsn := judge_snoc ((ts.map (·.t)).take i) m v ts[i].t
      rw [← take_mapM (fun x : TxV => x.t) ts i hlt] at hsn
      obtain ⟨hok', hmost', hfloor'⟩ := Mk.Ok.judgeM ((ts.map (·.t)).take i) H5.out (v := v) (by omega) hv.2
      obtain ⟨M', hM'⟩ : ∃ M', judgeM m v ((ts.map (·.t)).take i) = M' := ⟨_, rfl⟩
      obtain ⟨J', hJ'⟩ : ∃ J', judgeL m v ((ts.map (·.t)).take i) = J' := ⟨_, rfl⟩
      have hJl : J'.length = i := by rw [← hJ', judgeL_len, List.length_take, List.length_map]; omega
      rw [hM', hJ'] at hsn
      rw [hM'] at hok' hmost' hfloor' HRT
      rw [hJ'] at HOI
      rw [← hfloor'] at HRT
      have hpm : ∀ W, Below wr.heap.size wr W → PmL W base q ovi M'.floor Li := fun W hW => by rw [hfloor']; exact HPW.out.now.new hW
      have hrd1 : ∀ W, Below wr.heap.size wr W → RdP W W.heap.size ts[i].v1 ts[i].t.reads := fun W hW => by
        have hm : Mv (PmD q ov) w W := (HPW.out.after hW).moved
        exact (hp.1.mv hm (Nat.le_refl _) (fun _ _ h => h)).rd.mono hm.size
      have hrd2 : ∀ W, Below wr.heap.size wr W → RdC W W.heap.size ts[i].v2 ts[i].t.chgs := fun W hW => by
        have hm : Mv (PmD q ov) w W := (HPW.out.after hW).moved
        exact (hp.2.mv hm (Nat.le_refl _) (fun _ _ h => h)).rd.mono hm.size
      have hver := fun W (hW : Below wr.heap.size wr W) => pverdict_any q Li M' HRT.out.1 hok' (by omega) ts[i].t hst ts[i].v1 ts[i].v2 W (hpm W hW).rd (hrd1 W hW)
      have hnote := fun W (hW : Below wr.heap.size wr W) => note_any base q ovi M' Li v ts[i].t.chgs ts[i].v2 W (hpm W hW) HRT.out.1 (by rw [hfloor']; omega) hft.2.2.2 hst.2.2.2.2 hst.2.2.2.1 (hrd2 W hW) (by omega)
      have hs1 : ∃ A1 c1, ts[i].v1 = .slice A1 ts[i].t.reads.length c1 := by obtain ⟨A1, c1, e, _⟩ := hp.1.rd; exact ⟨A1, c1, e⟩
      have hs2 : ∃ A2 c2, ts[i].v2 = .slice A2 ts[i].t.chgs.length c2 := by obtain ⟨A2, c2, e, _⟩ := hp.2.rd; exact ⟨A2, c2, e⟩
      clear hp hft hst hmem hrd1 hrd2 hpm hcw
      generalize ts[i] = x at k0 k1 k2 hsn hver hnote hs1 hs2
      obtain ⟨t, v1, v2⟩ := x
      unfold tval at hver
      simp only at k0 k1 k2 hsn hver hnote hs1 hs2
      obtain ⟨A1, c1, rfl⟩ := hs1
      obtain ⟨A2, c2, rfl⟩ := hs2
      have HVER := Lib.hid hver; clear hver
      have HNOTE := Lib.hid hnote; clear hnote
      have HSN := Lib.hid hsn; clear hsn
      have HJL := Lib.hid hJl; clear hJl hJ' hM'
      have HFL := Lib.hid hfloor'; clear hfloor'
      obtain ⟨w3, hw3⟩ : ∃ w3, wr.alloc (.cells #[.int .i64 t.read, .slice A1 t.reads.length c1, .slice A2 t.chgs.length c2] 44) = w3 := ⟨_, rfl⟩
      have hb3 : Below wr.heap.size wr w3 := by rw [← hw3]; exact (Below.refl _ _).alloc (Nat.le_refl _) _
      have hx3 : Whole w3 wr.heap.size 44 [.int .i64 t.read, .slice A1 t.reads.length c1, .slice A2 t.chgs.length c2] := by rw [← hw3]; exact Whole.fresh wr _ [_, _, _]
      have y0 := hx3.cell 0 _ rfl
      have y1 := hx3.cell 1 _ rfl
      have y2 := hx3.cell 2 _ rfl
      have HX3 := Lib.hid hx3
      have HB3 := Lib.hid hb3
      clear hb3 hx3
      have hwzr : w.heap.size ≤ wr.heap.size := HPW.out.moved.size
      have hi4 : i < 4 := by omega
      by_cases hv1 : verd M' t = 1
      · rw [hv1] at HVER
        have hj1 : judge1 M' v t = wrote M' v t := by unfold judge1; rw [if_pos hv1]
        have HJ1 := Lib.hid hj1; clear hj1
        go_wp2_with fail
        have HW3 := Lib.hid hw3; clear hw3
        refine (HVER.out _ HB3.out).mono ?_
        rintro e w4 ⟨rfl, hb4⟩
        have hb34 : Below wr.heap.size wr w4 := HB3.out.trans (hb4.mono HB3.out.size)
        have x2 := (HX3.out.below hb4 HX3.out.size).cell 2 _ rfl
        have HB4 := Lib.hid hb34
        clear hb4 hb34 y0 y1 y2 k0 k1 k2
        go_wp2_with fail
        refine (HNOTE.out _ HB4.out).mono ?_
        rintro e w5 ⟨rfl, ov5, L5, R, hp5, hf5, hr5, hl5⟩
        rw [HFL.out] at hp5
        have hoi4 : OwnI w4 w.heap.size (.slice A' i c') J' := HOI.out.below HB4.out (Nat.le_refl _)
        have hp4 : PmW w w4 base q ov m.floor Li ovi := HPW.out.after HB4.out
        have hoi5 : OwnI w5 w.heap.size (.slice A' i c') J' := hp4.now.keeps hoi4 (by decide) (by decide) hp5.moved
        have hp5' : PmW w w5 base q ov m.floor L5 ov5 := hp4.trans hp5
        have hrt5 : Rep (judgeM m v ((ts.map (·.t)).take (i + 1))).f m.floor L5 ∧ Top (judgeM m v ((ts.map (·.t)).take (i + 1))) := by
          rw [HSN.out.2, HJ1.out]
          exact ⟨by rw [wrote_note hf5, ← HFL.out]; exact hr5, HRT.out.2.wrote v t⟩
        have HP5 := Lib.hid (hp5'.after ((Below.refl _ w5).alloc (Nat.le_refl _) (.cells #[.int .i64 1] 3)))
        have HO5 := Lib.hid (hoi5.alloc (.cells #[.int .i64 1] 3))
        have HRT5 := Lib.hid hrt5
        have HRD := Lib.hid (RdI.one w5 1)
        have hz5 : w.heap.size ≤ (w5.alloc (.cells #[.int .i64 1] 3)).heap.size := by have := hp5'.moved.size; simp; omega
        have HZ5 := Lib.hid hz5
        clear hoi4 hp4 hoi5 hp5' hrt5 hp5 hf5 hr5 x2 hz5
        go_wp2_with (at_builtin; go_must (refine wpList_addIm rfl _ _ rfl w.heap.size (.slice A' i c') J' rfl HO5.out (w5.heap.size + 1) (.slice (some ⟨w5.heap.size, 0, none⟩) 1 1) [1] rfl HRD.out (by rw [HJL.out]; simp only [List.length_cons, List.length_nil]; omega) HZ5.out ?_))
        intro A6 c6 w6 ho6 hg6
        have hj6 : judgeL m v ((ts.map (·.t)).take (i + 1)) = J' ++ [1] := by rw [HSN.out.1, hv1]
        have hl6 : (J' ++ [(1 : Int)]).length = i + 1 := by rw [List.length_append, HJL.out]; rfl
        have HP6 := Lib.hid (HP5.out.grow HO5.out (by decide) (by decide) hg6.out)
        have HJ6 := Lib.hid hj6
        have HL6 := Lib.hid hl6
        have ho6' := ho6.out
        clear hj6 hl6 hg6 ho6
        simp only [HJL.out] at ho6'
        have HO6 := Lib.hid ho6'; clear ho6'
        have hJi := HJL.out
        go_wp2_with fail
        go_roundw
        case rel => exact ⟨i + 1, A6, c6, ov5, L5, by omega, by go_num, by rw [hJi], Lib.hid (by rw [HJ6.out]; exact HO6.out), HP6, HRT5, by omega⟩
        case measure => simp [intOf]; omega
      · have hj1 : judge1 M' v t = M' := by unfold judge1; rw [if_neg hv1]
        have HJ1 := Lib.hid hj1; clear hj1
        have HVD := Lib.hid (show judgeL m v ((ts.map (·.t)).take (i + 1)) = J' ++ [verd M' t] from HSN.out.1)
        generalize verd M' t = vd at HVER hv1 HVD
        go_wp2_with fail
        have HW3 := Lib.hid hw3; clear hw3
        refine (HVER.out _ HB3.out).mono ?_
        rintro e w4 ⟨rfl, hb4⟩
        have hb34 : Below wr.heap.size wr w4 := HB3.out.trans (hb4.mono HB3.out.size)
        have hp4 : PmW w w4 base q ov m.floor Li ovi := HPW.out.after hb34
        have hrt5 : Rep (judgeM m v ((ts.map (·.t)).take (i + 1))).f m.floor Li ∧ Top (judgeM m v ((ts.map (·.t)).take (i + 1))) := by
          rw [HSN.out.2, HJ1.out]
          exact ⟨by rw [← HFL.out]; exact HRT.out.1, HRT.out.2⟩
        have HP5 := Lib.hid (hp4.after ((Below.refl _ w4).alloc (Nat.le_refl _) (.cells #[.int .i64 vd] 3)))
        have HO5 := Lib.hid ((HOI.out.below hb34 (Nat.le_refl _)).alloc (.cells #[.int .i64 vd] 3))
        have HRT5 := Lib.hid hrt5
        have HRD := Lib.hid (RdI.one w4 vd)
        have hz5 : w.heap.size ≤ (w4.alloc (.cells #[.int .i64 vd] 3)).heap.size := by have := hp4.moved.size; simp; omega
        have HZ5 := Lib.hid hz5
        clear hb4 hb34 hp4 hrt5 hz5 y0 y1 y2 k0 k1 k2
        go_wp2_with (at_builtin; go_must (refine wpList_addIm rfl _ _ rfl w.heap.size (.slice A' i c') J' rfl HO5.out (w4.heap.size + 1) (.slice (some ⟨w4.heap.size, 0, none⟩) 1 1) [vd] rfl HRD.out (by rw [HJL.out]; simp only [List.length_cons, List.length_nil]; omega) HZ5.out ?_))
        intro A6 c6 w6 ho6 hg6
        have HP6 := Lib.hid (HP5.out.grow HO5.out (by decide) (by decide) hg6.out)
        have ho6' := ho6.out
        clear hg6 ho6
        simp only [HJL.out] at ho6'
        have HO6 := Lib.hid ho6'; clear ho6'
        have hJi := HJL.out
        go_wp2_with fail
        go_roundw
        case rel => exact ⟨i + 1, A6, c6, ovi, Li, by omega, by go_num, by rw [hJi], Lib.hid (by rw [HVD.out]; exact HO6.out), HP6, HRT5, by omega⟩
        case measure => simp [intOf]; omega
    · obtain rfl : i = ts.length := by omega
      have htk : (ts.map (·.t)).take ts.length = ts.map (·.t) := List.take_of_length_le (by simp)
      rw [htk, ← HO.out] at HOI
      rw [htk, ← HN.out] at HRT
      have hOl : O.length = ts.length := by rw [HO.out, judgeL_len, List.length_map]
      have hNok := Mk.Ok.judgeM (ts.map (·.t)) H5.out (v := v) (by omega) hv.2
      rw [← HN.out] at hNok
      have hfin : ∃ G', MkAt wr base q G' (n + 4) N ∧ (∀ i, G' i → PmD q ov i ∨ w.heap.size ≤ i) ∧ Mv (PmD q ov) w wr ∧ RdG encI 1 wr wr.heap.size (fun i => G' i ∨ Else w (PmD q ov) i) (.slice A' ts.length c') O := by
        refine ⟨PmD q ovi, ⟨ovi, Li, by rw [hNok.2.2]; exact HPW.out.now, rfl, by rw [hNok.2.2]; exact HRT.out.1, HRT.out.2, by omega, hNok.1, by omega⟩, fun j hj => ?_, HPW.out.moved, ?_⟩
        · rcases hj with rfl | hj
          · exact .inl (.inl rfl)
          · rcases HPW.out.new j hj.symm with h1 | h1
            · exact .inl (.inr h1.symm)
            · exact .inr h1
        · refine RdG.own encI_len HOI.out (fun b hb1 hb2 hb3 => ?_)
          rintro ((rfl | hb) | ⟨_, hb⟩)
          · omega
          · obtain ⟨A9, c9, _, ho9, hv9⟩ := HPW.out.now.blk
            exact Own.apartM HOI.out ho9 (by decide) hb3 (hv9.trans hb.symm)
          · omega
      have HFIN := Lib.hid hfin
      have HOL := Lib.hid hOl
      clear hfin hOl hNok htk
      go_wp2_with fail
      go_ret2
      exact ⟨A', c', by rw [HOL.out]; rfl, by rw [HOL.out]; exact HFIN.out⟩
end Go.Proofs.Ytgppgecglkellaa
namespace Go.Proofs.Ytgppgecglkellaa

theorem lists_gt : ∀ l : List UInt8, l < l ++ [0]
  | [] => by decide
  | a :: l => by
    have := lists_gt l
    exact List.Lex.cons this
theorem lists_gap : ∀ l m : List UInt8, m ≤ l ∨ l ++ [0] ≤ m
  | [], [] => .inl (by decide)
  | [], b :: m => .inr (by
      show ¬ (b :: m : List UInt8) < [0]
      intro h
      cases h with
      | rel h => exact absurd h (by simp [UInt8.lt_iff_toNat_lt])
      | cons h => cases h)
  | a :: l, [] => .inl (by show ¬ (a :: l : List UInt8) < []; intro h; cases h)
  | a :: l, b :: m => by
    rcases Nat.lt_trichotomy b.toNat a.toNat with h | h | h
    · exact .inl (Std.le_of_lt (List.Lex.rel (UInt8.lt_iff_toNat_lt.2 h)))
    · obtain rfl : b = a := UInt8.toNat_inj.1 h
      rcases lists_gap l m with h1 | h1
      · refine .inl ?_
        show ¬ (b :: l : List UInt8) < b :: m
        intro h2
        cases h2 with
        | rel h => exact absurd h (by simp)
        | cons h => exact h1 h
      · refine .inr ?_
        show ¬ (b :: m : List UInt8) < b :: (l ++ [0])
        intro h2
        cases h2 with
        | rel h => exact absurd h (by simp)
        | cons h => exact h1 h
    · exact .inr (Std.le_of_lt (List.Lex.rel (UInt8.lt_iff_toNat_lt.2 h)))
theorem next_data (k : K) : (k ++ ⟨#[0]⟩ : K).data.toList = k.data.toList ++ [0] := by simp
theorem next_gt (k : K) : k < k ++ ⟨#[0]⟩ := by
  show k.data.toList < (k ++ ⟨#[0]⟩ : K).data.toList
  rw [next_data]; exact lists_gt _
theorem next_gap (k m : K) : m ≤ k ∨ k ++ ⟨#[0]⟩ ≤ m := by
  show m.data.toList ≤ k.data.toList ∨ (k ++ ⟨#[0]⟩ : K).data.toList ≤ m.data.toList
  rw [next_data]; exact lists_gap _ _

theorem next_only (a k : K) : (a ≤ k ∧ k < a ++ ⟨#[0]⟩) ↔ k = a := by
  have h1 := next_gt a
  have h2 := next_gap a k
  constructor
  · rintro ⟨h3, h4⟩
    rcases h2 with h | h <;> grind
  · rintro rfl
    exact ⟨Std.IsPreorder.le_refl _, h1⟩
end Go.Proofs.Ytgppgecglkellaa
