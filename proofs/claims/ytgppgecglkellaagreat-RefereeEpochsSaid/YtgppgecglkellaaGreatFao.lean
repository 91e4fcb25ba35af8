/- The keys that changes name: what the program's named and Spans answer. The reference's Marks: Last. The reference's Marks: the verdict on a transaction. The reference's Marks while they are written into; transactions as arguments. -/
import Derived.Test.YtgppgecglkellaaGreatFad
import Derived.Test.YtgppgecglkellaaGreatFaj
import Derived.Test.YtgppgecglkellaaGreatFam
import Derived.Test.YtgppgecglkellaaGreatFae
import Derived.Test.YtgppgecglkellaaGreatFaf
namespace Go.Proofs.YtgppgecglkellaaGreat
open Go.RowKit
attribute [local go_sem] less_eq same_eq le_eq ge_eq gt_eq

set_option maxHeartbeats 4000000 in
set_option maxRecDepth 100000 in
theorem named_any (l : List Chg) (hs : ∀ c ∈ l, smallC c) (v : Value) (w : World) (hv : RdC w w.heap.size v l) (hl : l.length ≤ 2000000) :
    Calls Tryz.prog 47 #[v] w fun e w' => ∃ v' R, e = .returned v' ∧ OwnS w' w.heap.size v' R ∧ Below w.heap.size w w' ∧ Fits R (fun k => mem (l.map cspan) k) ∧ R.length ≤ 2000000 := by
  obtain ⟨A, cc, rfl, hcc, hi⟩ := hv.at
  have HI := Lib.hid hi; clear hi
  have HS := Lib.hid hs; clear hs
  obtain ⟨g, hg⟩ : ∃ g, g = w.heap.size := ⟨_, rfl⟩
  have HG := Lib.hid hg
  have hsz : g ≤ w.heap.size := by omega
  clear hv hg
  go_enter Tryz.func47, Tryz.ntmps47
  go_wp2_with fail
  go_loopw [3, 8] (fun ov iv wr => ∃ (i : Nat) (A' : Option Addr) (c' : Nat), i ≤ l.length ∧ iv = .int .i64 i ∧ ov = .slice A' i c' ∧ OwnS wr g ov ((l.take i).map cspan) ∧ Below g w wr ∧ g ≤ wr.heap.size) (fun _ iv _ => l.length - (intOf iv).toNat)
  case atStart => exact ⟨0, none, 0, Nat.zero_le _, rfl, rfl, OwnS.nil _ _, Below.refl _ _, hsz⟩
  case round =>
    obtain ⟨i, A', c', hil, rfl, rfl, ho, hbw, hbs⟩ := hrel
    have HBW := Lib.hid hbw; clear hbw
    have HBS := Lib.hid hbs; clear hbs
    have HO := Lib.hid ho; clear ho
    have hlm : ((l.take i).map cspan).length = i := by simp; omega
    by_cases hlt : i < l.length
    · obtain ⟨b, o, rfl, hbB, k0, k1, k2⟩ := HI.out i hlt
      rw [← HBW.out.cell (p := ⟨b, o + i * 3, none⟩) (by rw [HG.out]; exact hbB)] at k0
      rw [← HBW.out.cell (p := ⟨b, o + i * 3 + 1, none⟩) (by rw [HG.out]; exact hbB)] at k1
      rw [← HBW.out.cell (p := ⟨b, o + i * 3 + 2, none⟩) (by rw [HG.out]; exact hbB)] at k2
      have h1 := fun W => reach_any l[i] W (HS.out _ (List.getElem_mem hlt)).1
      have hnext : (l.take (i + 1)).map cspan = (l.take i).map cspan ++ [cspan l[i]] := by
        rw [List.take_succ_eq_append_getElem hlt, List.map_append]; rfl
      generalize (l.take i).map cspan = out at HO hlm hnext
      generalize cspan l[i] = sp at h1 hnext
      generalize l[i] = z at k0 k1 k2 h1
      obtain ⟨kz, xz, yz⟩ := z
      unfold cval spv at h1
      simp only at k0 k1 k2 h1
      have H1 := Lib.hid h1; clear h1
      have HN := Lib.hid hnext; clear hnext
      have HLM := Lib.hid hlm
      go_wp2_with fail
      refine (H1.out _).mono ?_
      rintro e w3 ⟨rfl, hb3⟩
      have HB3 := Lib.hid (show Below g w w3 from (HBW.out.alloc HBS.out _).trans (hb3.mono (by rw [World.size_alloc]; have := HBS.out; omega)))
      have HS3 := Lib.hid (show g ≤ w3.heap.size from Nat.le_trans HBS.out (Nat.le_trans (by simp) hb3.size))
      have HO3 := Lib.hid (show OwnS w3 g _ _ from (HO.out.alloc _).below hb3 (Nat.le_refl _))
      clear hb3 k0 k1 k2
      go_wp2_with (at_builtin; go_must (refine wpList_addT rfl _ _ rfl g (.slice A' i c') out rfl ?f1 (w3.heap.size + 1) _ [sp] rfl (RdS.one w3 sp) (by simp; omega) ?f2 g w ?f3 (Nat.le_refl _) ?f4))
      case f1 => exact HO3.out.alloc _
      case f2 => have := HS3.out; simp; omega
      case f3 => exact HB3.out.alloc HS3.out _
      intro A2 c2 w4 ho4 hb4 hz4
      go_wp2_with fail
      go_roundw
      case rel => exact ⟨i + 1, A2, c2, by omega, by go_num, by simp, by rw [HN.out]; exact ho4.out, hb4.out, hz4.out⟩
      case measure => simp [intOf]; omega
    · obtain rfl : i = l.length := by omega
      have ho := HO.out
      rw [List.take_length] at ho
      have HO2 := Lib.hid (show RdS wr wr.heap.size _ _ from ho.rd)
      clear ho
      have hj := join_any (l.map cspan) _ wr HO2.out (by simpa using hl)
      have HJ := Lib.hid hj; clear hj
      go_wp2_with fail
      refine HJ.out.mono ?_
      rintro e w5 ⟨v5, R, rfl, ho5, hb5, hn5, hf5, hl5⟩
      have HO5 := Lib.hid ho5; clear ho5
      have HB5 := Lib.hid hb5; clear hb5
      have HF5 := Lib.hid (show Fits R (fun k => mem (l.map cspan) k) from ⟨hn5, hf5⟩); clear hf5 hn5
      have HL5 := Lib.hid hl5; clear hl5
      go_wp2_with fail
      have hgz : w.heap.size ≤ wr.heap.size := by rw [← HG.out]; exact HBS.out
      refine bodyPost_ret (v := v5) ?_ rfl ⟨_, _, rfl, HO5.out.lower hgz, (by have h := HBW.out; rwa [HG.out] at h : Below w.heap.size w wr).trans (HB5.out.mono hgz), HF5.out, HL5.out⟩
      simp [results, Tryz.results47, go_sem]

/-- what Spans answers: an error, or spans of the call's own -/
def SpansIs (w : World) (base : Nat) (v' : Value) (q e : Int) (P : K → Prop) : Prop :=
  (q = e ∧ q ≠ 0 ∧ v' = .slice none 0 0) ∨ (e = 0 ∧ q = 0 ∧ ∃ R, OwnS w base v' R ∧ Fits R P ∧ R.length ≤ 2000000)
theorem SpansIs.err {w : World} {base : Nat} {q : Int} {P : K → Prop} (h : q ≠ 0) : SpansIs w base (.slice none 0 0) q q P := .inl ⟨rfl, h, rfl⟩
theorem SpansIs.ok {w : World} {base : Nat} {v' : Value} {P : K → Prop} {R : List (K × K)} (h1 : OwnS w base v' R) (h2 : Fits R P) (h3 : R.length ≤ 2000000) : SpansIs w base v' 0 0 P := .inr ⟨rfl, rfl, R, h1, h2, h3⟩

set_option maxHeartbeats 4000000 in
set_option maxRecDepth 100000 in
theorem pspans_any (l : List Chg) (hs : ∀ c ∈ l, smallC c) (v : Value) (w : World) (hv : RdC w w.heap.size v l) (hl : l.length ≤ 2000000) :
    Calls Tryz.prog 33 #[v] w fun e w' => ∃ v' q, e = .returned (.tuple #[v', .int .i64 q]) ∧ Below w.heap.size w w' ∧ SpansIs w' w.heap.size v' q (allAns l) (fun k => mem (l.map cspan) k) := by
  have hfirst := first_any l hs v w hv (by omega)
  have hnamed := fun W (h : RdC W W.heap.size v l) => named_any l hs v W h hl
  have HF := Lib.hid hfirst; clear hfirst
  have HN := Lib.hid hnamed; clear hnamed
  have HV := Lib.hid hv; clear hv
  clear hs
  generalize allAns l = q at HF ⊢
  go_enter Tryz.func33, Tryz.ntmps33
  go_wp2_with fail
  refine HF.out.mono ?_
  rintro e w1 ⟨rfl, hb1⟩
  have HV1 := Lib.hid (HV.out.next hb1)
  have HB1 := Lib.hid hb1; clear hb1
  by_cases h0 : q = 0
  · subst h0
    go_wp2_with fail
    refine (HN.out w1 HV1.out).mono ?_
    rintro e w2 ⟨v2, R, rfl, ho2, hb2, hf2, hl2⟩
    have HO2 := Lib.hid (ho2.lower HB1.out.size); clear ho2
    have HB2 := Lib.hid (HB1.out.trans (hb2.mono HB1.out.size)); clear hb2
    have HF2 := Lib.hid hf2; clear hf2
    have HL2 := Lib.hid hl2; clear hl2
    go_wp2_with fail
    go_ret2
    exact ⟨_, _, rfl, HB2.out, SpansIs.ok HO2.out HF2.out HL2.out⟩
  · have H0 := Lib.hid h0
    go_wp2_with fail
    go_ret2
    exact ⟨_, _, rfl, HB1.out, SpansIs.err H0.out⟩
end Go.Proofs.YtgppgecglkellaaGreat
namespace Go.Proofs.YtgppgecglkellaaGreat
open Go.RowKit
attribute [local go_sem] less_eq same_eq le_eq ge_eq gt_eq

/-- what is known of the first i that were written -/
def LastTo (L : List Wr) (floor : Int) (s : K × K) (i : Nat) (n : Int) : Prop :=
  (n = 0 ∨ (floor < n ∧ ∃ j k x, j < i ∧ L[j]? = some x ∧ Left L j k ∧ has s k ∧ x.v = n)) ∧ ∀ j k x, j < i → L[j]? = some x → Left L j k → has s k → x.v ≤ floor ∨ x.v ≤ n
theorem LastTo.start (L : List Wr) (floor : Int) (s : K × K) : LastTo L floor s 0 0 := ⟨.inl rfl, fun j _ _ h => by omega⟩
theorem LastTo.keep {L : List Wr} {floor : Int} {s : K × K} {i : Nat} {n : Int} (h : LastTo L floor s i n) (hi : i < L.length) (hs : L[i].v ≤ floor ∨ L[i].v ≤ n ∨ ∀ k, Left L i k → ¬ has s k) : LastTo L floor s (i + 1) n := by
  refine ⟨?_, fun j k x hj hx hl hk => ?_⟩
  · rcases h.1 with h1 | ⟨h1, j, k, x, hj, r⟩
    · exact .inl h1
    · exact .inr ⟨h1, j, k, x, by omega, r⟩
  · by_cases e : j = i
    · subst e
      rw [List.getElem?_eq_getElem hi] at hx
      injection hx with hx
      subst hx
      rcases hs with hs | hs | hs
      · exact .inl hs
      · exact .inr hs
      · exact absurd hk (hs k hl)
    · exact h.2 j k x (by omega) hx hl hk
theorem LastTo.rise {L : List Wr} {floor : Int} {s : K × K} {i : Nat} {n : Int} (h : LastTo L floor s i n) (hi : i < L.length) (h1 : floor < L[i].v) (h2 : n < L[i].v) {k : K} (hl : Left L i k) (hk : has s k) : LastTo L floor s (i + 1) L[i].v := by
  refine ⟨.inr ⟨h1, i, k, _, by omega, List.getElem?_eq_getElem hi, hl, hk, rfl⟩, fun j k x hj hx hl hk => ?_⟩
  by_cases e : j = i
  · subst e
    rw [List.getElem?_eq_getElem hi] at hx
    injection hx with hx
    subst hx
    exact .inr (Int.le_refl _)
  · rcases h.2 j k x (by omega) hx hl hk with h3 | h3
    · exact .inl h3
    · exact .inr (by omega)
theorem LastTo.whole {L : List Wr} {m : Mk} {s : K × K} {n : Int} (h : LastTo L m.floor s L.length n) (hf : ver L = m.f) (h0 : 0 ≤ m.floor) : LastIs m s n := by
  have hall : ∀ k, has s k → m.f k ≤ m.floor ∨ m.f k ≤ n := fun k hk => by
    rw [← hf]
    rcases ver_cases L k with ⟨e, _⟩ | ⟨j, x, hx, hl, e⟩
    · rw [e]; exact .inl h0
    · rw [e]; exact h.2 j k x (List.getElem?_eq_some_iff.1 hx).1 hx hl hk
  rcases h.1 with h1 | ⟨h1, j, k, x, _, hx, hl, hk, e⟩
  · refine .inl ⟨h1, fun k hk => ?_⟩
    rcases hall k hk with h2 | h2 <;> omega
  · refine .inr ⟨h1, ⟨k, hk, by rw [← hf, ver_left hl hx, e]⟩, fun k hk => ?_⟩
    rcases hall k hk with h2 | h2 <;> omega
/-- two spans have a key both just if what they have both is not empty -/
def meets (a b : K × K) : Bool := decide ((meet a b).1 < (meet a b).2)
theorem meets_iff (a b : K × K) : meets a b = true ↔ ∃ k, has a k ∧ has b k := by
  unfold meets meet
  by_cases h : mn a.2 b.2 ≤ mx a.1 b.1
  · rw [if_pos h]
    constructor
    · intro h1
      simp only [decide_eq_true_eq] at h1
      exact absurd h1 (by grind)
    · rintro ⟨k, h1, h2⟩
      exfalso
      unfold has at h1 h2
      rcases mx_cases a.1 b.1 with ⟨e1, e2⟩ | ⟨e1, e2⟩ <;> rcases mn_cases a.2 b.2 with ⟨e3, e4⟩ | ⟨e3, e4⟩ <;> rw [e2, e4] at h <;> grind
  · rw [if_neg h]
    simp only [decide_eq_true_eq]
    constructor
    · intro _
      refine ⟨mx a.1 b.1, ?_⟩
      unfold has
      rcases mx_cases a.1 b.1 with ⟨e1, e2⟩ | ⟨e1, e2⟩ <;> rcases mn_cases a.2 b.2 with ⟨e3, e4⟩ | ⟨e3, e4⟩ <;> rw [e2, e4] at h <;> rw [e2] <;> grind
    · intro _
      grind

set_option maxHeartbeats 8000000 in
set_option maxRecDepth 100000 in
theorem rmlast_any (r : Nat) (floor most : Int) (L : List Wr) (s : K × K) (hl : L.length ≤ 90000) (w : World) (h : RmRd w r floor most L) :
    Calls Tryz.prog 36 #[.pointer (some ⟨r, 0, none⟩), .agg #[.string s.1, .string s.2]] w fun e w' => ∃ n, e = .returned (.tuple #[.int .i64 n, .bool (decide (0 < n))]) ∧ LastTo L floor s L.length n ∧ Below w.heap.size w w' := by
  obtain ⟨sf, st⟩ := s
  simp only
  have hb0 : Below w.heap.size w (w.alloc (.cells #[.string sf, .string st] 52)) := (Below.refl _ w).alloc (Nat.le_refl _) _
  have hB0 : Whole (w.alloc (.cells #[.string sf, .string st] 52)) w.heap.size 52 [.string sf, .string st] := Whole.fresh w _ [_, _]
  have h0 := h.below hb0 (Nat.le_refl _)
  have hz0 : (w.alloc (.cells #[.string sf, .string st] 52)).heap.size = w.heap.size + 1 := by simp
  have HB0 := Lib.hid hb0
  have HS0 := Lib.hid hB0
  have HR0 := Lib.hid h0
  have HZ0 := Lib.hid hz0
  clear h hb0 hB0 h0 hz0
  go_enter Tryz.func36, Tryz.ntmps36
  go_wp2_with fail
  generalize w.alloc (.cells #[.string sf, .string st] 52) = w0 at HB0 HS0 HR0 HZ0 ⊢
  go_loopw [6, 7] (fun nv iv wr => ∃ (i : Nat) (n : Int), i ≤ L.length ∧ iv = .int .i64 (i : Int) ∧ nv = .int .i64 n ∧ LastTo L floor (sf, st) i n ∧ Below w0.heap.size w0 wr) (fun _ iv _ => L.length - (intOf iv).toNat)
  case atStart => exact ⟨0, 0, Nat.zero_le _, rfl, rfl, LastTo.start _ _ _, Below.refl _ _⟩
  case round =>
    obtain ⟨i, n, hil, rfl, rfl, hlt, hbw⟩ := hrel
    have hz := hbw.size
    have hz00 := HZ0.out
    obtain ⟨A, cap, hw, hrd⟩ := HR0.out
    have hrs := hw.size
    have c0 := (hw.below hbw hrs).cell 0 _ rfl
    have HRR := Lib.hid (HR0.out.below hbw (Nat.le_refl _))
    have HLT := Lib.hid hlt
    have HBW := Lib.hid hbw
    obtain ⟨_, _, e, hcc, hi⟩ := hrd.at
    injection e with e1 e2 e3
    subst e1 e3
    by_cases hlen : i < L.length
    · obtain ⟨b, o, rfl, hbB, k0, k1, k2⟩ := hi i hlen
      obtain ⟨v, hv⟩ : ∃ v, L[i].v = v := ⟨_, rfl⟩
      rw [hv] at k2
      have q0 : ∀ W, Below wr.heap.size wr W → W.cell? ⟨r, 0, none⟩ = some (.slice (some ⟨b, o, none⟩) L.length cap) := fun W hW => ((hw.below hbw hrs).below hW (Nat.lt_of_lt_of_le hrs hz)).cell 0 _ rfl
      have q1 : ∀ W, Below wr.heap.size wr W → W.cell? ⟨r, 1, none⟩ = some (.int .i64 floor) := fun W hW => ((hw.below hbw hrs).below hW (Nat.lt_of_lt_of_le hrs hz)).cell 1 _ rfl
      have q2 : ∀ W, Below wr.heap.size wr W → W.cell? ⟨b, o + i * 3 + 2, none⟩ = some (.int .i64 v) := fun W hW => (hW.cell (p := ⟨b, o + i * 3 + 2, none⟩) (Nat.lt_of_lt_of_le hbB hz)).trans ((hbw.cell (p := ⟨b, o + i * 3 + 2, none⟩) hbB).trans k2)
      have HQ0 := Lib.hid q0
      have HQ1 := Lib.hid q1
      have HQ2 := Lib.hid q2
      have h0 : (0 : Int) ≤ (i : Int) := by omega
      have h1 : (i : Int) < (L.length : Int) := by omega
      have h2 : IntKind.i64.wrap ((i : Int) + 1) = ((i + 1 : Nat) : Int) := by rw [IntKind.wrap_i64]; omega
      have HLEN := Lib.hid hlen
      have hkeep : (v ≤ floor ∨ v ≤ n ∨ ∀ k, Left L i k → ¬ has (sf, st) k) → LastTo L floor (sf, st) (i + 1) n := fun hs => LastTo.keep hlt hlen (by rw [hv]; exact hs)
      have hrise : floor < v → n < v → ∀ k, Left L i k → has (sf, st) k → LastTo L floor (sf, st) (i + 1) v := fun a b k hl hk => by rw [← hv] at a b ⊢; exact LastTo.rise hlt hlen a b (k := k) hl hk
      have HKEEP := Lib.hid hkeep
      have HRISE := Lib.hid hrise
      have hleft := rmleft_any r floor most L i hlen hl wr.drew HRR.out
      have HLEFT := Lib.hid hleft
      clear k0 k1 k2 hi hw hbw hrd hlt q0 q1 q2 hkeep hrise hleft hv hcc e2
      have hd0 : Below wr.heap.size wr wr.drew := (Below.refl _ wr).drew
      by_cases hA : v ≤ floor
      · have hAb := decide_eq_true hA
        go_wp2_with fail
        refine wp_region_planB [(true, 0), (true, 1), (true, 2), (true, 3), (true, 4), (true, 5), (true, 6), (true, 7), (true, 8), (true, 9), (true, 10), (true, 11), (true, 12), (true, 13), (true, 14), (true, 15), (true, 16), (true, 17), (true, 18), (true, 19), (true, 20), (true, 21), (true, 22), (true, 23), (true, 24)] (by kernel_rfl) (by kernel_rfl) (fun _ _ d _ _ h => by cases d <;> exact h) ?_
        repeat (first | (refine PlanB.take (v := ?_) rfl rfl ?_ ?_; rotate_left; (focus (intro W hW; have k0 := HQ0.out W (hd0.trans hW); have k1 := HQ1.out W (hd0.trans hW); have k2 := HQ2.out W (hd0.trans hW); go_simp; (try with_reducible rfl); done)); (try simp only [Act.put, List.setIfInBounds_toArray, List.set_cons_zero, List.set_cons_succ])) | (refine PlanB.skip rfl rfl ?_; (try simp only [Act.put, List.setIfInBounds_toArray, List.set_cons_zero, List.set_cons_succ])))
        simp only [PlanB]
        go_wp2_with fail
        go_roundw
        case rel => exact ⟨i + 1, n, by omega, rfl, rfl, HKEEP.out (.inl hA), HBW.out.drew⟩
        case measure => simp [intOf]; omega
      have hAb : decide (v ≤ floor) = false := decide_eq_false hA
      by_cases hB : v ≤ n
      · have hBb := decide_eq_true hB
        go_wp2_with fail
        refine wp_region_planB [(true, 0), (true, 1), (true, 2), (true, 3), (true, 4), (true, 5), (true, 6), (true, 7), (true, 8), (true, 9), (true, 10), (true, 11), (true, 12), (true, 13), (true, 14), (true, 15), (true, 16), (true, 17), (true, 18), (true, 19), (true, 20), (true, 21), (true, 22), (true, 23), (true, 24)] (by kernel_rfl) (by kernel_rfl) (fun _ _ d _ _ h => by cases d <;> exact h) ?_
        repeat (first | (refine PlanB.take (v := ?_) rfl rfl ?_ ?_; rotate_left; (focus (intro W hW; have k0 := HQ0.out W (hd0.trans hW); have k1 := HQ1.out W (hd0.trans hW); have k2 := HQ2.out W (hd0.trans hW); go_simp; (try with_reducible rfl); done)); (try simp only [Act.put, List.setIfInBounds_toArray, List.set_cons_zero, List.set_cons_succ])) | (refine PlanB.skip rfl rfl ?_; (try simp only [Act.put, List.setIfInBounds_toArray, List.set_cons_zero, List.set_cons_succ])))
        simp only [PlanB]
        go_wp2_with fail
        go_roundw
        case rel => exact ⟨i + 1, n, by omega, rfl, rfl, HKEEP.out (.inr (.inl hB)), HBW.out.drew⟩
        case measure => simp [intOf]; omega
      have hBb : decide (v ≤ n) = false := decide_eq_false hB
      go_wp2_with fail
      refine wp_region_planB [(true, 0), (true, 1), (true, 2), (true, 3), (true, 4), (true, 5), (true, 6), (true, 7), (true, 8), (true, 9), (true, 10), (true, 11), (true, 12), (true, 13), (true, 14), (true, 15), (true, 16), (true, 17), (true, 18), (true, 19), (true, 20), (true, 21), (true, 22), (true, 23), (true, 24)] (by kernel_rfl) (by kernel_rfl) (fun _ _ d _ _ h => by cases d <;> exact h) ?_
      repeat (first | (refine PlanB.take (v := ?_) rfl rfl ?_ ?_; rotate_left; (focus (intro W hW; have k0 := HQ0.out W (hd0.trans hW); have k1 := HQ1.out W (hd0.trans hW); have k2 := HQ2.out W (hd0.trans hW); go_simp; (try with_reducible rfl); done)); (try simp only [Act.put, List.setIfInBounds_toArray, List.set_cons_zero, List.set_cons_succ])) | (refine PlanB.skip rfl rfl ?_; (try simp only [Act.put, List.setIfInBounds_toArray, List.set_cons_zero, List.set_cons_succ])))
      simp only [PlanB]
      go_wp2_with (go_at_call 53; refine HLEFT.out.mono ?_; rintro e w2 ⟨v2, R, rfl, ho2, hb2, hf2, hl2⟩)
      have hw2 : Below wr.heap.size wr w2 := hd0.trans hb2
      have HO2 := Lib.hid ho2.rd
      have HF2 := Lib.hid hf2
      have HBW2 := Lib.hid (show Below w0.heap.size w0 w2 from HBW.out.trans (hw2.mono HBW.out.size))
      have p0 : ∀ W, Below w2.heap.size w2 W → W.cell? ⟨r, 0, none⟩ = some (.slice (some ⟨b, o, none⟩) L.length cap) := fun W hW => HQ0.out W (hw2.trans (hW.mono hw2.size))
      have p1 : ∀ W, Below w2.heap.size w2 W → W.cell? ⟨b, o + i * 3 + 2, none⟩ = some (.int .i64 v) := fun W hW => HQ2.out W (hw2.trans (hW.mono hw2.size))
      have HP0 := Lib.hid p0
      have HP1 := Lib.hid p1
      clear ho2 hb2 hf2 hw2 p0 p1 HQ0 HQ1 HQ2 HLEFT HRR HBW hd0
      obtain ⟨A2, c2, rfl, hc2, hi2⟩ := HO2.out
      have HI2 := Lib.hid hi2
      clear hi2
      go_loopw [6, 9] (fun nv kv wr => ∃ (q : Nat) (n' : Int), q ≤ R.length ∧ kv = .int .i64 (q : Int) ∧ nv = .int .i64 n' ∧ ((n' = n ∧ ∀ x ∈ R.take q, meets x (sf, st) = false) ∨ (n' = v ∧ ∃ x ∈ R, meets x (sf, st) = true)) ∧ Below w2.heap.size w2 wr) (fun _ kv _ => R.length - (intOf kv).toNat)
      case atStart => exact ⟨0, n, Nat.zero_le _, rfl, rfl, .inl ⟨rfl, by simp⟩, Below.refl _ _⟩
      case round =>
        obtain ⟨q, n', hq, rfl, rfl, hor, hbq⟩ := hrel
        have HBQ := Lib.hid hbq
        have HOR := Lib.hid hor
        clear hbq hor
        by_cases hqr : q < R.length
        · obtain ⟨b2, o2, rfl, hb2, g0, g1⟩ := HI2.out q R[q] (List.getElem?_eq_getElem hqr)
          have hmem := List.getElem_mem hqr
          have hno : meets R[q] (sf, st) = false → ((n' = n ∧ ∀ x ∈ R.take (q + 1), meets x (sf, st) = false) ∨ (n' = v ∧ ∃ x ∈ R, meets x (sf, st) = true)) := fun h => by
            rcases HOR.out with ⟨h1, h2⟩ | h1
            · refine .inl ⟨h1, fun x hx => ?_⟩
              rw [List.take_add_one, List.getElem?_eq_getElem hqr, List.mem_append] at hx
              rcases hx with hx | hx
              · exact h2 x hx
              · simp only [Option.toList_some, List.mem_singleton] at hx; rw [hx]; exact h
            · exact .inr h1
          have hyes : meets R[q] (sf, st) = true → ∃ x ∈ R, meets x (sf, st) = true := fun h => ⟨_, hmem, h⟩
          have hmt := fun W => rmeet_any R[q] (sf, st) W
          unfold meets at hno hyes
          generalize R[q] = x at g0 g1 hno hyes hmt
          obtain ⟨xf, xt⟩ := x
          simp only at g0 g1
          unfold spv at hmt
          generalize meet (xf, xt) (sf, st) = mt0 at hno hyes hmt
          obtain ⟨mf, mt⟩ := mt0
          simp only at hno hyes hmt
          have hws := HBQ.out.size
          have hK0 : ∀ W, Below wr.heap.size wr W → W.cell? ⟨b2, o2 + q * 2, none⟩ = some (.string xf) := fun W hW => (hW.cell (p := ⟨b2, o2 + q * 2, none⟩) (Nat.lt_of_lt_of_le hb2 hws)).trans ((HBQ.out.cell (p := ⟨b2, o2 + q * 2, none⟩) hb2).trans g0)
          have hK1 : ∀ W, Below wr.heap.size wr W → W.cell? ⟨b2, o2 + q * 2 + 1, none⟩ = some (.string xt) := fun W hW => (hW.cell (p := ⟨b2, o2 + q * 2 + 1, none⟩) (Nat.lt_of_lt_of_le hb2 hws)).trans ((HBQ.out.cell (p := ⟨b2, o2 + q * 2 + 1, none⟩) hb2).trans g1)
          have hbx : Below w0.heap.size w0 wr := HBW2.out.trans (HBQ.out.mono HBW2.out.size)
          have hbxs : w.heap.size < wr.heap.size := by have := hbx.size; have := HZ0.out; omega
          have hbox : Whole wr w.heap.size 52 [.string sf, .string st] := HS0.out.below hbx (by have := HZ0.out; omega)
          have hK2 : ∀ W, Below wr.heap.size wr W → W.cell? ⟨w.heap.size, 0, none⟩ = some (.string sf) := fun W hW => (hbox.below hW hbxs).cell 0 _ rfl
          have hK3 : ∀ W, Below wr.heap.size wr W → W.cell? ⟨w.heap.size, 1, none⟩ = some (.string st) := fun W hW => (hbox.below hW hbxs).cell 1 _ rfl
          have hR0 : ∀ W, Below wr.heap.size wr W → W.cell? ⟨r, 0, none⟩ = some (.slice (some ⟨b, o, none⟩) L.length cap) := fun W hW => HP0.out W (HBQ.out.trans (hW.mono hws))
          have hR1 : ∀ W, Below wr.heap.size wr W → W.cell? ⟨b, o + i * 3 + 2, none⟩ = some (.int .i64 v) := fun W hW => HP1.out W (HBQ.out.trans (hW.mono hws))
          have K0 := Lib.hid hK0
          have K1 := Lib.hid hK1
          have K2 := Lib.hid hK2
          have K3 := Lib.hid hK3
          have R0 := Lib.hid hR0
          have R1 := Lib.hid hR1
          have HMEET := Lib.hid hmt
          have j0 : (0 : Int) ≤ (q : Int) := by omega
          have j1 : (q : Int) < (R.length : Int) := by omega
          have j2 : IntKind.i64.wrap ((q : Int) + 1) = ((q + 1 : Nat) : Int) := by rw [IntKind.wrap_i64]; omega
          clear hK0 hK1 hK2 hK3 hR0 hR1 hmt g0 g1 hmem hbx hbox hws hbxs hb2
          by_cases hmm : mf < mt
          · have HYES := Lib.hid (hyes (decide_eq_true hmm))
            have hmb := decide_eq_true hmm
            clear hno hyes
            go_wp2_with fail
            refine wp_region_planT (fun W => Below wr.heap.size wr W) (.take 0 (.take 1 (.take 2 (.take 3 (.take 4 (.fork 5 (.step 6 (.step 7 .done)) 6 (.step 5 (.step 7 .done)))))))) (by kernel_rfl) (by kernel_rfl) (fun _ _ d _ _ h => by cases d <;> exact h) ((Below.refl _ _).drew) ?_
            repeat (first | (refine PlanT.takeI (v := ?_) rfl rfl ?_ ?_; rotate_left; (focus (intro W hW; have k0 := K0.out W hW; have k1 := K1.out W hW; have k2 := K2.out W hW; have k3 := K3.out W hW; go_simp; (try with_reducible rfl); done)); (try simp only [Act.put, List.setIfInBounds_toArray, List.set_cons_zero, List.set_cons_succ])) | (refine PlanT.skip rfl rfl ?_; (try simp only [Act.put, List.setIfInBounds_toArray, List.set_cons_zero, List.set_cons_succ])))
            refine ⟨wpOp_stepT rfl rfl (fun Kk hK => ?_), wpOp_stepT rfl rfl (fun Kk hK => ?_)⟩
            · go_simp
              go_at_call 54
              refine (HMEET.out _).mono ?_
              rintro e w3 ⟨rfl, hb3⟩
              have hb3' : Below wr.heap.size wr w3 := ((Below.refl _ wr).drew).trans hb3
              refine hK.out _ _ hb3' ?_
              clear hK Kk
              refine wpOp_stepT rfl rfl (fun Kk hK => ?_)
              go_simp
              refine hK.out _ _ (hb3'.alloc hb3'.size _) ?_
              clear hK Kk
              refine wpOp_stepT rfl rfl (fun Kk hK => ?_)
              have HNEW := Lib.hid (Whole.fresh w3 52 [.string mf, .string mt])
              go_simp
              refine hK.out _ _ (hb3'.alloc hb3'.size _) ?_
              clear hK Kk
              simp only [PlanT]
              have hfin : Below wr.heap.size wr (w3.alloc (.cells #[.string mf, .string mt] 52)) := hb3'.alloc hb3'.size _
              have e0 := (HNEW.out).cell 0 _ rfl
              have e1 := (HNEW.out).cell 1 _ rfl
              have r0 := R0.out _ hfin
              have r1 := R1.out _ hfin
              have HFIN := Lib.hid hfin
              generalize w3.alloc (.cells #[.string mf, .string mt] 52) = w9 at HFIN HNEW e0 e1 r0 r1 ⊢
              clear hfin
              go_wp2_with fail
              go_roundw
              case rel => exact ⟨q + 1, v, by omega, rfl, rfl, .inr ⟨rfl, HYES.out⟩, HBQ.out.trans (HFIN.out.mono HBQ.out.size)⟩
              case measure => simp [intOf]; omega
            · go_simp
              refine hK.out _ _ ((((Below.refl _ wr).alloc (Nat.le_refl _) _)).drew) ?_
              clear hK Kk
              refine wpOp_stepT rfl rfl (fun Kk hK => ?_)
              go_simp
              go_at_call 54
              refine (HMEET.out _).mono ?_
              rintro e w3 ⟨rfl, hb3⟩
              have hn0 := ((Whole.fresh wr 52 [.string ⟨#[]⟩, .string ⟨#[]⟩]).drew).below hb3 (by simp [World.drew])
              have hb3' : Below wr.heap.size wr w3 := ((((Below.refl _ wr).alloc (Nat.le_refl _) (.cells #[.string ⟨#[]⟩, .string ⟨#[]⟩] 52))).drew).trans (hb3.mono (by simp [World.drew]))
              refine hK.out _ _ hb3' ?_
              clear hK Kk
              refine wpOp_stepT rfl rfl (fun Kk hK => ?_)
              have HNEW := Lib.hid ((hn0.put 0 (.string mf)).put 1 (.string mt))
              have z0 := hn0.cell 0 _ rfl
              have z1 := hn0.cell 1 _ rfl
              have y0 := hn0.frozen 0
              have y1 := hn0.frozen 1
              have z2 := (hn0.put 0 (.string mf)).cell 1 _ rfl
              have y2 := (hn0.put 0 (.string mf)).frozen 1
              clear hn0
              go_simp
              refine hK.out _ _ ((hb3'.setCell (Nat.le_refl _) _).setCell (Nat.le_refl _) _) ?_
              clear hK Kk z0 z1 y0 y1 z2 y2
              simp only [PlanT]
              have hfin : Below wr.heap.size wr ((w3.setCell ⟨wr.heap.size, 0, none⟩ (.string mf)).setCell ⟨wr.heap.size, 1, none⟩ (.string mt)) := (hb3'.setCell (p := ⟨wr.heap.size, 0, none⟩) (Nat.le_refl _) _).setCell (p := ⟨wr.heap.size, 1, none⟩) (Nat.le_refl _) _
              have e0 := (HNEW.out).cell 0 _ rfl
              have e1 := (HNEW.out).cell 1 _ rfl
              have r0 := R0.out _ hfin
              have r1 := R1.out _ hfin
              have HFIN := Lib.hid hfin
              generalize (w3.setCell ⟨wr.heap.size, 0, none⟩ (.string mf)).setCell ⟨wr.heap.size, 1, none⟩ (.string mt) = w9 at HFIN HNEW e0 e1 r0 r1 ⊢
              clear hfin
              go_wp2_with fail
              go_roundw
              case rel => exact ⟨q + 1, v, by omega, rfl, rfl, .inr ⟨rfl, HYES.out⟩, HBQ.out.trans (HFIN.out.mono HBQ.out.size)⟩
              case measure => simp [intOf]; omega
          · have HNO := Lib.hid (hno (decide_eq_false hmm))
            have hmb := decide_eq_false hmm
            clear hno hyes
            go_wp2_with fail
            refine wp_region_planT (fun W => Below wr.heap.size wr W) (.take 0 (.take 1 (.take 2 (.take 3 (.take 4 (.fork 5 (.step 6 (.step 7 .done)) 6 (.step 5 (.step 7 .done)))))))) (by kernel_rfl) (by kernel_rfl) (fun _ _ d _ _ h => by cases d <;> exact h) ((Below.refl _ _).drew) ?_
            repeat (first | (refine PlanT.takeI (v := ?_) rfl rfl ?_ ?_; rotate_left; (focus (intro W hW; have k0 := K0.out W hW; have k1 := K1.out W hW; have k2 := K2.out W hW; have k3 := K3.out W hW; go_simp; (try with_reducible rfl); done)); (try simp only [Act.put, List.setIfInBounds_toArray, List.set_cons_zero, List.set_cons_succ])) | (refine PlanT.skip rfl rfl ?_; (try simp only [Act.put, List.setIfInBounds_toArray, List.set_cons_zero, List.set_cons_succ])))
            refine ⟨wpOp_stepT rfl rfl (fun Kk hK => ?_), wpOp_stepT rfl rfl (fun Kk hK => ?_)⟩
            · go_simp
              go_at_call 54
              refine (HMEET.out _).mono ?_
              rintro e w3 ⟨rfl, hb3⟩
              have hb3' : Below wr.heap.size wr w3 := ((Below.refl _ wr).drew).trans hb3
              refine hK.out _ _ hb3' ?_
              clear hK Kk
              refine wpOp_stepT rfl rfl (fun Kk hK => ?_)
              go_simp
              refine hK.out _ _ (hb3'.alloc hb3'.size _) ?_
              clear hK Kk
              refine wpOp_stepT rfl rfl (fun Kk hK => ?_)
              have HNEW := Lib.hid (Whole.fresh w3 52 [.string mf, .string mt])
              go_simp
              refine hK.out _ _ (hb3'.alloc hb3'.size _) ?_
              clear hK Kk
              simp only [PlanT]
              have hfin : Below wr.heap.size wr (w3.alloc (.cells #[.string mf, .string mt] 52)) := hb3'.alloc hb3'.size _
              have e0 := (HNEW.out).cell 0 _ rfl
              have e1 := (HNEW.out).cell 1 _ rfl
              have r0 := R0.out _ hfin
              have r1 := R1.out _ hfin
              have HFIN := Lib.hid hfin
              generalize w3.alloc (.cells #[.string mf, .string mt] 52) = w9 at HFIN HNEW e0 e1 r0 r1 ⊢
              clear hfin
              go_wp2_with fail
              go_roundw
              case rel => exact ⟨q + 1, n', by omega, rfl, rfl, HNO.out, HBQ.out.trans (HFIN.out.mono HBQ.out.size)⟩
              case measure => simp [intOf]; omega
            · go_simp
              refine hK.out _ _ ((((Below.refl _ wr).alloc (Nat.le_refl _) _)).drew) ?_
              clear hK Kk
              refine wpOp_stepT rfl rfl (fun Kk hK => ?_)
              go_simp
              go_at_call 54
              refine (HMEET.out _).mono ?_
              rintro e w3 ⟨rfl, hb3⟩
              have hn0 := ((Whole.fresh wr 52 [.string ⟨#[]⟩, .string ⟨#[]⟩]).drew).below hb3 (by simp [World.drew])
              have hb3' : Below wr.heap.size wr w3 := ((((Below.refl _ wr).alloc (Nat.le_refl _) (.cells #[.string ⟨#[]⟩, .string ⟨#[]⟩] 52))).drew).trans (hb3.mono (by simp [World.drew]))
              refine hK.out _ _ hb3' ?_
              clear hK Kk
              refine wpOp_stepT rfl rfl (fun Kk hK => ?_)
              have HNEW := Lib.hid ((hn0.put 0 (.string mf)).put 1 (.string mt))
              have z0 := hn0.cell 0 _ rfl
              have z1 := hn0.cell 1 _ rfl
              have y0 := hn0.frozen 0
              have y1 := hn0.frozen 1
              have z2 := (hn0.put 0 (.string mf)).cell 1 _ rfl
              have y2 := (hn0.put 0 (.string mf)).frozen 1
              clear hn0
              go_simp
              refine hK.out _ _ ((hb3'.setCell (Nat.le_refl _) _).setCell (Nat.le_refl _) _) ?_
              clear hK Kk z0 z1 y0 y1 z2 y2
              simp only [PlanT]
              have hfin : Below wr.heap.size wr ((w3.setCell ⟨wr.heap.size, 0, none⟩ (.string mf)).setCell ⟨wr.heap.size, 1, none⟩ (.string mt)) := (hb3'.setCell (p := ⟨wr.heap.size, 0, none⟩) (Nat.le_refl _) _).setCell (p := ⟨wr.heap.size, 1, none⟩) (Nat.le_refl _) _
              have e0 := (HNEW.out).cell 0 _ rfl
              have e1 := (HNEW.out).cell 1 _ rfl
              have r0 := R0.out _ hfin
              have r1 := R1.out _ hfin
              have HFIN := Lib.hid hfin
              generalize (w3.setCell ⟨wr.heap.size, 0, none⟩ (.string mf)).setCell ⟨wr.heap.size, 1, none⟩ (.string mt) = w9 at HFIN HNEW e0 e1 r0 r1 ⊢
              clear hfin
              go_wp2_with fail
              go_roundw
              case rel => exact ⟨q + 1, n', by omega, rfl, rfl, HNO.out, HBQ.out.trans (HFIN.out.mono HBQ.out.size)⟩
              case measure => simp [intOf]; omega
        · obtain rfl : q = R.length := by omega
          have hnext : LastTo L floor (sf, st) (i + 1) n' := by
            rcases HOR.out with ⟨rfl, h2⟩ | ⟨rfl, x, hx, hxm⟩
            · rw [List.take_length] at h2
              refine HKEEP.out (.inr (.inr fun k hk hs => ?_))
              obtain ⟨y, hy, hyk⟩ := (HF2.out.2 k).2 hk
              have := h2 y hy
              rw [(meets_iff y (sf, st)).2 ⟨k, hyk, hs⟩] at this
              cases this
            · obtain ⟨k, hk1, hk2⟩ := (meets_iff x (sf, st)).1 hxm
              exact HRISE.out (by omega) (by omega) k ((HF2.out.2 k).1 ⟨x, hx, hk1⟩) hk2
          have HNEXT := Lib.hid hnext
          have HBF := Lib.hid (show Below w0.heap.size w0 wr from HBW2.out.trans (HBQ.out.mono HBW2.out.size))
          clear hnext
          go_wp2_with fail
          go_roundw
          case rel => exact ⟨i + 1, n', by omega, rfl, rfl, HNEXT.out, HBF.out⟩
          case measure => simp [intOf]; omega
    · obtain rfl : i = L.length := by omega
      have HFB := Lib.hid (show Below w.heap.size w wr from HB0.out.trans (HBW.out.mono (by omega)))
      clear hi hw hbw hrd hlt hcc e2
      by_cases hn0 : 0 < n
      · have hnb := decide_eq_true hn0
        go_wp2_with fail
        exact bodyPost_ret (v := .tuple #[.int .i64 n, .bool true]) (by simp [results, Tryz.results36, go_sem]) rfl ⟨n, by rw [hnb], HLT.out, HFB.out⟩
      · have hnb := decide_eq_false hn0
        go_wp2_with fail
        exact bodyPost_ret (v := .tuple #[.int .i64 n, .bool false]) (by simp [results, Tryz.results36, go_sem]) rfl ⟨n, by rw [hnb], HLT.out, HFB.out⟩
end Go.Proofs.YtgppgecglkellaaGreat
namespace Go.Proofs.YtgppgecglkellaaGreat
open Go.RowKit

set_option maxHeartbeats 8000000 in
set_option maxRecDepth 100000 in
theorem rmverdict_any (r : Nat) (L : List Wr) (m : Mk) (hf : ver L = m.f) (hok : m.Ok) (hl : L.length ≤ 90000) (t : Txn) (hs : soundT t) (v1 v2 : Value) (w : World) (h : RmRd w r m.floor m.most L) (hv1 : RdP w w.heap.size v1 t.reads) :
    Calls Tryz.prog 28 #[.pointer (some ⟨r, 0, none⟩), tval t v1 v2] w fun e w' => e = .returned (.int .i64 (verd m t)) ∧ Below w.heap.size w w' := by
  obtain ⟨read, reads, chgs⟩ := t
  obtain ⟨R, hR⟩ : ∃ R, R = verd m ⟨read, reads, chgs⟩ := ⟨_, rfl⟩
  rw [← hR]
  unfold verd at hR
  unfold tval
  simp only at hR hv1 ⊢
  have hrd0 : 0 ≤ read := hs.1
  have hrl : reads.length ≤ 24 := hs.2.1
  obtain ⟨A1, c1, rfl, hc1, hi⟩ := hv1.at
  have hb0 : Below w.heap.size w (w.alloc (.cells #[.int .i64 read, .slice A1 reads.length c1, v2] 47)) := (Below.refl _ w).alloc (Nat.le_refl _) _
  have hB0 : Whole (w.alloc (.cells #[.int .i64 read, .slice A1 reads.length c1, v2] 47)) w.heap.size 47 [.int .i64 read, .slice A1 reads.length c1, v2] := Whole.fresh w _ [_, _, _]
  have h0 := h.below hb0 (Nat.le_refl _)
  have hz0 : (w.alloc (.cells #[.int .i64 read, .slice A1 reads.length c1, v2] 47)).heap.size = w.heap.size + 1 := by simp
  obtain ⟨A, cap, hw, _⟩ := h
  have hrs := hw.size
  have x0 : ∀ W, Below (w.alloc (.cells #[.int .i64 read, .slice A1 reads.length c1, v2] 47)).heap.size (w.alloc (.cells #[.int .i64 read, .slice A1 reads.length c1, v2] 47)) W → W.cell? ⟨w.heap.size, 0, none⟩ = some (.int .i64 read) := fun W hW => (hB0.below hW hB0.size).cell 0 _ rfl
  have x1 : ∀ W, Below (w.alloc (.cells #[.int .i64 read, .slice A1 reads.length c1, v2] 47)).heap.size (w.alloc (.cells #[.int .i64 read, .slice A1 reads.length c1, v2] 47)) W → W.cell? ⟨w.heap.size, 1, none⟩ = some (.slice A1 reads.length c1) := fun W hW => (hB0.below hW hB0.size).cell 1 _ rfl
  have x2 : ∀ W, Below (w.alloc (.cells #[.int .i64 read, .slice A1 reads.length c1, v2] 47)).heap.size (w.alloc (.cells #[.int .i64 read, .slice A1 reads.length c1, v2] 47)) W → W.cell? ⟨r, 1, none⟩ = some (.int .i64 m.floor) := fun W hW => ((hw.below hb0 hrs).below hW (by rw [hz0]; omega)).cell 1 _ rfl
  have hi0 : ∀ i (_ : i < reads.length), ∃ b o, A1 = some ⟨b, o, none⟩ ∧ b < w.heap.size ∧ (w.alloc (.cells #[.int .i64 read, .slice A1 reads.length c1, v2] 47)).cell? ⟨b, o + i * 2, none⟩ = some (.string reads[i].1) ∧ (w.alloc (.cells #[.int .i64 read, .slice A1 reads.length c1, v2] 47)).cell? ⟨b, o + i * 2 + 1, none⟩ = some (.string reads[i].2) := fun i hlt => by
    obtain ⟨b, o, e, hb, k0, k1⟩ := hi i hlt
    exact ⟨b, o, e, hb, (hb0.cell (p := ⟨b, _, none⟩) hb).trans k0, (hb0.cell (p := ⟨b, _, none⟩) hb).trans k1⟩
  have HB0 := Lib.hid hb0
  have HR0 := Lib.hid h0
  have HZ0 := Lib.hid hz0
  have X0 := Lib.hid x0
  have X1 := Lib.hid x1
  have X2 := Lib.hid x2
  have HI := Lib.hid hi0
  clear hb0 hB0 h0 hz0 hw hrs x0 x1 x2 hi0 hi hv1 hs
  go_enter Tryz.func28, Tryz.ntmps28
  go_wp2_with fail
  generalize w.alloc (.cells #[.int .i64 read, .slice A1 reads.length c1, v2] 47) = w0 at HB0 HR0 HZ0 X0 X1 X2 HI ⊢
  have hd0 : Below w0.heap.size w0 w0.drew := (Below.refl _ w0).drew
  have hlt0 : (0 < (reads.length : Int)) ↔ reads ≠ [] := by
    cases reads with
    | nil => simp
    | cons a l => simp
  by_cases hne : reads = []
  · subst hne
    have hR1 : R = 1 := by
      rw [hR, if_neg (by simp), if_neg]
      rintro ⟨s, hs, _⟩
      simp at hs
    have hzz : decide ((0 : Int) < ((([] : List (K × K)).length : Nat) : Int)) = false := by simp
    clear hR hlt0
    refine wp_region_planB [(true, 0), (true, 1), (true, 2), (true, 3), (true, 4), (true, 5), (true, 6), (true, 7), (true, 8), (true, 9), (true, 10), (true, 11), (true, 12)] (by kernel_rfl) (by kernel_rfl) (fun _ _ d _ _ h => by cases d <;> exact h) ?_
    repeat (first | (refine PlanB.take (v := ?_) rfl rfl ?_ ?_; rotate_left; (focus (intro W hW; have k0 := X0.out W (hd0.trans hW); have k1 := X1.out W (hd0.trans hW); have k2 := X2.out W (hd0.trans hW); go_simp; (try with_reducible rfl); done)); (try simp only [Act.put, List.setIfInBounds_toArray, List.set_cons_zero, List.set_cons_succ])) | (refine PlanB.skip rfl rfl ?_; (try simp only [Act.put, List.setIfInBounds_toArray, List.set_cons_zero, List.set_cons_succ])))
    simp only [PlanB]
    have k1 := X1.out _ hd0
    go_wp2_with fail
    refine wp_loop_rounds 1 ?_
    rw [rounds_succ]
    go_wp2_with fail
    go_ret
    exact ⟨by rw [hR1]; rfl, HB0.out.drew⟩
  · have hpos := hlt0.2 hne
    have hposb := decide_eq_true hpos
    have hposn : 0 < reads.length := by omega
    have hposm := decide_eq_true hposn
    by_cases hlate : read < m.floor
    · rw [if_pos ⟨hne, hlate⟩] at hR
      subst hR
      have hlb := decide_eq_true hlate
      clear hlt0 hne
      refine wp_region_planB [(true, 0), (true, 1), (true, 2), (true, 3), (true, 4), (true, 5), (true, 6), (true, 7), (true, 8), (true, 9), (true, 10), (true, 11), (true, 12)] (by kernel_rfl) (by kernel_rfl) (fun _ _ d _ _ h => by cases d <;> exact h) ?_
      repeat (first | (refine PlanB.take (v := ?_) rfl rfl ?_ ?_; rotate_left; (focus (intro W hW; have k0 := X0.out W (hd0.trans hW); have k1 := X1.out W (hd0.trans hW); have k2 := X2.out W (hd0.trans hW); go_simp; (try with_reducible rfl); done)); (try simp only [Act.put, List.setIfInBounds_toArray, List.set_cons_zero, List.set_cons_succ])) | (refine PlanB.skip rfl rfl ?_; (try simp only [Act.put, List.setIfInBounds_toArray, List.set_cons_zero, List.set_cons_succ])))
      simp only [PlanB]
      go_wp2_with fail
      go_ret
      exact ⟨rfl, HB0.out.drew⟩
    · rw [if_neg (fun h => hlate h.2)] at hR
      have hlb := decide_eq_false hlate
      have HCL := Lib.hid hR
      clear hlt0 hne hR
      refine wp_region_planB [(true, 0), (true, 1), (true, 2), (true, 3), (true, 4), (true, 5), (true, 6), (true, 7), (true, 8), (true, 9), (true, 10), (true, 11), (true, 12)] (by kernel_rfl) (by kernel_rfl) (fun _ _ d _ _ h => by cases d <;> exact h) ?_
      repeat (first | (refine PlanB.take (v := ?_) rfl rfl ?_ ?_; rotate_left; (focus (intro W hW; have k0 := X0.out W (hd0.trans hW); have k1 := X1.out W (hd0.trans hW); have k2 := X2.out W (hd0.trans hW); go_simp; (try with_reducible rfl); done)); (try simp only [Act.put, List.setIfInBounds_toArray, List.set_cons_zero, List.set_cons_succ])) | (refine PlanB.skip rfl rfl ?_; (try simp only [Act.put, List.setIfInBounds_toArray, List.set_cons_zero, List.set_cons_succ])))
      simp only [PlanB]
      go_wp2_with fail
      go_loopw [5] (fun iv wr => ∃ i : Nat, i ≤ reads.length ∧ iv = .int .i64 (i : Int) ∧ (∀ s ∈ reads.take i, ¬ ∃ k, has s k ∧ m.floor < m.f k ∧ read < m.f k) ∧ Below w0.heap.size w0 wr) (fun iv _ => reads.length - (intOf iv).toNat)
      case atStart => exact ⟨0, Nat.zero_le _, rfl, by simp, hd0⟩
      case round =>
        obtain ⟨i, hil, rfl, hno, hbw⟩ := hrel
        have HNO := Lib.hid hno
        have HBW := Lib.hid hbw
        have k1 := X1.out wr hbw
        have k0 := X0.out wr hbw
        by_cases hlt : i < reads.length
        · obtain ⟨b, o, rfl, hbB, g0, g1⟩ := HI.out i hlt
          have hbB0 : b < w0.heap.size := by have := HZ0.out; omega
          rw [← hbw.cell (p := ⟨b, o + i * 2, none⟩) hbB0] at g0
          rw [← hbw.cell (p := ⟨b, o + i * 2 + 1, none⟩) hbB0] at g1
          have hmem := List.getElem_mem hlt
          have hnext : (¬ ∃ k, has reads[i] k ∧ m.floor < m.f k ∧ read < m.f k) → ∀ s ∈ reads.take (i + 1), ¬ ∃ k, has s k ∧ m.floor < m.f k ∧ read < m.f k := fun h s hs => by
            rw [List.take_add_one, List.getElem?_eq_getElem hlt, List.mem_append] at hs
            rcases hs with hs | hs
            · exact HNO.out s hs
            · simp only [Option.toList_some, List.mem_singleton] at hs; rw [hs]; exact h
          have hyes : (∃ k, has reads[i] k ∧ m.floor < m.f k ∧ read < m.f k) → R = 2 := fun h => by
            rw [HCL.out, if_pos ⟨_, hmem, h⟩]
          have hcon := rmlast_any r m.floor m.most L reads[i] hl wr (HR0.out.below hbw (Nat.le_refl _))
          generalize reads[i] = x at g0 g1 hnext hyes hcon
          obtain ⟨xf, xt⟩ := x
          simp only at g0 g1 hcon
          have HNEXT := Lib.hid hnext
          have HYES := Lib.hid hyes
          have HCON := Lib.hid hcon
          have h0 : (0 : Int) ≤ (i : Int) := by omega
          have h1 : (i : Int) < (reads.length : Int) := by omega
          have h2 : IntKind.i64.wrap ((i : Int) + 1) = ((i + 1 : Nat) : Int) := by rw [IntKind.wrap_i64]; omega
          clear hnext hyes hcon hno hmem
          go_wp2_with fail
          refine HCON.out.mono ?_
          rintro e w2 ⟨n, rfl, hlast, hb2⟩
          have hLI := hlast.whole hf hok.low
          have hiff := LastIs.clash hok hLI read hrd0
          have hbw2 : Below w0.heap.size w0 w2 := hbw.trans (hb2.mono hbw.size)
          have k0' := X0.out w2 hbw2
          have HBW2 := Lib.hid hbw2
          have HIFF := Lib.hid hiff
          have HFB := Lib.hid (HB0.out.trans (hbw2.mono (by have := HZ0.out; omega)))
          clear hlast hLI hiff hbw2 hb2 hbw k0 k1 g0 g1
          by_cases hn0 : 0 < n
          · have hnb := decide_eq_true hn0
            by_cases hnr : read < n
            · have hnrb := decide_eq_true hnr
              have hR2 := HYES.out (HIFF.out.2 hnr)
              go_wp2_with fail
              go_ret
              exact ⟨by rw [hR2]; rfl, HFB.out⟩
            · have hnrb := decide_eq_false hnr
              have HN2 := Lib.hid (HNEXT.out (fun h => hnr (HIFF.out.1 h)))
              go_wp2_with fail
              go_roundw
              case rel => exact ⟨i + 1, by omega, rfl, HN2.out, HBW2.out⟩
              case measure => simp [intOf]; omega
          · have hnb := decide_eq_false hn0
            have HN2 := Lib.hid (HNEXT.out (fun h => by have := HIFF.out.1 h; omega))
            go_wp2_with fail
            go_roundw
            case rel => exact ⟨i + 1, by omega, rfl, HN2.out, HBW2.out⟩
            case measure => simp [intOf]; omega
        · obtain rfl : i = reads.length := by omega
          have hR1 : R = 1 := by
            rw [List.take_length] at hno
            rw [HCL.out, if_neg]
            rintro ⟨s, hs, hk⟩
            exact hno s hs hk
          have HFB := Lib.hid (HB0.out.trans (hbw.mono (by have := HZ0.out; omega)))
          clear hno hbw
          go_wp2_with fail
          go_ret
          exact ⟨by rw [hR1]; rfl, HFB.out⟩
end Go.Proofs.YtgppgecglkellaaGreat
namespace Go.Proofs.YtgppgecglkellaaGreat
open Go.RowKit

/-- a transaction and where its spans and changes are -/
structure TxV where
  t : Txn
  v1 : Value
  v2 : Value
def encTx (x : TxV) : List Value := [.int .i64 x.t.read, x.v1, x.v2]
theorem encTx_len (x : TxV) : (encTx x).length = 3 := rfl
/-- transactions that are read, and lie in no block of G -/
structure RdTx (w : World) (B : Nat) (G : Nat → Prop) (v : Value) (l : List TxV) : Prop where
  row : RdG encTx 3 w B G v l
  parts : ∀ x ∈ l, RdG cellsS 2 w B G x.v1 x.t.reads ∧ RdG encC 3 w B G x.v2 x.t.chgs
theorem RdTx.mv {w w' : World} {B : Nat} {G D : Nat → Prop} {v : Value} {l : List TxV} (h : RdTx w B G v l) (hm : Mv D w w') (hB : B ≤ w.heap.size) (hD : ∀ b, b < B → D b → G b) : RdTx w' B G v l :=
  ⟨h.row.mv hm hB hD, fun x hx => ⟨(h.parts x hx).1.mv hm hB hD, (h.parts x hx).2.mv hm hB hD⟩⟩
theorem RdTx.mono {w : World} {B B' : Nat} {G G' : Nat → Prop} {v : Value} {l : List TxV} (h : RdTx w B G v l) (hB : B ≤ B') (hG : ∀ b, b < B → G' b → G b) : RdTx w B' G' v l :=
  ⟨h.row.mono hB hG, fun x hx => ⟨(h.parts x hx).1.mono hB hG, (h.parts x hx).2.mono hB hG⟩⟩
theorem RdTx.at {w : World} {B : Nat} {G : Nat → Prop} {v : Value} {l : List TxV} (h : RdTx w B G v l) : ∃ A c, v = .slice A l.length c ∧ l.length ≤ c ∧ ∀ i (_ : i < l.length), ∃ b o, A = some ⟨b, o, none⟩ ∧ b < B ∧ ¬ G b ∧
    w.cell? ⟨b, o + i * 3, none⟩ = some (.int .i64 l[i].t.read) ∧ w.cell? ⟨b, o + i * 3 + 1, none⟩ = some l[i].v1 ∧ w.cell? ⟨b, o + i * 3 + 2, none⟩ = some l[i].v2 := by
  obtain ⟨A, c, hv, hc, hi⟩ := h.row
  refine ⟨A, c, hv, hc, fun i hs => ?_⟩
  obtain ⟨b, o, hA, hB, hg, h1⟩ := hi i hs
  exact ⟨b, o, hA, hB, hg, h1 0 _ rfl, h1 1 _ rfl, h1 2 _ rfl⟩

/-- rows of unlike elements are not one block -/
theorem Own.apart2 {α β : Type} {enc : α → List Value} {k : Nat} {e : TypeId} {enc' : β → List Value} {k' : Nat} {e' : TypeId} {w : World} {base base' : Nat} {v v' : Value} {l : List α} {l' : List β} (h : Own enc k e w base v l) (h' : Own enc' k' e' w base' v' l') (hne : e ≠ e') {g : Nat} (hg : v.ownBlock = some g) : v'.ownBlock ≠ some g := by
  rcases Own.row h with ⟨rfl, _⟩ | ⟨g1, cap, cur, rfl, _, hW, _⟩
  · simp [Value.ownBlock] at hg
  · have e1 : g1 = g := by simpa [Value.ownBlock] using hg
    subst e1
    exact fun e2 => Own.apart h' hW (fun e => hne e.symm) e2.symm

/-- the reference's Marks, with what was written as it stands -/
structure RmL (w : World) (base r : Nat) (ov : Option Nat) (floor most : Int) (L : List Wr) : Prop where
  blk : ∃ A cap, Whole w r 62 [.slice A L.length cap, .int .i64 floor, .int .i64 most] ∧ OwnW w base (.slice A L.length cap) L ∧ Value.ownBlock (.slice A L.length cap) = ov
  low : base ≤ r ∧ base ≤ w.heap.size
section
variable {w w' wf w4 : World} {base r : Nat} {ov : Option Nat} {D : Nat → Prop} {n : Nat} {m : Mk} {floor most : Int} {L : List Wr}
theorem RmAt.open (h : RmAt w base r ov n m) : ∃ L, RmL w base r ov m.floor m.most L ∧ ver L = m.f ∧ L.length ≤ n ∧ ∀ x ∈ L, 1 ≤ x.v := by
  obtain ⟨A, cap, L, hw, ho, hv, hf, hn, hp⟩ := h.blk
  exact ⟨L, ⟨⟨A, cap, hw, ho, hv⟩, h.low⟩, hf, hn, hp⟩
theorem RmL.close (h : RmL w base r ov m.floor m.most L) (hf : ver L = m.f) (hn : L.length ≤ n) (hp : ∀ x ∈ L, 1 ≤ x.v) (hok : m.Ok) : RmAt w base r ov n m := by
  obtain ⟨A, cap, hw, ho, hv⟩ := h.blk
  exact ⟨⟨A, cap, L, hw, ho, hv, hf, hn, hp⟩, h.low, hok⟩
theorem RmL.rd (h : RmL w base r ov floor most L) : RmRd w r floor most L := by
  obtain ⟨A, cap, hw, ho, hv⟩ := h.blk
  exact ⟨A, cap, hw, Own.rd encW_len ho⟩
theorem RmL.size (h : RmL w base r ov floor most L) : r < w.heap.size := by
  obtain ⟨A, cap, hw, _⟩ := h.blk
  exact hw.size
theorem RmL.row (h : RmL w base r ov floor most L) {g : Nat} (hg : ov = some g) : base ≤ g ∧ g < w.heap.size := by
  obtain ⟨A, cap, hw, ho, hv⟩ := h.blk
  exact ho.low (hv.trans hg)
theorem RmL.mv (h : RmL w base r ov floor most L) (hm : Mv D w w') (h1 : ¬ D r) (h2 : ∀ g, ov = some g → ¬ D g) : RmL w' base r ov floor most L := by
  obtain ⟨A, cap, hw, ho, hv⟩ := h.blk
  exact ⟨⟨A, cap, hm.whole hw h1, ho.mvG hm (fun g hg => h2 g (hv ▸ hg)), hv⟩, ⟨h.low.1, Nat.le_trans h.low.2 hm.size⟩⟩
theorem RmL.new (h : RmL w base r ov floor most L) (hb : Below w.heap.size w w') : RmL w' base r ov floor most L :=
  h.mv (D := fun i => w.heap.size ≤ i) (Mv.of_below hb) (fun e => by have := h.size; omega) (fun g hg e => by have := (h.row hg).2; omega)
/-- what grows an own slice of another type leaves it -/
theorem RmL.grown {α : Type} {enc : α → List Value} {k : Nat} {e : TypeId} {base' : Nat} {v : Value} {l : List α} (h : RmL w base r ov floor most L) (ho : Own enc k e w base' v l) (h1 : e ≠ 62) (h2 : e ≠ 81) (hg : w.grownBy w' v.ownBlock) : RmL w' base r ov floor most L := by
  obtain ⟨A, cap, hw, hown, hv⟩ := h.blk
  refine h.mv (Mv.of_grown hg) (fun e => Own.apart ho hw h1 e) (fun g hg' e => ?_)
  exact Own.apart2 ho hown h2 e.symm (hv.trans hg')
/-- an own slice of another type stays while these are written -/
theorem RmL.keeps {α : Type} {enc : α → List Value} {k : Nat} {e : TypeId} {base' : Nat} {v : Value} {l : List α} (h : RmL w base r ov floor most L) (ho : Own enc k e w base' v l) (h1 : e ≠ 62) (h2 : e ≠ 81) (hm : Mv (RmD r ov) w w') : Own enc k e w' base' v l := by
  obtain ⟨A, cap, hw, hown, hv⟩ := h.blk
  refine ho.mvG hm (fun g hg => ?_)
  rintro (rfl | hi)
  · exact Own.apart ho hw h1 hg.symm
  · exact Own.apart2 ho hown h2 hg (hv.trans hi.symm)
end
structure RmLW (w w' : World) (base r : Nat) (ov : Option Nat) (floor most : Int) (L : List Wr) (ov' : Option Nat) : Prop where
  now : RmL w' base r ov' floor most L
  moved : Mv (RmD r ov) w w'
  new : ∀ g, ov' = some g → ov = some g ∨ w.heap.size ≤ g
theorem RmLW.refl {w : World} {base r : Nat} {ov : Option Nat} {floor most : Int} {L : List Wr} (h : RmL w base r ov floor most L) : RmLW w w base r ov floor most L ov := ⟨h, Mv.refl _ _, fun _ h => .inl h⟩
theorem RmLW.trans {w w' w2 : World} {base r : Nat} {ov ov' ov2 : Option Nat} {floor most floor' most' : Int} {L L' : List Wr} (h : RmLW w w' base r ov floor most L ov') (h2 : RmLW w' w2 base r ov' floor' most' L' ov2) (hr : r < w.heap.size) : RmLW w w2 base r ov floor' most' L' ov2 :=
  ⟨h2.now, h.moved.trans h2.moved (fun i hi hd => by
    rcases hd with rfl | hd
    · exact .inl rfl
    · rcases h.new i hd.symm with h3 | h3
      · exact .inr h3.symm
      · omega), fun g hg => by
    rcases h2.new g hg with h3 | h3
    · exact h.new g h3
    · exact .inr (Nat.le_trans h.moved.size h3)⟩
theorem RmLW.after {w w' w2 : World} {base r : Nat} {ov ov' : Option Nat} {floor most : Int} {L : List Wr} {D : Nat → Prop} (h : RmLW w w' base r ov floor most L ov') (hm : Mv D w' w2) (hn : RmL w2 base r ov' floor most L) (hD : ∀ i, i < w.heap.size → D i → RmD r ov i) : RmLW w w2 base r ov floor most L ov' :=
  ⟨hn, h.moved.trans hm hD, h.new⟩
/-- one more, behind new blocks -/
theorem RmL.push {w wf w4 : World} {base r n4 : Nat} {ov : Option Nat} {floor most most' : Int} {L : List Wr} {x : Wr} {A4 : Option Addr} {c4 : Nat} (h : RmL w base r ov floor most L) (hF : Below w.heap.size w wf) (hg : wf.grownBy w4 ov) (hn : n4 = (L ++ [x]).length) (ho : OwnW w4 base (.slice A4 n4 c4) (L ++ [x])) (hnew : NewRow wf ov (Value.ownBlock (.slice A4 n4 c4))) :
    RmLW w ((w4.setCell ⟨r, 0, none⟩ (.slice A4 n4 c4)).setCell ⟨r, 2, none⟩ (.int .i64 most')) base r ov floor most' (L ++ [x]) (Value.ownBlock (.slice A4 n4 c4)) := by
  subst hn
  obtain ⟨A, cap, hw, hown, hv⟩ := h.blk
  have hov : ov ≠ some r := fun e => Own.apart hown hw (by decide) (by rw [hv, e])
  have h1 : Mv (RmD r ov) w w4 := (Mv.of_new hF (RmD r ov)).trans (Mv.of_grown hg) (fun i _ e => .inr e)
  have h2 : Mv (RmD r ov) w ((w4.setCell ⟨r, 0, none⟩ (.slice A4 (L ++ [x]).length c4)).setCell ⟨r, 2, none⟩ (.int .i64 most')) := (h1.setCell (p := ⟨r, 0, none⟩) (fun _ => .inl rfl) _).setCell (p := ⟨r, 2, none⟩) (fun _ => .inl rfl) _
  have hw4 : Whole w4 r 62 _ := (Mv.of_grown hg).whole (hw.below hF hw.size) (fun e => hov e.symm)
  have hr4 : Mv (fun i => i = r) w4 ((w4.setCell ⟨r, 0, none⟩ (.slice A4 (L ++ [x]).length c4)).setCell ⟨r, 2, none⟩ (.int .i64 most')) := ((Mv.refl (fun i => i = r) w4).setCell (p := ⟨r, 0, none⟩) (fun _ => rfl) _).setCell (p := ⟨r, 2, none⟩) (fun _ => rfl) _
  refine ⟨⟨⟨A4, c4, (hw4.put 0 _).put 2 _, ho.mvG hr4 (fun g hg e => Own.apart ho hw4 (by decide) (by rw [hg, e])), rfl⟩, ⟨h.low.1, Nat.le_trans h.low.2 h2.size⟩⟩, h2, fun g hg => ?_⟩
  rcases hnew g hg with h3 | h3
  · exact .inl h3
  · exact .inr (Nat.le_trans hF.size h3)
section
variable {ops : Array Oper} {rest : List Oper} {o : Oper} {a : Act} {Q : Exit → Act → World → Prop} {w : World}
set_option maxRecDepth 100000 in
theorem wp_addWr {K : Act → World → Prop} (s x : Operand)
    (ho : o.op = .call { callee := .builtin .append, args := #[s, x], argTypes := #[60, 60] })
    (base : Nat) (v : Value) (l : List Wr) (hs : a.eval s = v) (hown : OwnW w base v l) (B : Nat) (v2 : Value) (p : List Wr) (hx : a.eval x = v2) (hp : RdW w B v2 p)
    (hlen : l.length + p.length ≤ 5000000000000) (hbase : base ≤ w.heap.size)
    (h : ∀ A' c' w', OwnW w' base (.slice A' (l ++ p).length c') (l ++ p) → w.grownBy w' v.ownBlock → NewRow w v.ownBlock (Value.ownBlock (.slice A' (l ++ p).length c')) → K (a.put o.dst (.slice A' (l ++ p).length c')) w') : o.wp Tryz.prog a w K Q := by
  obtain ⟨i0, hi, hz0, hz1, hz2⟩ := info_parts info_wr
  exact wp_addAnyN (enc := encW) (k := 3) 60 81 40 i0 _ Tryz.underlying60 hi hz0 hz1 hz2 rfl (by decide) encW_len encW_one s x ho base v l hs hown B v2 p hx hp (by unfold maxLen; omega) (by omega) hbase fun A' c' w' h1 h2 h3 => h A' c' w' h1 h2 h3
set_option maxRecDepth 100000 in
theorem wpList_addIm (hgd : Region.wanted o (yielded ops a.tmps) = true) (s x : Operand)
    (ho : o.op = .call { callee := .builtin .append, args := #[s, x], argTypes := #[28, 28] })
    (base : Nat) (v : Value) (l : List Int) (hs : a.eval s = v) (hown : OwnI w base v l) (B : Nat) (v2 : Value) (p : List Int) (hx : a.eval x = v2) (hp : RdI w B v2 p)
    (hlen : l.length + p.length ≤ 28147497670000) (hbase : base ≤ w.heap.size)
    (h : ∀ A' c' w', Hid (OwnI w' base (.slice A' (l ++ p).length c') (l ++ p)) → Hid (w.grownBy w' v.ownBlock) → wpList Tryz.prog ops Q rest (a.put o.dst (.slice A' (l ++ p).length c')) w') : wpList Tryz.prog ops Q (o :: rest) a w := by
  obtain ⟨i0, hi, hz0, hz1, hz2⟩ := info_parts info_int
  refine BigFrame.wpList_want hgd fun K hK => ?_
  refine wp_addAny (enc := encI) (k := 1) 28 3 8 i0 _ Tryz.underlying28 hi hz0 hz1 hz2 rfl (by decide) encI_len encI_one s x ho base v l hs hown B v2 p hx hp (by unfold maxLen; omega) (by omega) hbase fun A' c' w' h1 h2 => ?_
  exact hK _ _ (h A' c' w' (Lib.hid h1) (Lib.hid h2))
end
set_option maxRecDepth 100000 in
theorem RdW.one (w : World) (x : Wr) : RdW (w.alloc (.cells #[.string x.s.1, .string x.s.2, .int .i64 x.v] 81)) (w.heap.size + 1) (.slice (some ⟨w.heap.size, 0, none⟩) 1 1) [x] := by
  have hW : Whole (w.alloc (.cells #[.string x.s.1, .string x.s.2, .int .i64 x.v] 81)) w.heap.size 81 [.string x.s.1, .string x.s.2, .int .i64 x.v] := Whole.fresh w _ [_, _, _]
  refine ⟨_, 1, rfl, Nat.le_refl _, fun i hi => ⟨w.heap.size, 0, rfl, Nat.lt_succ_self _, fun j u hu => ?_⟩⟩
  obtain rfl : i = 0 := by simp at hi; omega
  have h1 := hW.cell j u
  simp only [encW, List.getElem_cons_zero] at hu
  simpa using h1 hu
end Go.Proofs.YtgppgecglkellaaGreat
