/- Changes and pairs: their cells, slices of them; what the reference's Check, All and Span answer. What the reference's Span, All and Sound answer. A region whose operations may come in more than one order, walked along a tree of orders that is laid down beforehand. Transactions: what is known of them, and whether the reference finds them sound (for seats that have no more of frame). Verdicts put together; transactions checked, and picked; pure. Transactions that may be, and the changes of those that are fine; pure. Slices of ints: read, owned, appended to; those that came in. Numbers held against numbers, as the reference does. -/
import Derived.Test.YtmakgjokadcfjaaFaa
namespace Go.Proofs.Ytmakgjokadcfjaa
open Go.RowKit
attribute [local go_sem] less_eq same_eq le_eq ge_eq gt_eq

structure Chg where
  kind : Int
  key : K
  val : K
instance : DecidableEq Chg := fun a b => decidable_of_iff (a.kind = b.kind ∧ a.key = b.key ∧ a.val = b.val) ⟨fun h => by cases a; cases b; simp only at h; obtain ⟨rfl, rfl, rfl⟩ := h; rfl, fun h => by subst h; exact ⟨rfl, rfl, rfl⟩⟩
def cval (c : Chg) : Value := .agg #[.int .i64 c.kind, .string c.key, .string c.val]
def encC (c : Chg) : List Value := [.int .i64 c.kind, .string c.key, .string c.val]
theorem encC_len (c : Chg) : (encC c).length = 3 := rfl
theorem encC_one (c : Chg) : ∀ u ∈ encC c, u.oneCell' = true := by
  intro u hu
  simp [encC] at hu
  rcases hu with rfl | rfl | rfl <;> rfl
abbrev RdC (w : World) (B : Nat) (v : Value) (l : List Chg) : Prop := Rd encC 3 w B v l
abbrev OwnC (w : World) (base : Nat) (v : Value) (l : List Chg) : Prop := Own encC 3 55 w base v l
abbrev RdP (w : World) (B : Nat) (v : Value) (l : List (K × K)) : Prop := Rd cellsS 2 w B v l
theorem info_chg : (Try.prog.info? 55).map (fun i => (i.zero, i.size, i.bytes)) = some (some (.agg #[.int .i64 0, .string ⟨#[]⟩, .string ⟨#[]⟩]), 3, 40) := by kernel_rfl
theorem RdC.at {w : World} {B : Nat} {v : Value} {l : List Chg} (h : RdC w B v l) : ∃ A c, v = .slice A l.length c ∧ l.length ≤ c ∧ ∀ i (_ : i < l.length), ∃ b o, A = some ⟨b, o, none⟩ ∧ b < B ∧
    w.cell? ⟨b, o + i * 3, none⟩ = some (.int .i64 l[i].kind) ∧ w.cell? ⟨b, o + i * 3 + 1, none⟩ = some (.string l[i].key) ∧ w.cell? ⟨b, o + i * 3 + 2, none⟩ = some (.string l[i].val) := by
  obtain ⟨A, c, hv, hc, hi⟩ := h
  refine ⟨A, c, hv, hc, fun i hs => ?_⟩
  obtain ⟨b, o, hA, hB, h1⟩ := hi i hs
  exact ⟨b, o, hA, hB, h1 0 _ rfl, h1 1 _ rfl, h1 2 _ rfl⟩
theorem RdP.at {w : World} {B : Nat} {v : Value} {l : List (K × K)} (h : RdP w B v l) : ∃ A c, v = .slice A l.length c ∧ l.length ≤ c ∧ ∀ i (_ : i < l.length), ∃ b o, A = some ⟨b, o, none⟩ ∧ b < B ∧
    w.cell? ⟨b, o + i * 2, none⟩ = some (.string l[i].1) ∧ w.cell? ⟨b, o + i * 2 + 1, none⟩ = some (.string l[i].2) := by
  obtain ⟨A, c, hv, hc, hi⟩ := h
  refine ⟨A, c, hv, hc, fun i hs => ?_⟩
  obtain ⟨b, o, hA, hB, h1⟩ := hi i hs
  exact ⟨b, o, hA, hB, h1 0 _ rfl, h1 1 _ rfl⟩

/-- what Check answers -/
def checkAns (c : Chg) : Int :=
  if c.kind = 1 then (if c.key.size > 16 ∨ c.val.size > 64 then 6 else 0)
  else if c.kind = 2 then (if c.key.size > 16 ∨ c.val.size > 0 then 6 else 0)
  else if c.kind = 3 then (if c.key.size > 17 ∨ c.val.size > 17 then 6 else if c.val < c.key then 5 else 0)
  else 1
/-- the keys that a change names -/
def cspan (c : Chg) : K × K := if c.kind = 3 then (c.key, c.val) else (c.key, c.key ++ ⟨#[0]⟩)

set_option maxHeartbeats 4000000 in
set_option maxRecDepth 100000 in
theorem rcheck_any (c : Chg) (w : World) (hk : c.key.size < 9223372036854775807) (hv : c.val.size < 9223372036854775807) : Calls Try.prog 34 #[cval c] w fun e w' => e = .returned (.int .i64 (checkAns c)) ∧ Below w.heap.size w w' := by
  obtain ⟨k, x, y⟩ := c
  obtain ⟨R, hR⟩ : ∃ R, R = checkAns ⟨k, x, y⟩ := ⟨_, rfl⟩
  rw [← hR]
  unfold checkAns at hR
  unfold cval
  simp only at hR hk hv ⊢
  go_enter Try.func34, Try.ntmps34
  go_wp2_with fail
  have HB := Lib.hid (((Below.refl _ w).alloc (Nat.le_refl _) (.cells #[.int .i64 k, .string x, .string y] 55)).drew)
  have HC := Lib.hid (show ∀ W, Below (w.alloc (.cells #[.int .i64 k, .string x, .string y] 55)).drew.heap.size (w.alloc (.cells #[.int .i64 k, .string x, .string y] 55)).drew W →
      W.cell? ⟨w.heap.size, 0, none⟩ = some (.int .i64 k) ∧ W.cell? ⟨w.heap.size, 1, none⟩ = some (.string x) ∧ W.cell? ⟨w.heap.size, 2, none⟩ = some (.string y) from fun W hW => by
    have hlt : w.heap.size < (w.alloc (.cells #[.int .i64 k, .string x, .string y] 55)).drew.heap.size := by show _ < (w.alloc _).heap.size; simp
    exact ⟨(hW.cell (p := ⟨w.heap.size, 0, none⟩) hlt).trans (World.cell?_alloc_at _ _ _ _ rfl), (hW.cell (p := ⟨w.heap.size, 1, none⟩) hlt).trans (World.cell?_alloc_at _ _ _ _ rfl), (hW.cell (p := ⟨w.heap.size, 2, none⟩) hlt).trans (World.cell?_alloc_at _ _ _ _ rfl)⟩)
  refine wp_region_planB [(true, 0), (true, 1), (true, 2), (true, 3), (true, 4), (true, 5), (true, 6), (true, 7)] (by kernel_rfl) (by kernel_rfl) (fun _ _ d _ _ h => by cases d <;> exact h) ?_
  generalize (w.alloc (.cells #[.int .i64 k, .string x, .string y] 55)).drew = w1 at HB HC ⊢
  obtain ⟨g, hg⟩ : ∃ g, g = w.heap.size := ⟨_, rfl⟩
  rw [← hg] at HC ⊢
  clear hg
  repeat (refine PlanB.take (v := ?_) rfl rfl ?_ ?_; rotate_left; (focus (intro W hW; obtain ⟨k0, k1, k2⟩ := HC.out W hW; go_simp; (try with_reducible rfl); done)); (try simp only [Act.put, List.setIfInBounds_toArray, List.set_cons_zero, List.set_cons_succ]))
  simp only [PlanB]
  obtain ⟨k0, k1, k2⟩ := HC.out w1 (Below.refl _ _)
  by_cases h1 : k = 1
  · rw [if_pos h1] at hR
    subst h1
    by_cases ha : x.size > 16
    · rw [if_pos (.inl ha)] at hR
      have HR := Lib.hid hR; clear hR
      have ha1 : (16 : Int) < (x.size : Int) := by omega
      go_wp2_with fail
      go_ret
      exact ⟨by rw [HR.out]; rfl, HB.out⟩
    by_cases hb : y.size > 64
    · rw [if_pos (.inr hb)] at hR
      have HR := Lib.hid hR; clear hR
      have ha1 : ¬ (16 : Int) < (x.size : Int) := by omega
      have hb1 : (64 : Int) < (y.size : Int) := by omega
      go_wp2_with fail
      go_ret
      exact ⟨by rw [HR.out]; rfl, HB.out⟩
    rw [if_neg (by omega)] at hR
    have ha1 : ¬ (16 : Int) < (x.size : Int) := by omega
    have hb1 : ¬ (64 : Int) < (y.size : Int) := by omega
    have HR := Lib.hid hR; clear hR
    go_wp2_with fail
    go_ret
    exact ⟨by rw [HR.out]; rfl, HB.out⟩
  by_cases h2 : k = 2
  · rw [if_neg h1, if_pos h2] at hR
    subst h2
    clear h1
    by_cases ha : x.size > 16
    · rw [if_pos (.inl ha)] at hR
      have HR := Lib.hid hR; clear hR
      have ha1 : (16 : Int) < (x.size : Int) := by omega
      go_wp2_with fail
      go_ret
      exact ⟨by rw [HR.out]; rfl, HB.out⟩
    by_cases hb : y.size > 0
    · rw [if_pos (.inr hb)] at hR
      have HR := Lib.hid hR; clear hR
      have ha1 : ¬ (16 : Int) < (x.size : Int) := by omega
      have hb1 : (0 : Int) < (y.size : Int) := by omega
      go_wp2_with fail
      go_ret
      exact ⟨by rw [HR.out]; rfl, HB.out⟩
    rw [if_neg (by omega)] at hR
    have ha1 : ¬ (16 : Int) < (x.size : Int) := by omega
    have hb1 : ¬ (0 : Int) < (y.size : Int) := by omega
    have HR := Lib.hid hR; clear hR
    go_wp2_with fail
    go_ret
    exact ⟨by rw [HR.out]; rfl, HB.out⟩
  by_cases h3 : k = 3
  · rw [if_neg h1, if_neg h2, if_pos h3] at hR
    subst h3
    clear h1 h2
    by_cases ha : x.size > 17
    · rw [if_pos (.inl ha)] at hR
      have HR := Lib.hid hR; clear hR
      have ha1 : (17 : Int) < (x.size : Int) := by omega
      go_wp2_with fail
      go_ret
      exact ⟨by rw [HR.out]; rfl, HB.out⟩
    by_cases hb : y.size > 17
    · rw [if_pos (.inr hb)] at hR
      have HR := Lib.hid hR; clear hR
      have ha1 : ¬ (17 : Int) < (x.size : Int) := by omega
      have hb1 : (17 : Int) < (y.size : Int) := by omega
      go_wp2_with fail
      go_ret
      exact ⟨by rw [HR.out]; rfl, HB.out⟩
    rw [if_neg (by omega)] at hR
    have ha1 : ¬ (17 : Int) < (x.size : Int) := by omega
    have hb1 : ¬ (17 : Int) < (y.size : Int) := by omega
    by_cases hl : y < x
    · rw [if_pos hl] at hR
      have HR := Lib.hid hR; clear hR
      go_wp2_with fail
      go_ret
      exact ⟨by rw [HR.out]; rfl, HB.out⟩
    rw [if_neg hl] at hR
    have HR := Lib.hid hR; clear hR
    go_wp2_with fail
    go_ret
    exact ⟨by rw [HR.out]; rfl, HB.out⟩
  rw [if_neg h1, if_neg h2, if_neg h3] at hR
  have HR := Lib.hid hR; clear hR
  go_wp2_with fail
  go_ret
  exact ⟨by rw [HR.out]; rfl, HB.out⟩
end Go.Proofs.Ytmakgjokadcfjaa
namespace Go.Proofs.Ytmakgjokadcfjaa
open Go.RowKit
attribute [local go_sem] less_eq same_eq le_eq ge_eq gt_eq

def smallC (c : Chg) : Prop := c.key.size < 4611686018427387904 ∧ c.val.size < 4611686018427387904
/-- the first error -/
def allAns : List Chg → Int
  | [] => 0
  | c :: r => if checkAns c = 0 then allAns r else checkAns c

set_option maxHeartbeats 1000000 in
set_option maxRecDepth 100000 in
theorem rall_any (l : List Chg) (hs : ∀ c ∈ l, smallC c) (v : Value) (w : World) (hv : RdC w w.heap.size v l) (hl : l.length < 4611686018427387904) :
    Calls Try.prog 28 #[v] w fun e w' => e = .returned (.int .i64 (allAns l)) ∧ Below w.heap.size w w' := by
  obtain ⟨A, c, rfl, hc, hi⟩ := hv.at
  obtain ⟨R, hR⟩ : ∃ R, R = allAns l := ⟨_, rfl⟩
  rw [← hR]
  have HR := Lib.hid hR; clear hR
  have HI := Lib.hid hi; clear hi
  have HS := Lib.hid hs; clear hs
  clear hv
  obtain ⟨g, hg⟩ : ∃ g, g = w.heap.size := ⟨_, rfl⟩
  have HG := Lib.hid hg; clear hg
  go_enter Try.func28, Try.ntmps28
  go_wp2_with fail
  go_loopw [3] (fun iv wr => ∃ i : Nat, i ≤ l.length ∧ iv = .int .i64 i ∧ Below g w wr ∧ R = allAns (l.drop i)) (fun iv _ => l.length - (intOf iv).toNat)
  case atStart => exact ⟨0, Nat.zero_le _, rfl, Below.refl _ _, HR.out⟩
  case round =>
    obtain ⟨i, hil, rfl, hbw, he⟩ := hrel
    have HBW := Lib.hid hbw; clear hbw
    have HE := Lib.hid he; clear he
    by_cases hlt : i < l.length
    · obtain ⟨b, o, rfl, hbB, k0, k1, k2⟩ := HI.out i hlt
      have hsm := HS.out l[i] (List.getElem_mem hlt)
      have hd := HE.out
      rw [List.drop_eq_getElem_cons hlt, allAns] at hd
      rw [← HBW.out.cell (p := ⟨b, o + i * 3, none⟩) (by rw [HG.out]; exact hbB)] at k0
      rw [← HBW.out.cell (p := ⟨b, o + i * 3 + 1, none⟩) (by rw [HG.out]; exact hbB)] at k1
      rw [← HBW.out.cell (p := ⟨b, o + i * 3 + 2, none⟩) (by rw [HG.out]; exact hbB)] at k2
      generalize l[i] = z at k0 k1 k2 hsm hd
      have hck := rcheck_any z wr (by have := hsm.1; omega) (by have := hsm.2; omega)
      unfold cval at hck
      generalize checkAns z = q at hck hd
      obtain ⟨kz, xz, yz⟩ := z
      simp only at k0 k1 k2 hck
      have HD := Lib.hid hd
      have HK := Lib.hid hck
      clear hd hck hsm
      go_wp2_with fail
      refine HK.out.mono ?_
      rintro e w2 ⟨rfl, hb2⟩
      have HW2 := Lib.hid (show Below g w w2 from HBW.out.trans (hb2.mono (by rw [HG.out]; exact HBW.out.size)))
      clear hb2 k0 k1 k2
      by_cases hq : q = 0
      · subst hq
        have hd := HD.out
        rw [if_pos rfl] at hd
        have HD2 := Lib.hid hd; clear hd
        go_wp2_with fail
        go_roundw
        case rel => exact ⟨i + 1, by omega, by go_num, HW2.out, HD2.out⟩
        case measure => simp [intOf]; omega
      · have hd := HD.out
        rw [if_neg hq] at hd
        have HD2 := Lib.hid hd; clear hd
        go_wp2_with fail
        go_ret
        exact ⟨by rw [HD2.out]; rfl, by have h := HW2.out; rwa [HG.out] at h⟩
    · have hd := HE.out
      rw [List.drop_eq_nil_of_le (by omega), allAns] at hd
      have HD := Lib.hid hd; clear hd
      go_wp2_with fail
      go_ret
      exact ⟨by rw [HD.out]; rfl, by have h := HBW.out; rwa [HG.out] at h⟩
end Go.Proofs.Ytmakgjokadcfjaa
namespace Go.Proofs.Ytmakgjokadcfjaa
open Go.RowKit

/-- take i: number i yields the same whenever it comes up; step i: it comes up alone; fork: one of two comes up -/
inductive PT
  | done
  | take (i : Nat) (n : PT)
  | step (i : Nat) (n : PT)
  | fork (i : Nat) (n : PT) (j : Nat) (m : PT)
  | fork3 (i : Nat) (n : PT) (j : Nat) (m : PT) (k : Nat) (q : PT)
def PT.depth : PT → Nat
  | .done => 0
  | .take _ n => n.depth + 1
  | .step _ n => n.depth + 1
  | .fork _ n _ m => max n.depth m.depth + 1
  | .fork3 _ n _ m _ q => max n.depth (max m.depth q.depth) + 1
def ptOk (ops : Array Oper) : PT → Array Bool → Bool
  | .done, listed => (Region.ready .any ops listed).isEmpty
  | .take i n, listed => Region.free .any ops listed i && (Region.ready .any ops listed).contains i && ptOk ops n (listed.setIfInBounds i true)
  | .step i n, listed => Region.ready .any ops listed == [i] && ptOk ops n (listed.setIfInBounds i true)
  | .fork i n j m, listed => Region.ready .any ops listed == [i, j] && (ptOk ops n (listed.setIfInBounds i true) && ptOk ops m (listed.setIfInBounds j true))
  | .fork3 i n j m k q, listed => Region.ready .any ops listed == [i, j, k] && (ptOk ops n (listed.setIfInBounds i true) && (ptOk ops m (listed.setIfInBounds j true) && ptOk ops q (listed.setIfInBounds k true)))
section
variable {P : Program} {ops : Array Oper} {Q : Exit → Act → World → Prop} {S : World → Prop}
def PlanT (P : Program) (ops : Array Oper) (S : World → Prop) (Q : Exit → Act → World → Prop) : PT → Act → World → Prop
  | .done, a, w => Q .normal a w
  | .take i n, a, w => ∃ o v, ops[i]? = some o ∧ YieldsIf P ops S o v a ∧ PlanT P ops S Q n (a.put o.dst v) w
  | .step i n, a, w => wpOp P ops Q i (fun a' w' => S w' ∧ PlanT P ops S Q n a' w') a w
  | .fork i n j m, a, w => wpOp P ops Q i (fun a' w' => S w' ∧ PlanT P ops S Q n a' w') a w ∧ wpOp P ops Q j (fun a' w' => S w' ∧ PlanT P ops S Q m a' w') a w
  | .fork3 i n j m k q, a, w => wpOp P ops Q i (fun a' w' => S w' ∧ PlanT P ops S Q n a' w') a w ∧ wpOp P ops Q j (fun a' w' => S w' ∧ PlanT P ops S Q m a' w') a w ∧ wpOp P ops Q k (fun a' w' => S w' ∧ PlanT P ops S Q q a' w') a w

theorem PlanT.any (hs : Region.noSelect ops = true) (hQ : ∀ c a d v w, Q (.panic c) (Act.put a d v) w → Q (.panic c) a w) : ∀ (plan : PT) (fuel : Nat) (listed : Array Bool) (a : Act) (w : World),
    plan.depth ≤ fuel → ptOk ops plan listed = true → S w → PlanT P ops S Q plan a w → wpAnyH P .any ops Q S fuel listed a w
  | .done, fuel, listed, a, w, _, hp, _, h => wpAnyH_done (by simpa [ptOk] using hp) h fuel
  | .take i r, fuel + 1, listed, a, w, hf, hp, hS, h => by
    obtain ⟨o, v, ho, hy, hr⟩ := h
    simp only [ptOk, Bool.and_eq_true] at hp
    exact wpAnyH_take ho hs hp.1.1 hp.1.2 (fun c a w => hQ c a _ _ w) hy hS (PlanT.any hs hQ r fuel _ _ _ (by simpa [PT.depth] using hf) hp.2 hS hr)
  | .step i r, fuel + 1, listed, a, w, hf, hp, _, h => by
    simp only [ptOk, Bool.and_eq_true, beq_iff_eq] at hp
    refine wpAnyH_all hp.1 (by simp) fun j hj => ?_
    obtain rfl : j = i := by simpa using hj
    exact wpOp_mono (fun a' w' h' => ⟨h'.1, PlanT.any hs hQ r fuel _ _ _ (by simpa [PT.depth] using hf) hp.2 h'.1 h'.2⟩) h
  | .fork i r j m, fuel + 1, listed, a, w, hf, hp, _, h => by
    simp only [ptOk, Bool.and_eq_true, beq_iff_eq] at hp
    simp only [PT.depth] at hf
    refine wpAnyH_all hp.1 (by simp) fun k hk => ?_
    rcases (by simpa using hk : k = i ∨ k = j) with rfl | rfl
    · exact wpOp_mono (fun a' w' h' => ⟨h'.1, PlanT.any hs hQ r fuel _ _ _ (by omega) hp.2.1 h'.1 h'.2⟩) h.1
    · exact wpOp_mono (fun a' w' h' => ⟨h'.1, PlanT.any hs hQ m fuel _ _ _ (by omega) hp.2.2 h'.1 h'.2⟩) h.2
  | .fork3 i r j m l q, fuel + 1, listed, a, w, hf, hp, _, h => by
    simp only [ptOk, Bool.and_eq_true, beq_iff_eq] at hp
    simp only [PT.depth] at hf
    refine wpAnyH_all hp.1 (by simp) fun k hk => ?_
    rcases (by simpa using hk : k = i ∨ k = j ∨ k = l) with rfl | rfl | rfl
    · exact wpOp_mono (fun a' w' h' => ⟨h'.1, PlanT.any hs hQ r fuel _ _ _ (by omega) hp.2.1 h'.1 h'.2⟩) h.1
    · exact wpOp_mono (fun a' w' h' => ⟨h'.1, PlanT.any hs hQ m fuel _ _ _ (by omega) hp.2.2.1 h'.1 h'.2⟩) h.2.1
    · exact wpOp_mono (fun a' w' h' => ⟨h'.1, PlanT.any hs hQ q fuel _ _ _ (by omega) hp.2.2.2 h'.1 h'.2⟩) h.2.2
  | .take _ _, 0, _, _, _, hf, _, _, _ => by simp [PT.depth] at hf
  | .step _ _, 0, _, _, _, hf, _, _, _ => by simp [PT.depth] at hf
  | .fork _ _ _ _, 0, _, _, _, hf, _, _, _ => by simp [PT.depth] at hf
  | .fork3 _ _ _ _ _ _, 0, _, _, _, hf, _, _, _ => by simp [PT.depth] at hf

theorem wp_region_planT (S : World → Prop) (plan : PT) {id : Nat} {a : Act} {w : World} (hm : P.follows .mixedOrders = true) (hs : (Region.noSelect ops && ptOk ops plan (Array.replicate ops.size false) && decide (plan.depth ≤ ops.size)) = true)
    (hQ : ∀ c a d v w, Q (.panic c) (Act.put a d v) w → Q (.panic c) a w) (hS : S w.drew) (h : PlanT P ops S Q plan a w.drew) : (Code.region id ops true).wp P Q a w := by
  simp only [Bool.and_eq_true, decide_eq_true_eq] at hs
  exact wp_region_held hm (PlanT.any hs.1.1 hQ plan _ _ _ _ hs.2 hs.1.2 hS h)

theorem PlanT.takeI {i : Nat} {o : Oper} {v : Value} {r : PT} {a : Act} {w : World} (hi : ops.toList[i]? = some o) (hw : Region.wanted o (yielded ops a.tmps) = true)
    (hy : ∀ W, S W → (execOp a.eval o).run P W = .ok (.value v) W) (h : PlanT P ops S Q r (a.put o.dst v) w) : PlanT P ops S Q (.take i r) a w :=
  ⟨o, v, by simpa using hi, .inl ⟨hw, hy⟩, h⟩
theorem PlanT.skip {i : Nat} {o : Oper} {r : PT} {a : Act} {w : World} (hi : ops.toList[i]? = some o) (hw : Region.wanted o (yielded ops a.tmps) = false)
    (h : PlanT P ops S Q r (a.put o.dst undef) w) : PlanT P ops S Q (.take i r) a w :=
  ⟨o, undef, by simpa using hi, .inr ⟨hw, rfl⟩, h⟩
theorem wpOp_stepT {i : Nat} {o : Oper} {r : PT} {a : Act} {w : World} (hi : ops.toList[i]? = some o) (hw : Region.wanted o (yielded ops a.tmps) = true)
    (h : ∀ K : Act → World → Prop, Shut (∀ a w, S w → PlanT P ops S Q r a w → K a w) → Oper.wp P o a w K Q) : wpOp P ops Q i (fun a' w' => S w' ∧ PlanT P ops S Q r a' w') a w := by
  refine wpOp_step (o := o) (by simpa using hi) fun K' hK => ?_
  rw [if_pos hw]
  exact h K' fun a w h1 h2 => hK a w ⟨h1, h2⟩
end
end Go.Proofs.Ytmakgjokadcfjaa
namespace Go.Proofs.Ytmakgjokadcfjaa
open Go.RowKit
attribute [local go_sem] less_eq same_eq le_eq ge_eq gt_eq

structure Txn where
  read : Int
  reads : List (K × K)
  chgs : List Chg
instance : DecidableEq Txn := fun x y => decidable_of_iff (x.read = y.read ∧ x.reads = y.reads ∧ x.chgs = y.chgs) ⟨fun h => by cases x; cases y; simp only at h; obtain ⟨rfl, rfl, rfl⟩ := h; rfl, fun h => by subst h; simp⟩
def zeroT : Txn := ⟨0, [], []⟩
def okSpan (s : K × K) : Prop := s.1.size ≤ 17 ∧ s.2.size ≤ 17 ∧ ¬ s.2 < s.1
instance (s : K × K) : Decidable (okSpan s) := by unfold okSpan; exact inferInstance
def soundT (t : Txn) : Prop := 0 ≤ t.read ∧ t.reads.length ≤ 24 ∧ (∀ s ∈ t.reads, okSpan s) ∧ t.chgs.length ≤ 24 ∧ allAns t.chgs = 0
instance (t : Txn) : Decidable (soundT t) := by unfold soundT; exact inferInstance
def tval (t : Txn) (v1 v2 : Value) : Value := .agg #[.int .i64 t.read, v1, v2]
/-- lengths that a walk needs -/
def fitT (t : Txn) : Prop := t.reads.length < 4611686018427387904 ∧ (∀ s ∈ t.reads, s.1.size < 4611686018427387904 ∧ s.2.size < 4611686018427387904) ∧ t.chgs.length < 4611686018427387904 ∧ ∀ c ∈ t.chgs, smallC c
theorem box_cell {w W : World} {cs : List Value} {t : TypeId} (h : Below (w.heap.size + 1) (w.alloc (.cells cs.toArray t)) W) (i : Nat) (v : Value) (hv : cs[i]? = some v) : W.cell? ⟨w.heap.size, i, none⟩ = some v :=
  (h.cell (p := ⟨w.heap.size, i, none⟩) (Nat.lt_succ_self _)).trans ((Whole.fresh w t cs).cell i v hv)


set_option maxHeartbeats 4000000 in
set_option maxRecDepth 100000 in
theorem rsoundT_any (t : Txn) (hft : fitT t) (v1 v2 : Value) (w : World) (hv1 : RdP w w.heap.size v1 t.reads) (hv2 : RdC w w.heap.size v2 t.chgs) :
    Calls Try.prog 19 #[tval t v1 v2] w fun e w' => e = .returned (.bool (decide (soundT t))) ∧ Below w.heap.size w w' := by
  obtain ⟨h1, h2, h3, h4⟩ := hft
  obtain ⟨read, reads, chgs⟩ := t
  obtain ⟨R, hR⟩ : ∃ R, R = decide (soundT ⟨read, reads, chgs⟩) := ⟨_, rfl⟩
  rw [← hR]
  unfold soundT at hR
  unfold tval
  simp only at hR h1 h2 h3 h4 hv1 hv2 ⊢
  obtain ⟨A1, c1, rfl, _, hi⟩ := hv1.at
  obtain ⟨A2, c2, rfl, _, _⟩ := hv2.at
  have hno : ¬ (0 ≤ read ∧ reads.length ≤ 24 ∧ (∀ s ∈ reads, okSpan s) ∧ chgs.length ≤ 24 ∧ allAns chgs = 0) → R = false := fun h => by rw [hR]; exact decide_eq_false h
  have hyes : 0 ≤ read ∧ reads.length ≤ 24 ∧ (∀ s ∈ reads, okSpan s) ∧ chgs.length ≤ 24 ∧ allAns chgs = 0 → R = true := fun h => by rw [hR]; exact decide_eq_true h
  have HNO := Lib.hid hno; clear hno
  have HYES := Lib.hid hyes; clear hyes
  have hb1 : Below w.heap.size w (w.alloc (.cells #[.int .i64 read, .slice A1 reads.length c1, .slice A2 chgs.length c2] 34)) := (Below.refl _ _).alloc (Nat.le_refl _) _
  have hA := rall_any chgs h4 (.slice A2 chgs.length c2) _ (hv2.next hb1) h3
  have HA := Lib.hid hA; clear hA
  have HB1 := Lib.hid hb1; clear hb1
  have HI := Lib.hid hi; clear hi
  have HS := Lib.hid h2; clear h2
  clear hR hv1 hv2 h4
  by_cases g1 : read < 0
  · go_enter Try.func19, Try.ntmps19
    go_wp2_with fail
    go_ret
    exact ⟨by rw [HNO.out (by omega)]; rfl, HB1.out⟩
  by_cases g2 : (24 : Int) < (reads.length : Int)
  · go_enter Try.func19, Try.ntmps19
    go_wp2_with fail
    go_ret
    exact ⟨by rw [HNO.out (by omega)]; rfl, HB1.out⟩
  by_cases g3 : (24 : Int) < (chgs.length : Int)
  · go_enter Try.func19, Try.ntmps19
    go_wp2_with fail
    go_ret
    exact ⟨by rw [HNO.out (by omega)]; rfl, HB1.out⟩
  generalize allAns chgs = q at HA HNO HYES
  go_enter Try.func19, Try.ntmps19
  go_wp2_with fail
  refine HA.out.mono ?_
  rintro e w2 ⟨rfl, hb2⟩
  rw [World.size_alloc] at hb2
  have HB2 := Lib.hid hb2; clear hb2
  have HBW := Lib.hid (show Below w.heap.size w w2 from HB1.out.trans (HB2.out.mono (by omega)))
  by_cases g4 : q = 0
  · subst g4
    go_wp2_with fail
    go_loopw [3] (fun iv wr => ∃ i : Nat, i ≤ reads.length ∧ iv = .int .i64 i ∧ Below (w.heap.size + 1) (w.alloc (.cells #[.int .i64 read, .slice A1 reads.length c1, .slice A2 chgs.length c2] 34)) wr ∧ Hid (∀ s ∈ reads.take i, okSpan s)) (fun iv _ => reads.length - (intOf iv).toNat)
    case atStart => exact ⟨0, Nat.zero_le _, rfl, HB2.out, Lib.hid (by simp)⟩
    case round =>
      obtain ⟨i, hil, rfl, hbw, HALL⟩ := hrel
      have hBw : Below w.heap.size w wr := HB1.out.trans (hbw.mono (by omega))
      have p1 := box_cell hbw 1 _ rfl
      have HBR := Lib.hid hbw; clear hbw
      have HBW2 := Lib.hid hBw; clear hBw
      by_cases hlt : i < reads.length
      · obtain ⟨b, o, rfl, hbB, k0, k1⟩ := HI.out i hlt
        rw [← HBW2.out.cell (p := ⟨b, _, none⟩) hbB] at k0 k1
        have hsm := HS.out reads[i] (List.getElem_mem hlt)
        have hyes : okSpan reads[i] → ∀ s ∈ reads.take (i + 1), okSpan s := fun h n hn => by
          rw [List.take_add_one, List.getElem?_eq_getElem hlt, List.mem_append] at hn
          rcases hn with hn | hn
          · exact HALL.out n hn
          · simp only [Option.toList_some, List.mem_singleton] at hn; rw [hn]; exact h
        have hno : ¬ okSpan reads[i] → R = false := fun h => HNO.out fun hall => h (hall.2.2.1 _ (List.getElem_mem hlt))
        generalize reads[i] = z at k0 k1 hyes hno hsm
        obtain ⟨x, y⟩ := z
        unfold okSpan at hyes hno
        simp only at k0 k1 hsm hyes hno
        have HY := Lib.hid hyes; clear hyes
        have HN := Lib.hid hno; clear hno
        have hwr : wr.heap.size ≤ wr.drew.heap.size := Nat.le_refl _
        have hbs2 : b < wr.heap.size := by have := HBW2.out.size; omega
        have hws2 : w.heap.size < wr.heap.size := by have := HBR.out.size; simp at this; omega
        have HK0 := Lib.hid (fun W (hW : Below wr.heap.size wr W) => (hW.cell (p := ⟨b, o + i * 2, none⟩) hbs2).trans k0)
        have HK1 := Lib.hid (fun W (hW : Below wr.heap.size wr W) => (hW.cell (p := ⟨b, o + i * 2 + 1, none⟩) hbs2).trans k1)
        have HK2 := Lib.hid (fun W (hW : Below wr.heap.size wr W) => (hW.cell (p := ⟨w.heap.size, 1, none⟩) hws2).trans p1)
        have hi1 : (i : Int) < (reads.length : Int) := by omega
        have hi0 : (0 : Int) ≤ (i : Int) := by omega
        clear hbs2 hws2 hwr
        have HBD := Lib.hid (show Below w.heap.size w wr.drew from HBW2.out.drew)
        have HBRD := Lib.hid (HBR.out.drew)
        by_cases ha : (17 : Int) < (x.size : Int)
        · have hf := HN.out (fun h => by omega)
          have HF := Lib.hid hf; clear hf
          go_wp2_with fail
          clear k0 k1 p1
          refine wp_region_planT (fun W => Below wr.heap.size wr W) (.take 0 (.take 1 (.take 2 (.take 3 (.take 4 (.take 5 (.take 6 (.take 7 (.take 8 (.take 9 (.take 10 (.take 11 (.take 12 (.take 13 (.take 14 (.take 15 (.take 16 (.take 17 (.take 18 (.take 19 (.take 20 (.take 21 (.take 22 (.take 23 (.take 24 (.take 25 (.take 26 (.take 27 (.take 28 (.take 29 (.take 30 (.take 31 (.take 32 .done))))))))))))))))))))))))))))))))) (by kernel_rfl) (by kernel_rfl) (fun _ _ d _ _ h => by cases d <;> exact h) ((Below.refl _ _).drew) ?_
          repeat (first | (refine PlanT.takeI (v := ?_) rfl rfl ?_ ?_; rotate_left; (focus (intro W hW; have k0 := HK0.out W hW; have k1 := HK1.out W hW; have k2 := HK2.out W hW; go_simp; (try with_reducible rfl); done)); (try simp only [Act.put, List.setIfInBounds_toArray, List.set_cons_zero, List.set_cons_succ])) | (refine PlanT.skip rfl rfl ?_; (try simp only [Act.put, List.setIfInBounds_toArray, List.set_cons_zero, List.set_cons_succ])))
          simp only [PlanT]
          go_wp2_with fail
          go_ret
          exact ⟨by rw [HF.out]; rfl, HBD.out⟩
        have HDA := Lib.hid (show decide ((17 : Int) < (x.size : Int)) = false from decide_eq_false ha)
        by_cases hb : (17 : Int) < (y.size : Int)
        · have hf := HN.out (fun h => by omega)
          have HF := Lib.hid hf; clear hf
          go_wp2_with fail
          clear k0 k1 p1
          refine wp_region_planT (fun W => Below wr.heap.size wr W) (.take 0 (.take 1 (.take 2 (.take 3 (.take 4 (.take 5 (.take 6 (.take 7 (.take 8 (.take 9 (.take 10 (.take 11 (.take 12 (.take 13 (.take 14 (.take 15 (.take 16 (.take 17 (.take 18 (.take 19 (.take 20 (.take 21 (.take 22 (.take 23 (.take 24 (.take 25 (.take 26 (.take 27 (.take 28 (.take 29 (.take 30 (.take 31 (.take 32 .done))))))))))))))))))))))))))))))))) (by kernel_rfl) (by kernel_rfl) (fun _ _ d _ _ h => by cases d <;> exact h) ((Below.refl _ _).drew) ?_
          repeat (first | (refine PlanT.takeI (v := ?_) rfl rfl ?_ ?_; rotate_left; (focus (intro W hW; have k0 := HK0.out W hW; have k1 := HK1.out W hW; have k2 := HK2.out W hW; have kda := HDA.out; go_simp; (try with_reducible rfl); done)); (try simp only [Act.put, List.setIfInBounds_toArray, List.set_cons_zero, List.set_cons_succ])) | (refine PlanT.skip rfl rfl ?_; (try simp only [Act.put, List.setIfInBounds_toArray, List.set_cons_zero, List.set_cons_succ])))
          simp only [PlanT]
          go_wp2_with fail
          go_ret
          exact ⟨by rw [HF.out]; rfl, HBD.out⟩
        have HDB := Lib.hid (show decide ((17 : Int) < (y.size : Int)) = false from decide_eq_false hb)
        by_cases hxy : y < x
        · have hf := HN.out (fun h => h.2.2 hxy)
          have HF := Lib.hid hf; clear hf
          go_wp2_with fail
          clear k0 k1 p1
          refine wp_region_planT (fun W => Below wr.heap.size wr W) (.take 0 (.take 1 (.take 2 (.take 3 (.take 4 (.take 5 (.take 6 (.take 7 (.take 8 (.take 9 (.take 10 (.take 11 (.take 12 (.take 13 (.take 14 (.take 15 (.take 16 (.take 17 (.take 18 (.take 19 (.take 20 (.take 21 (.take 22 (.take 23 (.take 24 (.take 25 (.take 26 (.take 27 (.take 28 (.take 29 (.take 30 (.take 31 (.take 32 .done))))))))))))))))))))))))))))))))) (by kernel_rfl) (by kernel_rfl) (fun _ _ d _ _ h => by cases d <;> exact h) ((Below.refl _ _).drew) ?_
          repeat (first | (refine PlanT.takeI (v := ?_) rfl rfl ?_ ?_; rotate_left; (focus (intro W hW; have k0 := HK0.out W hW; have k1 := HK1.out W hW; have k2 := HK2.out W hW; have kda := HDA.out; have kdb := HDB.out; go_simp; (try with_reducible rfl); done)); (try simp only [Act.put, List.setIfInBounds_toArray, List.set_cons_zero, List.set_cons_succ])) | (refine PlanT.skip rfl rfl ?_; (try simp only [Act.put, List.setIfInBounds_toArray, List.set_cons_zero, List.set_cons_succ])))
          simp only [PlanT]
          go_wp2_with fail
          go_ret
          exact ⟨by rw [HF.out]; rfl, HBD.out⟩
        · have HDC := Lib.hid (show decide (y < x) = false from decide_eq_false hxy)
          have hok := HY.out ⟨by omega, by omega, hxy⟩
          have HOK := Lib.hid hok; clear hok
          go_wp2_with fail
          clear k0 k1 p1
          refine wp_region_planT (fun W => Below wr.heap.size wr W) (.take 0 (.take 1 (.take 2 (.take 3 (.take 4 (.take 5 (.take 6 (.take 7 (.take 8 (.take 9 (.take 10 (.take 11 (.take 12 (.take 13 (.take 14 (.take 15 (.take 16 (.take 17 (.take 18 (.take 19 (.take 20 (.take 21 (.take 22 (.take 23 (.take 24 (.take 25 (.take 26 (.take 27 (.take 28 (.take 29 (.take 30 (.take 31 (.take 32 .done))))))))))))))))))))))))))))))))) (by kernel_rfl) (by kernel_rfl) (fun _ _ d _ _ h => by cases d <;> exact h) ((Below.refl _ _).drew) ?_
          repeat (first | (refine PlanT.takeI (v := ?_) rfl rfl ?_ ?_; rotate_left; (focus (intro W hW; have k0 := HK0.out W hW; have k1 := HK1.out W hW; have k2 := HK2.out W hW; have kda := HDA.out; have kdb := HDB.out; have kdc := HDC.out; go_simp; (try with_reducible rfl); done)); (try simp only [Act.put, List.setIfInBounds_toArray, List.set_cons_zero, List.set_cons_succ])) | (refine PlanT.skip rfl rfl ?_; (try simp only [Act.put, List.setIfInBounds_toArray, List.set_cons_zero, List.set_cons_succ])))
          simp only [PlanT]
          go_wp2_with fail
          go_roundw
          case rel => exact ⟨i + 1, by omega, by go_num, HBRD.out, Lib.hid HOK.out⟩
          case measure => simp [intOf]; omega
      · have hd : R = true := HYES.out ⟨by omega, by omega, by
          have := HALL.out
          rwa [List.take_of_length_le (by omega)] at this, by omega, trivial⟩
        have HD2 := Lib.hid hd; clear hd
        go_wp2_with fail
        go_ret
        exact ⟨by rw [HD2.out]; rfl, HBW2.out⟩
  · have hf := HNO.out (fun h => g4 h.2.2.2.2)
    have HF := Lib.hid hf; clear hf
    go_wp2_with fail
    go_ret
    exact ⟨by rw [HF.out]; rfl, HBW.out⟩
end Go.Proofs.Ytmakgjokadcfjaa
namespace Go.Proofs.Ytmakgjokadcfjaa

/-! ### verdicts put together -/
def okV (x : Int) : Prop := 1 ≤ x ∧ x ≤ 3
instance (x : Int) : Decidable (okV x) := by unfold okV; exact inferInstance
/-- the greatest, at least v -/
def topV (v : Int) : List Int → Int
  | [] => v
  | x :: l => topV (if x > v then x else v) l
theorem topV_spec : ∀ (l : List Int) (v : Int), v ≤ topV v l ∧ (∀ x ∈ l, x ≤ topV v l) ∧ (topV v l = v ∨ topV v l ∈ l)
  | [], v => ⟨Int.le_refl _, by simp, .inl rfl⟩
  | y :: l, v => by
    have ih := topV_spec l (if y > v then y else v)
    have e : topV v (y :: l) = topV (if y > v then y else v) l := rfl
    rw [e]
    generalize topV (if y > v then y else v) l = z at ih ⊢
    obtain ⟨h1, h2, h3⟩ := ih
    by_cases hy : y > v
    · rw [if_pos hy] at h1 h3
      refine ⟨by omega, fun x hx => ?_, ?_⟩
      · rcases List.mem_cons.1 hx with rfl | hx
        · exact h1
        · exact h2 x hx
      · rcases h3 with h3 | h3
        · exact .inr (by simp [h3])
        · exact .inr (by simp [h3])
    · rw [if_neg hy] at h1 h3
      refine ⟨h1, fun x hx => ?_, ?_⟩
      · rcases List.mem_cons.1 hx with rfl | hx
        · omega
        · exact h2 x hx
      · rcases h3 with h3 | h3
        · exact .inl h3
        · exact .inr (by simp [h3])
theorem topV_eq {l : List Int} {v m : Int} (h1 : v ≤ m) (h2 : ∀ x ∈ l, x ≤ m) (h3 : m = v ∨ m ∈ l) : topV v l = m := by
  obtain ⟨g1, g2, g3⟩ := topV_spec l v
  have : topV v l ≤ m := by rcases g3 with g3 | g3; · omega
                            · exact h2 _ g3
  have : m ≤ topV v l := by rcases h3 with h3 | h3; · omega
                            · exact g2 _ h3
  omega
theorem topV_ok {l : List Int} (h : ∀ x ∈ l, okV x) : okV (topV 1 l) := by
  obtain ⟨g1, _, g3⟩ := topV_spec l 1
  rcases g3 with g3 | g3
  · rw [g3]; exact ⟨by decide, by decide⟩
  · exact h _ g3
/-- what stands at place k -/
def colV (ls : List (List Int)) (k : Nat) : List Int := ls.map fun l => l.getD k 0
def lenV (ls : List (List Int)) : Nat := (ls.headD []).length
/-- all have the one length -/
def evenV (ls : List (List Int)) : Prop := ls ≠ [] ∧ ∀ l ∈ ls, l.length = lenV ls
def allV (ls : List (List Int)) : Prop := ∀ l ∈ ls, ∀ x ∈ l, okV x
instance (ls : List (List Int)) : Decidable (evenV ls) := by unfold evenV; exact inferInstance
instance (ls : List (List Int)) : Decidable (allV ls) := by unfold allV; exact inferInstance
def bothL (ls : List (List Int)) : List Int := (List.range (lenV ls)).map fun k => topV 1 (colV ls k)
def bothE (ls : List (List Int)) : Int := if evenV ls then (if allV ls then 0 else 2) else 1
def bothAns (ls : List (List Int)) : List Int × Int := if bothE ls = 0 then (bothL ls, 0) else ([], bothE ls)
theorem bothE_zero {ls : List (List Int)} : bothE ls = 0 ↔ evenV ls ∧ allV ls := by
  unfold bothE
  by_cases h : evenV ls
  · by_cases g : allV ls <;> simp [h, g]
  · simp [h]
theorem lenV_mem {ls : List (List Int)} (h : ls ≠ []) : ∃ l ∈ ls, l.length = lenV ls := by
  cases ls with
  | nil => exact absurd rfl h
  | cons l r => exact ⟨l, List.mem_cons_self .., rfl⟩
theorem evenV_of {ls : List (List Int)} {n : Nat} (h : ls ≠ []) (g : ∀ l ∈ ls, l.length = n) : evenV ls ∧ lenV ls = n := by
  obtain ⟨l, hl, e⟩ := lenV_mem h
  have := g l hl
  exact ⟨⟨h, fun x hx => by rw [g x hx]; omega⟩, by omega⟩
theorem evenV_same {ls ms : List (List Int)} (h : ∀ l, l ∈ ls ↔ l ∈ ms) (g : evenV ls) : evenV ms ∧ lenV ms = lenV ls := by
  refine evenV_of (fun e => ?_) fun l hl => g.2 l ((h l).2 hl)
  obtain ⟨l, hl, _⟩ := lenV_mem g.1
  have := (h l).1 hl
  rw [e] at this
  exact absurd this (List.not_mem_nil)
theorem topV_same {l m : List Int} {v : Int} (h : ∀ x, x ∈ l ↔ x ∈ m) : topV v l = topV v m := by
  obtain ⟨g1, g2, g3⟩ := topV_spec m v
  exact topV_eq g1 (fun x hx => g2 x ((h x).1 hx)) (g3.imp id fun g => (h _).2 g)
theorem colV_mem {ls : List (List Int)} {k : Nat} {x : Int} : x ∈ colV ls k ↔ ∃ l ∈ ls, l.getD k 0 = x := by
  unfold colV
  exact List.mem_map
/-- it does not matter in which order lists are put together, nor how often -/
theorem both_same {ls ms : List (List Int)} (h : ∀ l, l ∈ ls ↔ l ∈ ms) : bothAns ls = bothAns ms := by
  have hE : bothE ls = bothE ms := by
    unfold bothE
    have h1 : evenV ls ↔ evenV ms := ⟨fun g => (evenV_same h g).1, fun g => (evenV_same (fun l => (h l).symm) g).1⟩
    have h2 : allV ls ↔ allV ms := ⟨fun g l hl => g l ((h l).2 hl), fun g l hl => g l ((h l).1 hl)⟩
    by_cases e1 : evenV ls
    · rw [if_pos e1, if_pos (h1.1 e1)]
      by_cases e2 : allV ls
      · rw [if_pos e2, if_pos (h2.1 e2)]
      · rw [if_neg e2, if_neg (fun g => e2 (h2.2 g))]
    · rw [if_neg e1, if_neg (fun g => e1 (h1.2 g))]
  unfold bothAns
  rw [hE]
  by_cases e : bothE ms = 0
  · rw [if_pos e, if_pos e]
    have hl := (evenV_same h (bothE_zero.1 (hE.trans e)).1).2
    have : bothL ls = bothL ms := by
      unfold bothL
      rw [hl]
      refine List.map_congr_left fun k _ => topV_same fun x => ?_
      rw [colV_mem, colV_mem]
      exact ⟨fun ⟨l, hl, e⟩ => ⟨l, (h l).1 hl, e⟩, fun ⟨l, hl, e⟩ => ⟨l, (h l).2 hl, e⟩⟩
    rw [this]
  · rw [if_neg e, if_neg e]
theorem bothL_length (ls : List (List Int)) : (bothL ls).length = lenV ls := by unfold bothL; simp
theorem bothL_getD {ls : List (List Int)} {k : Nat} (hk : k < lenV ls) : (bothL ls).getD k 0 = topV 1 (colV ls k) := by
  unfold bothL
  rw [List.getD_eq_getElem?_getD, List.getElem?_map, List.getElem?_range hk]
  rfl
theorem colV_ok {ls : List (List Int)} (h : bothE ls = 0) {k : Nat} (hk : k < lenV ls) : ∀ x ∈ colV ls k, okV x := fun x hx => by
  obtain ⟨l, hl, rfl⟩ := colV_mem.1 hx
  obtain ⟨h1, h2⟩ := bothE_zero.1 h
  have e := h1.2 l hl
  refine h2 l hl _ ?_
  rw [List.getD_eq_getElem?_getD, List.getElem?_eq_getElem (by omega)]
  exact List.getElem_mem _
theorem bothL_ok {ls : List (List Int)} (h : bothE ls = 0) : ∀ x ∈ bothL ls, okV x := fun x hx => by
  unfold bothL at hx
  obtain ⟨k, hk, rfl⟩ := List.mem_map.1 hx
  exact topV_ok (colV_ok h (List.mem_range.1 hk))
/-- one by one is all at once -/
theorem both_step {a b c : List Int} (h : bothE [a, b, c] = 0) : bothE [a, b] = 0 ∧ bothE [bothL [a, b], c] = 0 ∧ bothL [bothL [a, b], c] = bothL [a, b, c] := by
  obtain ⟨h1, h2⟩ := bothE_zero.1 h
  have eb : b.length = a.length := h1.2 b (by simp)
  have ec : c.length = a.length := h1.2 c (by simp)
  have hab : bothE [a, b] = 0 := bothE_zero.2 ⟨(evenV_of (n := a.length) (by simp) (by simp [eb])).1, fun l hl => h2 l (by simp at hl ⊢; rcases hl with rfl | rfl <;> simp)⟩
  have hL : (bothL [a, b]).length = a.length := bothL_length _
  have hxc : bothE [bothL [a, b], c] = 0 := by
    refine bothE_zero.2 ⟨(evenV_of (n := a.length) (by simp) (by simp [ec, hL])).1, fun l hl => ?_⟩
    simp only [List.mem_cons, List.not_mem_nil, or_false] at hl
    rcases hl with rfl | rfl
    · exact bothL_ok hab
    · exact h2 l (by simp)
  refine ⟨hab, hxc, ?_⟩
  have e1 : lenV [bothL [a, b], c] = a.length := hL
  have e2 : lenV [a, b, c] = a.length := rfl
  show (List.range (lenV [bothL [a, b], c])).map _ = (List.range (lenV [a, b, c])).map _
  rw [e1, e2]
  refine List.map_congr_left fun k hk => ?_
  have hk : k < a.length := List.mem_range.1 hk
  have e3 : colV [bothL [a, b], c] k = [topV 1 [a.getD k 0, b.getD k 0], c.getD k 0] := by
    unfold colV
    simp only [List.map_cons, List.map_nil]
    rw [bothL_getD (show k < lenV [a, b] from hk)]
    rfl
  have e4 : colV [a, b, c] k = [a.getD k 0, b.getD k 0, c.getD k 0] := rfl
  rw [e3, e4]
  obtain ⟨g1, g2, g3⟩ := topV_spec [a.getD k 0, b.getD k 0] 1
  obtain ⟨f1, f2, f3⟩ := topV_spec [a.getD k 0, b.getD k 0, c.getD k 0] 1
  generalize topV 1 [a.getD k 0, b.getD k 0] = y at g1 g2 g3
  generalize topV 1 [a.getD k 0, b.getD k 0, c.getD k 0] = z at f1 f2 f3
  simp only [List.mem_cons, List.not_mem_nil, or_false, forall_eq_or_imp, forall_eq] at g2 g3 f2 f3
  refine topV_eq f1 ?_ ?_
  · simp only [List.mem_cons, List.not_mem_nil, or_false, forall_eq_or_imp, forall_eq]
    omega
  · simp only [List.mem_cons, List.not_mem_nil, or_false]
    omega
end Go.Proofs.Ytmakgjokadcfjaa
namespace Go.Proofs.Ytmakgjokadcfjaa

theorem all_zero {l : List Chg} : allAns l = 0 ↔ ∀ c ∈ l, checkAns c = 0 := by
  induction l with
  | nil => simp [allAns]
  | cons c l ih =>
    unfold allAns
    by_cases h : checkAns c = 0
    · simp [h, ih]
    · simp [h]
def sumC (l : List Chg) : Nat := (l.map fun c => c.key.size + c.val.size + 8).sum
def sumS (l : List (K × K)) : Nat := (l.map fun s => s.1.size + s.2.size + 8).sum
theorem sum_take (l : List Nat) (i : Nat) : (l.take i).sum ≤ l.sum := by
  have := congrArg List.sum (List.take_append_drop i l)
  rw [List.sum_append] at this
  omega
theorem sumC_take (l : List Chg) (i : Nat) : sumC (l.take i) ≤ sumC l := by
  unfold sumC
  rw [List.map_take]
  exact sum_take _ _
theorem sumS_take (l : List (K × K)) (i : Nat) : sumS (l.take i) ≤ sumS l := by
  unfold sumS
  rw [List.map_take]
  exact sum_take _ _
/-- is anything of it too large? -/
def bigT (t : Txn) : Prop := 24 < t.reads.length ∨ 24 < t.chgs.length ∨ (∃ c ∈ t.chgs, 512 < c.key.size ∨ 512 < c.val.size) ∨ (∃ s ∈ t.reads, 17 < s.1.size ∨ 17 < s.2.size) ∨ 512 < sumC t.chgs + sumS t.reads
instance (t : Txn) : Decidable (bigT t) := by unfold bigT; exact inferInstance
def checkT (t : Txn) : Int := if t.read < 0 then 1 else if bigT t then 6 else if ∃ s ∈ t.reads, s.2 < s.1 then 5 else allAns t.chgs
theorem checkT_zero {t : Txn} : checkT t = 0 ↔ 0 ≤ t.read ∧ ¬ bigT t ∧ (∀ s ∈ t.reads, ¬ s.2 < s.1) ∧ allAns t.chgs = 0 := by
  unfold checkT
  by_cases h1 : t.read < 0
  · rw [if_pos h1]
    exact ⟨fun h => absurd h (by decide), fun h => by omega⟩
  rw [if_neg h1]
  by_cases h2 : bigT t
  · rw [if_pos h2]
    exact ⟨fun h => absurd h (by decide), fun h => absurd h2 h.2.1⟩
  rw [if_neg h2]
  by_cases h3 : ∃ s ∈ t.reads, s.2 < s.1
  · rw [if_pos h3]
    obtain ⟨s, hs, h⟩ := h3
    exact ⟨fun h => absurd h (by decide), fun g => absurd h (g.2.2.1 s hs)⟩
  rw [if_neg h3]
  exact ⟨fun h => ⟨by omega, h2, fun s hs g => h3 ⟨s, hs, g⟩, h⟩, fun h => h.2.2.2⟩
/-- one that may be is sound -/
theorem checkT_sound {t : Txn} (h : checkT t = 0) : soundT t := by
  obtain ⟨h1, h2, h3, h4⟩ := checkT_zero.1 h
  unfold bigT at h2
  refine ⟨h1, by omega, fun s hs => ⟨?_, ?_, h3 s hs⟩, by omega, h4⟩
  · exact Nat.le_of_not_lt fun g => h2 (.inr (.inr (.inr (.inl ⟨s, hs, .inl g⟩))))
  · exact Nat.le_of_not_lt fun g => h2 (.inr (.inr (.inr (.inl ⟨s, hs, .inr g⟩))))
/-- a part of one that may be may be -/
theorem checkT_part {t : Txn} (h : checkT t = 0) (i j : Nat) : checkT ⟨t.read, t.reads.take i, t.chgs.take j⟩ = 0 := by
  obtain ⟨h1, h2, h3, h4⟩ := checkT_zero.1 h
  refine checkT_zero.2 ⟨h1, ?_, fun s hs => h3 s (List.mem_of_mem_take hs), all_zero.2 fun c hc => all_zero.1 h4 c (List.mem_of_mem_take hc)⟩
  have e1 : (t.reads.take i).length ≤ t.reads.length := by rw [List.length_take]; omega
  have e2 : (t.chgs.take j).length ≤ t.chgs.length := by rw [List.length_take]; omega
  have e3 := sumC_take t.chgs j
  have e4 := sumS_take t.reads i
  rintro (g | g | ⟨c, hc, g⟩ | ⟨s, hs, g⟩ | g)
  · exact h2 (.inl (Nat.lt_of_lt_of_le g e1))
  · exact h2 (.inr (.inl (Nat.lt_of_lt_of_le g e2)))
  · exact h2 (.inr (.inr (.inl ⟨c, List.mem_of_mem_take hc, g⟩)))
  · exact h2 (.inr (.inr (.inr (.inl ⟨s, List.mem_of_mem_take hs, g⟩))))
  · refine h2 (.inr (.inr (.inr (.inr ?_))))
    simp only at g
    omega

/-! ### the changes of those that are fine -/
/-- behind those picked already -/
def pickL (out : List Chg) : List (Txn × Int) → Option (List Chg)
  | [] => some out
  | x :: l => if okV x.2 ∧ soundT x.1 then pickL (if x.2 = 1 then out ++ x.1.chgs else out) l else none
def pickAns (l : List Txn) (vs : List Int) : List Chg × Int :=
  if l.length = vs.length then (match pickL [] (l.zip vs) with | some r => (r, 0) | none => ([], 2)) else ([], 1)
def fillV (l : List Txn) : Nat := min l.length 4
def fines (l : List (Txn × Int)) : List Chg := l.flatMap fun x => if x.2 = 1 then x.1.chgs else []
theorem pickL_eq : ∀ (l : List (Txn × Int)) (out : List Chg), pickL out l = if ∀ x ∈ l, okV x.2 ∧ soundT x.1 then some (out ++ fines l) else none
  | [], out => by simp [pickL, fines]
  | x :: l, out => by
    have ih := pickL_eq l (if x.2 = 1 then out ++ x.1.chgs else out)
    unfold pickL
    by_cases h : okV x.2 ∧ soundT x.1
    · rw [if_pos h, ih]
      have e : (if x.2 = 1 then out ++ x.1.chgs else out) ++ fines l = out ++ fines (x :: l) := by
        unfold fines
        rw [List.flatMap_cons]
        by_cases g : x.2 = 1
        · rw [if_pos g, if_pos g, List.append_assoc]
        · rw [if_neg g, if_neg g, List.nil_append]
      rw [e]
      by_cases g : ∀ y ∈ l, okV y.2 ∧ soundT y.1
      · rw [if_pos g, if_pos (fun y hy => by rcases List.mem_cons.1 hy with rfl | hy; exact h; exact g y hy)]
      · rw [if_neg g, if_neg (fun f => g fun y hy => f y (List.mem_cons_of_mem _ hy))]
    · rw [if_neg h, if_neg (fun f => h (f x (List.mem_cons_self ..)))]
theorem pickAns_eq {l : List Txn} {vs : List Int} (hl : l.length = vs.length) : pickAns l vs = if ∀ x ∈ l.zip vs, okV x.2 ∧ soundT x.1 then (fines (l.zip vs), 0) else ([], 2) := by
  unfold pickAns
  rw [if_pos hl, pickL_eq]
  by_cases h : ∀ x ∈ l.zip vs, okV x.2 ∧ soundT x.1
  · rw [if_pos h, if_pos h, List.nil_append]
  · rw [if_neg h, if_neg h]
/-- the law's verdicts: all fine; none -/
def fineOf (n : Nat) : List Int := List.replicate n 1
def noneOf (n : Nat) : List Int := (List.range n).map fun i => 2 + ((i % 2 : Nat) : Int)
theorem fineOf_succ (n : Nat) : fineOf (n + 1) = fineOf n ++ [1] := List.replicate_succ'
theorem noneOf_succ (n : Nat) : noneOf (n + 1) = noneOf n ++ [2 + ((n % 2 : Nat) : Int)] := by
  unfold noneOf
  rw [List.range_succ, List.map_append]
  rfl
theorem mem_zip_okV {l : List Txn} {vs : List Int} (hl : l.length = vs.length) (h : ∀ v ∈ vs, okV v) : (∀ x ∈ l.zip vs, okV x.2 ∧ soundT x.1) ↔ ∀ t ∈ l, soundT t := by
  constructor
  · intro g t ht
    obtain ⟨i, hi, e⟩ := List.mem_iff_getElem.1 ht
    have := g (t, vs[i]) (by
      rw [List.mem_iff_getElem]
      exact ⟨i, by rw [List.length_zip]; omega, by rw [List.getElem_zip, e]⟩)
    exact this.2
  · intro g x hx
    obtain ⟨h1, h2⟩ := List.of_mem_zip (show (x.1, x.2) ∈ l.zip vs from hx)
    exact ⟨h _ h2, g _ h1⟩
theorem fineOf_ok (n : Nat) : ∀ v ∈ fineOf n, okV v := fun v hv => by rw [List.eq_of_mem_replicate hv]; exact ⟨by decide, by decide⟩
theorem noneOf_ok (n : Nat) : ∀ v ∈ noneOf n, okV v ∧ v ≠ 1 := fun v hv => by
  obtain ⟨i, _, rfl⟩ := List.mem_map.1 hv
  exact ⟨⟨by omega, by omega⟩, by omega⟩
theorem fines_fine : ∀ (l : List Txn), fines (l.zip (fineOf l.length)) = l.flatMap Txn.chgs
  | [] => rfl
  | t :: l => by
    have ih := fines_fine l
    unfold fines at ih ⊢
    rw [show fineOf (t :: l).length = 1 :: fineOf l.length from rfl, List.zip_cons_cons, List.flatMap_cons, List.flatMap_cons, ih]
    rfl
theorem fines_none {l : List Txn} {vs : List Int} (h : ∀ v ∈ vs, v ≠ 1) : fines (l.zip vs) = [] := by
  unfold fines
  rw [List.flatMap_eq_nil_iff]
  intro x hx
  rw [if_neg (h _ (List.of_mem_zip (show (x.1, x.2) ∈ l.zip vs from hx)).2)]
/-- of those that are all fine all are picked; of those that are none, none -/
theorem pick_all (l : List Txn) : (pickAns l (fineOf l.length)).2 = (pickAns l (noneOf l.length)).2 ∧ (pickAns l (noneOf l.length)).1 = [] ∧ ((pickAns l (fineOf l.length)).2 = 0 → (pickAns l (fineOf l.length)).1 = l.flatMap Txn.chgs) := by
  have h1 : l.length = (fineOf l.length).length := by simp [fineOf]
  have h2 : l.length = (noneOf l.length).length := by simp [noneOf]
  rw [pickAns_eq h1, pickAns_eq h2]
  have k1 := mem_zip_okV h1 (fineOf_ok _)
  have k2 := mem_zip_okV h2 fun v hv => (noneOf_ok _ v hv).1
  by_cases h : ∀ t ∈ l, soundT t
  · rw [if_pos (k1.2 h), if_pos (k2.2 h)]
    exact ⟨rfl, fines_none fun v hv => (noneOf_ok _ v hv).2, fun _ => fines_fine l⟩
  · rw [if_neg (fun g => h (k1.1 g)), if_neg (fun g => h (k2.1 g))]
    exact ⟨rfl, rfl, fun h => by cases h⟩
end Go.Proofs.Ytmakgjokadcfjaa
namespace Go.Proofs.Ytmakgjokadcfjaa
open Go.ChangeShapes Go.WideShapes Go.ChangeAt Go.RowKit Go.Joins Go.Deep

set_option maxRecDepth 100000 in
theorem info_int : (Try.prog.info? 3).map (fun i => (i.zero, i.size, i.bytes)) = some (some (.int .i64 0), 1, 8) := by kernel_rfl
/-- an int's cell -/
def encI (n : Int) : List Value := [.int .i64 n]
set_option maxRecDepth 100000 in
theorem encI_len (n : Int) : (encI n).length = 1 := rfl
set_option maxRecDepth 100000 in
theorem encI_one (n : Int) : ∀ u ∈ encI n, u.oneCell' = true := by simp [encI, Value.oneCell']
abbrev RdI (w : World) (B : Nat) (v : Value) (l : List Int) : Prop := Rd encI 1 w B v l
abbrev OwnI (w : World) (base : Nat) (v : Value) (l : List Int) : Prop := Own encI 1 3 w base v l
set_option maxRecDepth 100000 in
theorem OwnI.rdI {w : World} {base : Nat} {v : Value} {l : List Int} (h : OwnI w base v l) : RdI w w.heap.size v l := Own.rd encI_len h
set_option maxRecDepth 100000 in
theorem RdI.at {w : World} {B : Nat} {v : Value} {l : List Int} (h : RdI w B v l) : ∃ A c, v = .slice A l.length c ∧ l.length ≤ c ∧ ∀ i (_ : i < l.length), ∃ b o, A = some ⟨b, o, none⟩ ∧ b < B ∧ w.cell? ⟨b, o + i, none⟩ = some (.int .i64 l[i]) := by
  obtain ⟨A, c, hv, hc, hi⟩ := h
  refine ⟨A, c, hv, hc, fun i hs => ?_⟩
  obtain ⟨b, o, hA, hB, h1⟩ := hi i hs
  have := h1 0 _ rfl
  simp only [Nat.mul_one, Nat.add_zero] at this
  exact ⟨b, o, hA, hB, this⟩
set_option maxRecDepth 100000 in
theorem RdI.one (w : World) (n : Int) : RdI (w.alloc (.cells #[.int .i64 n] 3)) (w.heap.size + 1) (.slice (some ⟨w.heap.size, 0, none⟩) 1 1) [n] := by
  refine ⟨_, 1, rfl, Nat.le_refl _, fun i hi => ⟨w.heap.size, 0, rfl, Nat.lt_succ_self _, fun j u hu => ?_⟩⟩
  obtain rfl : i = 0 := by simp at hi; omega
  match j, hu with
  | 0, hu =>
    simp only [encI, List.getElem_cons_zero, List.getElem?_cons_zero, Option.some.injEq] at hu
    subst hu
    exact World.cell?_alloc_at _ _ _ _ rfl
  | j + 1, hu => simp [encI] at hu
set_option maxRecDepth 100000 in
theorem wpList_addI {ops : Array Oper} {rest : List Oper} {o : Oper} {a : Act} {Q : Exit → Act → World → Prop} {w : World} (hgd : Region.wanted o (yielded ops a.tmps) = true) (s x : Operand)
    (ho : o.op = .call { callee := .builtin .append, args := #[s, x], argTypes := #[23, 23] })
    (base : Nat) (v : Value) (l : List Int) (hs : a.eval s = v) (hown : OwnI w base v l) (B : Nat) (v2 : Value) (p : List Int) (hx : a.eval x = v2) (hp : RdI w B v2 p)
    (hlen : l.length + p.length ≤ 28147497670000) (hbase : base ≤ w.heap.size) (C : Nat) (w0 : World) (hb : Below C w0 w) (hC : C ≤ base)
    (h : ∀ A' c' w', Hid (OwnI w' base (.slice A' (l ++ p).length c') (l ++ p)) → Hid (Below C w0 w') → Hid (base ≤ w'.heap.size) → wpList Try.prog ops Q rest (a.put o.dst (.slice A' (l ++ p).length c')) w') : wpList Try.prog ops Q (o :: rest) a w := by
  obtain ⟨i0, hi, hz0, hz1, hz2⟩ := info_parts info_int
  refine BigFrame.wpList_want hgd fun K hK => ?_
  refine wp_addAny (enc := encI) (k := 1) 23 3 8 i0 _ Try.underlying23 hi hz0 hz1 hz2 rfl (by decide) encI_len encI_one s x ho base v l hs hown B v2 p hx hp (by unfold maxLen; omega) (by omega) hbase fun A' c' w' h1 h2 => ?_
  exact hK _ _ (h A' c' w' (Lib.hid h1) (Lib.hid (hown.grown hb h2 hC (Nat.le_trans hC hbase))) (Lib.hid (Nat.le_trans hbase h2.size)))

/-- what is known of the data of ints -/
def SizedI {H : Type} (d : DataW H) (l : List Int) : Prop := (d = .nil ∧ l = []) ∨ ∃ el sp, d = .slice el sp ∧ el.length = l.length
set_option maxRecDepth 100000 in
/-- a slice of ints that came in reads as a list -/
theorem open_intsI {H : Type} {enc : TypeId × Value → H} {W : World} {base : Nat} {v : Value} {d : DataW H} {p : List MemPlace} (hv : Value.okWide Try.prog W .any base 23 v) (h : DataW.Trod enc Try.prog W 0 (fun _ => true) true 23 v d p) :
    ∃ l, RdI W W.heap.size v l ∧ SizedI d l ∧ ∀ n ∈ l, -9223372036854775808 ≤ n ∧ n < 9223372036854775808 := by
  obtain ⟨a0, len, cap, rfl⟩ := okWide_slice Try.underlying23 hv
  obtain ⟨fuel, hf⟩ := h
  rcases open_ints Try.underlying23 Try.underlying3 (by kernel_rfl) hf with ⟨hcs, hx⟩ | ⟨a, len', cap', zs, hcs, _, hl, hm, hz, hx, hcell, hwz⟩
  · simp only [Value.cells] at hcs
    have e : Value.slice a0 len cap = .slice none 0 0 := by simpa using hcs
    injection e with e1 e2 e3
    subst e1 e2 e3
    simp only [Prod.mk.injEq] at hx
    exact ⟨[], Rd.nil _ _, .inl ⟨hx.1, rfl⟩, by simp⟩
  · simp only [Value.cells] at hcs
    have e : Value.slice a0 len cap = .slice (some a) len' cap' := by simpa using hcs
    injection e with e1 e2 e3
    subst e1 e2 e3
    simp only [Prod.mk.injEq] at hx
    obtain ⟨rfl, rfl⟩ := hx
    simp only [if_true] at hz
    have hb : ∀ n ∈ zs, -9223372036854775808 ≤ n ∧ n < 9223372036854775808 := fun n hn => by
      have h := hwz n hn
      have h1 : IntKind.i64.min = -9223372036854775808 := rfl
      have h2 : IntKind.i64.max = 9223372036854775807 := rfl
      simp only [Lit.wf, Bool.and_eq_true, decide_eq_true_eq] at h
      omega
    have hlen : (zs.take len).length = len := by simp; omega
    refine ⟨zs.take len, ⟨some a, cap, by rw [hlen], by rw [hlen]; exact hl, fun i hi => ?_⟩, .inr ⟨_, _, rfl, by simp [lits]⟩, fun n hn => hb n (List.mem_of_mem_take hn)⟩
    have hi' : i < len := by omega
    have hc := hcell i (by omega)
    have hsp : a.spot = none := by
      have h0 := hcell 0 (by omega)
      have e0 : a.add 0 = a := rfl
      rw [e0] at h0
      exact World.cell?_spot h0
    rw [addr_add a i hsp] at hc
    have hblk := World.block_lt_of_cell? _ _ hc
    refine ⟨a.block, a.off, by cases a; simp only at hsp; subst hsp; rfl, hblk, fun j u hu => ?_⟩
    match j, hu with
    | 0, hu =>
      simp only [encI, List.getElem?_cons_zero, Option.some.injEq] at hu
      subst hu
      have hlt : i < zs.length := by omega
      rw [Nat.mul_one, Nat.add_zero, hc]
      simp [List.getD, hlt]
    | j + 1, hu => simp [encI] at hu
set_option maxRecDepth 100000 in
theorem SizedI.reach {H : Type} {ts : List TypeId} {ds : List (DataW H)} (h : (DataW.weightsEach Try.prog ts ds).all (· ≤ reachBytes) = true) {j : Nat} {d : DataW H} {l : List Int} (hs : SizedI d l) (ht : ts[j]? = some 23) (hd : ds[j]? = some d) : l.length ≤ 17592186043904 := by
  rcases hs with ⟨_, rfl⟩ | ⟨el, sp, rfl, he⟩
  · simp
  · have := sized_slice h ht hd Try.underlying23
    rw [show Try.prog.bytesOf 3 = 8 by kernel_rfl, show reachBytes = 140737488351232 from rfl] at this
    omega
end Go.Proofs.Ytmakgjokadcfjaa
namespace Go.Proofs.Ytmakgjokadcfjaa
open Go.RowKit


set_option maxHeartbeats 1000000 in
set_option maxRecDepth 100000 in
theorem ints_any (a b : List Int) (va vb : Value) (w : World) (hva : RdI w w.heap.size va a) (hvb : RdI w w.heap.size vb b) (hla : a.length < 4611686018427387904) (_hlb : b.length < 4611686018427387904) :
    Calls Try.prog 12 #[va, vb] w fun e w' => e = .returned (.bool (decide (a = b))) ∧ Below w.heap.size w w' := by
  obtain ⟨A1, c1, rfl, hc1, hia⟩ := hva.at
  obtain ⟨A2, c2, rfl, hc2, hib⟩ := hvb.at
  obtain ⟨D, hD⟩ : ∃ D, D = decide (a = b) := ⟨_, rfl⟩
  rw [← hD]
  have HD := Lib.hid hD; clear hD
  clear hva hvb
  by_cases hlen : a.length = b.length
  · have HA := Lib.hid hia; clear hia
    have HB := Lib.hid hib; clear hib
    have HL := Lib.hid hlen
    rw [← hlen]
    rw [← hlen] at hc2
    clear hlen
    obtain ⟨g, hg⟩ : ∃ g, g = w.heap.size := ⟨_, rfl⟩
    have HG := Lib.hid hg; clear hg
    go_enter Try.func12, Try.ntmps12
    go_wp2_with fail
    go_loopw [5] (fun iv wr => ∃ j : Nat, j ≤ a.length ∧ iv = .int .i64 j ∧ Below g w wr ∧ ∀ k (h1 : k < a.length) (h2 : k < b.length), k < j → a[k] = b[k]) (fun iv _ => a.length - (intOf iv).toNat)
    case atStart => exact ⟨0, Nat.zero_le _, rfl, Below.refl _ _, fun k _ _ h => by omega⟩
    case round =>
      obtain ⟨j, hj, rfl, hbw, hall⟩ := hrel
      have HBW := Lib.hid hbw; clear hbw
      have HALL := Lib.hid hall; clear hall
      by_cases hlt : j < a.length
      · have hlt2 : j < b.length := by rw [← HL.out]; exact hlt
        obtain ⟨b1, o1, rfl, hb1, hx⟩ := HA.out j hlt
        obtain ⟨b2, o2, rfl, hb2, hy⟩ := HB.out j hlt2
        have hbd : Below w.heap.size w wr.drew := by have h := HBW.out.drew; rwa [HG.out] at h
        have hx2 : ∀ W, Below wr.drew.heap.size wr.drew W → W.cell? ⟨b1, o1 + j, none⟩ = some (.int .i64 a[j]) := fun W hW => ((hbd.trans (hW.mono hbd.size)).cell (p := ⟨b1, _, none⟩) hb1).trans hx
        have hy2 : ∀ W, Below wr.drew.heap.size wr.drew W → W.cell? ⟨b2, o2 + j, none⟩ = some (.int .i64 b[j]) := fun W hW => ((hbd.trans (hW.mono hbd.size)).cell (p := ⟨b2, _, none⟩) hb2).trans hy
        have hne : a[j] ≠ b[j] → D = false := fun h => by rw [HD.out]; exact decide_eq_false fun e => h (by subst e; rfl)
        have heq : a[j] = b[j] → ∀ k (h1 : k < a.length) (h2 : k < b.length), k < j + 1 → a[k] = b[k] := fun h k h1 h2 hk => by
          rcases Nat.lt_or_ge k j with h' | h'
          · exact HALL.out k h1 h2 h'
          · obtain rfl : k = j := by omega
            exact h
        generalize a[j] = x at hx2 hx hne heq
        generalize b[j] = y at hy2 hy hne heq
        have HX := Lib.hid hx2
        have HY := Lib.hid hy2
        have HNE := Lib.hid hne
        have HEQ := Lib.hid heq
        have hj0 : (0 : Int) ≤ (j : Int) := by omega
        have hj1 : (j : Int) < (a.length : Int) := by omega
        have HBD := Lib.hid hbd
        clear hx hy hx2 hy2 hne heq hbd hlt2
        by_cases hxy : x = y
        all_goals
          go_wp2_with fail
          refine wp_region_planB [(true, 0), (true, 1), (true, 2), (true, 3), (true, 4), (true, 5), (true, 6), (true, 7), (true, 8)] (by kernel_rfl) (by kernel_rfl) (fun _ _ d _ _ h => by cases d <;> exact h) ?_
          repeat (refine PlanB.take (v := ?_) rfl rfl ?_ ?_; rotate_left; (focus (intro W hW; have k1 := HX.out W hW; have k2 := HY.out W hW; go_simp; (try with_reducible rfl); done)); (try simp only [Act.put, List.setIfInBounds_toArray, List.set_cons_zero, List.set_cons_succ]))
          simp only [PlanB]
          go_wp2_with fail
        · go_roundw
          case rel => exact ⟨j + 1, by omega, by go_num, HBW.out.drew, HEQ.out hxy⟩
          case measure => simp [intOf]; omega
        · go_ret
          exact ⟨by rw [HNE.out hxy]; rfl, HBD.out⟩
      · go_wp2_with fail
        go_ret
        refine ⟨?_, by have h := HBW.out; rwa [HG.out] at h⟩
        have : D = true := by
          rw [HD.out]
          refine decide_eq_true (List.ext_getElem HL.out fun k h1 h2 => HALL.out k h1 h2 (by omega))
        rw [this]; rfl
  · have hd : D = false := by rw [HD.out]; exact decide_eq_false fun e => hlen (by rw [e])
    have HD2 := Lib.hid hd
    have hli : ¬ ((a.length : Int) = (b.length : Int)) := by omega
    clear hd hia hib
    go_enter Try.func12, Try.ntmps12
    go_wp2_with fail
    go_ret
    exact ⟨by rw [HD2.out]; rfl, Below.refl _ _⟩
end Go.Proofs.Ytmakgjokadcfjaa
