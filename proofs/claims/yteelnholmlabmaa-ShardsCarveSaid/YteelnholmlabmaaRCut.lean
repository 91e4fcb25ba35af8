/- What the reference's Cut answers. -/
import Derived.Test.YteelnholmlabmaaCOne
import Derived.Test.YteelnholmlabmaaPlanT
namespace Go.Proofs.Yteelnholmlabmaa
open Go.RowKit
attribute [local go_sem] less_eq same_eq le_eq ge_eq gt_eq

/-- what is left of a change in a span -/
def cut1 (s : K × K) (c : Chg) : List Chg :=
  if c.kind = 3 then (if (meet s (cspan c)).1 < (meet s (cspan c)).2 then [⟨3, (meet s (cspan c)).1, (meet s (cspan c)).2⟩] else []) else if hasB s c.key then [c] else []
def cutP (s : K × K) (cs : List Chg) : List Chg := cs.flatMap (cut1 s)
theorem frozen_new (w : World) (c : Array Value) (t : TypeId) (j : Nat) : (w.alloc (.cells c t)).frozen? ⟨w.heap.size, j, none⟩ = false := by
  rw [frozen?_alloc_cells]
  simp [World.frozen?]
theorem two_put (w : World) (G : Nat) (x y : Value) {a b : Value} (h0 : w.cell? ⟨G, 0, none⟩ = some a) (h1 : w.cell? ⟨G, 1, none⟩ = some b) (_z0 : w.frozen? ⟨G, 0, none⟩ = false) (z1 : w.frozen? ⟨G, 1, none⟩ = false) :
    (w.setCell ⟨G, 0, none⟩ x).cell? ⟨G, 1, none⟩ = some b ∧ (w.setCell ⟨G, 0, none⟩ x).frozen? ⟨G, 1, none⟩ = false ∧
    ((w.setCell ⟨G, 0, none⟩ x).setCell ⟨G, 1, none⟩ y).cell? ⟨G, 0, none⟩ = some x ∧ ((w.setCell ⟨G, 0, none⟩ x).setCell ⟨G, 1, none⟩ y).cell? ⟨G, 1, none⟩ = some y := by
  have e : (⟨G, 0, none⟩ : Addr) ≠ ⟨G, 1, none⟩ := by simp
  have k1 := (World.cell?_setCell_other w ⟨G, 0, none⟩ ⟨G, 1, none⟩ x e).trans h1
  refine ⟨k1, ?_, ?_, World.cell?_setCell_same _ _ _ k1⟩
  · rw [World.frozen?_setCell]; exact z1
  · rw [World.cell?_setCell_other _ _ _ _ e.symm]; exact World.cell?_setCell_same _ _ _ h0
theorem wpList_addCg {ops : Array Oper} {rest : List Oper} {o : Oper} {a : Act} {Q : Exit → Act → World → Prop} {w : World} (hgd : Region.wanted o (yielded ops a.tmps) = true) (s x : Operand)
    (ho : o.op = .call { callee := .builtin .append, args := #[s, x], argTypes := #[36, 36] })
    (base : Nat) (v : Value) (l : List Chg) (hs : a.eval s = v) (hown : OwnC w base v l) (B : Nat) (v2 : Value) (p : List Chg) (hx : a.eval x = v2) (hp : RdC w B v2 p)
    (hlen : l.length + p.length ≤ 5629499533000) (hbase : base ≤ w.heap.size) (C : Nat) (w0 : World) (hb : Below C w0 w) (hC : C ≤ base)
    (h : ∀ A' c' w', Hid (OwnC w' base (.slice A' (l ++ p).length c') (l ++ p)) → Hid (Below C w0 w') → Hid (base ≤ w'.heap.size) → (∀ q : Addr, q.block < w.heap.size → v.ownBlock ≠ some q.block → w'.cell? q = w.cell? q) → wpList Try.prog ops Q rest (a.put o.dst (.slice A' (l ++ p).length c')) w') : wpList Try.prog ops Q (o :: rest) a w := by
  obtain ⟨i0, hi, hz0, hz1, hz2⟩ := info_parts info_chg
  refine BigFrame.wpList_want hgd fun K hK => ?_
  refine wp_addAny (enc := encC) (k := 3) 36 67 40 i0 _ Try.underlying36 hi hz0 hz1 hz2 rfl (by decide) encC_len encC_one s x ho base v l hs hown B v2 p hx hp (by unfold maxLen; omega) (by omega) hbase fun A' c' w' h1 h2 => ?_
  exact hK _ _ (h A' c' w' (Lib.hid h1) (Lib.hid (hown.grown hb h2 hC (Nat.le_trans hC hbase))) (Lib.hid (Nat.le_trans hbase h2.size)) fun q hq hne => World.cell?_of_block (h2.block q.block hq (fun e => hne e.symm)))
theorem cut1_len (s : K × K) (c : Chg) : (cut1 s c).length ≤ 1 := by
  unfold cut1
  split
  · split <;> simp
  · split <;> simp
theorem cutP_len (s : K × K) : ∀ cs : List Chg, (cutP s cs).length ≤ cs.length
  | [] => by simp [cutP]
  | c :: r => by
    have h1 := cut1_len s c
    have h2 := cutP_len s r
    simp only [cutP, List.flatMap_cons, List.length_append, List.length_cons] at h2 ⊢
    omega

set_option maxHeartbeats 4000000 in
set_option maxRecDepth 100000 in
theorem rcut_any (s : K × K) (l : List Chg) (hs : ∀ c ∈ l, smallC c) (v : Value) (w : World) (hv : RdC w w.heap.size v l) (hl : l.length ≤ 5629499532000) :
    Calls Try.prog 32 #[spv s, v] w fun e w' => ∃ v', e = .returned v' ∧ OwnC w' w.heap.size v' (cutP s l) ∧ Below w.heap.size w w' := by
  obtain ⟨A, cc, rfl, hcc, hi⟩ := hv.at
  have hb0 : Below w.heap.size w (w.alloc (.cells #[.string s.1, .string s.2] 31)) := (Below.refl _ w).alloc (Nat.le_refl _) _
  obtain ⟨w1, hw1⟩ : ∃ w1, w1 = w.alloc (.cells #[.string s.1, .string s.2] 31) := ⟨_, rfl⟩
  obtain ⟨g, hg⟩ : ∃ g, g = w.heap.size + 1 := ⟨_, rfl⟩
  have hsz : w1.heap.size = g := by rw [hw1, hg]; simp
  have hsc : ∀ W, Below g w1 W → W.cell? ⟨w.heap.size, 0, none⟩ = some (.string s.1) ∧ W.cell? ⟨w.heap.size, 1, none⟩ = some (.string s.2) := fun W hW => by
    have hlt : w.heap.size < g := by omega
    subst hw1
    exact ⟨(hW.cell (p := ⟨w.heap.size, 0, none⟩) hlt).trans (World.cell?_alloc_at _ _ _ _ rfl), (hW.cell (p := ⟨w.heap.size, 1, none⟩) hlt).trans (World.cell?_alloc_at _ _ _ _ rfl)⟩
  have hic : ∀ i (_ : i < l.length), ∃ b o, A = some ⟨b, o, none⟩ ∧ ∀ W, Below g w1 W → W.cell? ⟨b, o + i * 3, none⟩ = some (.int .i64 l[i].kind) ∧ W.cell? ⟨b, o + i * 3 + 1, none⟩ = some (.string l[i].key) ∧ W.cell? ⟨b, o + i * 3 + 2, none⟩ = some (.string l[i].val) := fun i h => by
    obtain ⟨b, o, hA, hbB, k0, k1, k2⟩ := hi i h
    have hbB2 : b < g := by omega
    rw [← hb0.cell (p := ⟨b, o + i * 3, none⟩) hbB, ← hw1] at k0
    rw [← hb0.cell (p := ⟨b, o + i * 3 + 1, none⟩) hbB, ← hw1] at k1
    rw [← hb0.cell (p := ⟨b, o + i * 3 + 2, none⟩) hbB, ← hw1] at k2
    exact ⟨b, o, hA, fun W hW => ⟨(hW.cell (p := ⟨b, _, none⟩) hbB2).trans k0, (hW.cell (p := ⟨b, _, none⟩) hbB2).trans k1, (hW.cell (p := ⟨b, _, none⟩) hbB2).trans k2⟩⟩
  have hb01 : Below w.heap.size w w1 := by rw [hw1]; exact hb0
  have HW1 := Lib.hid hw1; clear hw1
  have HG := Lib.hid hg
  have HSZ := Lib.hid hsz; clear hsz
  have HSC := Lib.hid hsc; clear hsc
  have HIC := Lib.hid hic; clear hic
  have HB01 := Lib.hid hb01; clear hb01 hb0 hi
  have HS := Lib.hid hs; clear hs
  clear hv hg
  unfold spv
  obtain ⟨R, hR⟩ : ∃ R, R = cutP s l := ⟨_, rfl⟩
  rw [← hR]
  have HR := Lib.hid hR; clear hR
  obtain ⟨s1, s2⟩ := s
  simp only at HSC HW1 ⊢
  go_enter Try.func32, Try.ntmps32
  go_wp2_with fail
  go_loopw [5, 6] (fun ov iv wr => ∃ (i : Nat) (out : List Chg) (A' : Option Addr) (c' : Nat), i ≤ l.length ∧ iv = .int .i64 i ∧ ov = .slice A' out.length c' ∧ OwnC wr g (.slice A' out.length c') out ∧ out = cutP (s1, s2) (l.take i) ∧ Below g w1 wr ∧ g ≤ wr.heap.size) (fun _ iv _ => l.length - (intOf iv).toNat)
  case atStart =>
    rw [← HW1.out]
    refine ⟨0, [], some ⟨w.heap.size + 1, 0, none⟩, 0, Nat.zero_le _, rfl, rfl, ?_, rfl, ?_, ?_⟩
    · have := Own.empty (enc := encC) (k := 3) (e := 67) w1 g (by rw [HSZ.out]; exact Nat.le_refl _)
      rw [HSZ.out] at this
      rw [← HG.out]
      exact this
    · exact (Below.refl _ w1).alloc (by rw [HSZ.out]; exact Nat.le_refl _) _
    · simp; rw [HSZ.out]; omega
  case round =>
    obtain ⟨i, out, A', c', hil, rfl, rfl, ho, hout, hbw, hbs⟩ := hrel
    have hol : out.length ≤ i := by
      rw [hout]
      exact Nat.le_trans (cutP_len _ _) (by rw [List.length_take]; omega)
    have HBW := Lib.hid hbw; clear hbw
    have HBS := Lib.hid hbs; clear hbs
    have HO := Lib.hid ho; clear ho
    have HOUT := Lib.hid hout; clear hout
    by_cases hlt : i < l.length
    · obtain ⟨b, o, rfl, hcell⟩ := HIC.out i hlt
      have hnext : cutP (s1, s2) (l.take (i + 1)) = out ++ cut1 (s1, s2) l[i] := by
        rw [List.take_succ_eq_append_getElem hlt, HOUT.out, cutP, cutP, List.flatMap_append]; simp
      have hsm := (HS.out _ (List.getElem_mem hlt)).1
      generalize l[i] = z at hcell hnext hsm
      obtain ⟨kz, xz, yz⟩ := z
      have hsp := fun W => rspan_any ⟨kz, xz, yz⟩ W hsm
      unfold cval at hsp
      simp only at hcell hsp
      have hmt := fun W => rmeet_any (s1, s2) (cspan ⟨kz, xz, yz⟩) W
      rw [cut1] at hnext
      simp only at hnext
      generalize cspan ⟨kz, xz, yz⟩ = q at hsp hmt hnext
      obtain ⟨q1, q2⟩ := q
      generalize meet (s1, s2) (q1, q2) = m at hmt hnext
      obtain ⟨m1, m2⟩ := m
      unfold spv at hsp hmt
      simp only at hsp hmt hnext
      obtain ⟨k0, k1, k2⟩ := hcell wr HBW.out
      obtain ⟨w5, hw5⟩ : ∃ w5, w5 = wr.alloc (.cells #[.int .i64 kz, .string xz, .string yz] 67) := ⟨_, rfl⟩
      obtain ⟨g5, hg5⟩ : ∃ g5, g5 = wr.heap.size + 1 := ⟨_, rfl⟩
      have hsz5 : w5.heap.size = g5 := by rw [hw5, hg5]; simp
      have hb5 : Below g w1 w5 := by rw [hw5]; exact HBW.out.alloc HBS.out _
      have hs5 : g ≤ g5 := by have := HBS.out; omega
      have hc5 : ∀ W, Below g5 w5 W → W.cell? ⟨wr.heap.size, 0, none⟩ = some (.int .i64 kz) ∧ W.cell? ⟨wr.heap.size, 1, none⟩ = some (.string xz) ∧ W.cell? ⟨wr.heap.size, 2, none⟩ = some (.string yz) := fun W hW => by
        have hlt : wr.heap.size < g5 := by omega
        subst hw5
        exact ⟨(hW.cell (p := ⟨wr.heap.size, 0, none⟩) hlt).trans (World.cell?_alloc_at _ _ _ _ rfl), (hW.cell (p := ⟨wr.heap.size, 1, none⟩) hlt).trans (World.cell?_alloc_at _ _ _ _ rfl), (hW.cell (p := ⟨wr.heap.size, 2, none⟩) hlt).trans (World.cell?_alloc_at _ _ _ _ rfl)⟩
      have hsc5 : ∀ W, Below g5 w5 W → W.cell? ⟨w.heap.size, 0, none⟩ = some (.string s1) ∧ W.cell? ⟨w.heap.size, 1, none⟩ = some (.string s2) := fun W hW => HSC.out W (hb5.trans (hW.mono hs5))
      have ho5 : OwnC w5 g (.slice A' out.length c') out := by rw [hw5]; exact HO.out.alloc _
      have HO5 := Lib.hid ho5; clear ho5
      have HW5 := Lib.hid hw5; clear hw5
      have HSZ5 := Lib.hid hsz5; clear hsz5
      have HB5 := Lib.hid hb5; clear hb5
      have HC5 := Lib.hid hc5; clear hc5
      have HSC5 := Lib.hid hsc5; clear hsc5
      have HG5 := Lib.hid hg5
      have HN := Lib.hid hnext; clear hnext
      have HSP := Lib.hid hsp; clear hsp
      have HMT := Lib.hid hmt; clear hmt
      go_wp2_with fail
      rw [← HW5.out]
      refine wp_region_planT (fun W => Below g5 w5 W) (.take 0 (.take 1 (.fork 2 (.fork 3 (.step 4 (.step 5 .done)) 4 (.step 3 (.step 5 .done))) 4 (.step 2 (.step 3 (.step 5 .done)))))) (by kernel_rfl) (by kernel_rfl) (fun _ _ d _ _ h => by cases d <;> exact h) ((Below.refl _ _).drew) ?_
      have hkwd : Below g5 w5 w5.drew := (Below.refl _ _).drew
      have hswd : g5 ≤ w5.drew.heap.size := by rw [show w5.drew.heap.size = w5.heap.size from rfl, HSZ5.out]; exact Nat.le_refl _
      generalize w5.drew = wd at hkwd hswd ⊢
      refine PlanT.takeI (v := ?_) rfl rfl ?_ ?_; rotate_left; (focus (intro W hW; obtain ⟨q0, q1, q2⟩ := HC5.out W hW; obtain ⟨k0, k1⟩ := HSC5.out W hW; go_simp; (try with_reducible rfl); done)); (try simp only [Act.put, List.setIfInBounds_toArray, List.set_cons_zero, List.set_cons_succ])
      refine PlanT.takeI (v := ?_) rfl rfl ?_ ?_; rotate_left; (focus (intro W hW; obtain ⟨q0, q1, q2⟩ := HC5.out W hW; obtain ⟨k0, k1⟩ := HSC5.out W hW; go_simp; (try with_reducible rfl); done)); (try simp only [Act.put, List.setIfInBounds_toArray, List.set_cons_zero, List.set_cons_succ])
      refine ⟨?_, ?_⟩
      · refine wpOp_stepT rfl rfl (fun Kk hK => ?_)
        go_simp
        go_at_call 47
        refine (HSP.out _).mono ?_
        rintro e w6 ⟨rfl, hb⟩
        have hkw6 : Below g5 w5 w6 := hkwd.trans (hb.mono hswd)
        have hsw6 : g5 ≤ w6.heap.size := Nat.le_trans hswd hb.size
        refine hK.out _ _ hkw6 ?_
        clear hK Kk
        refine ⟨?_, ?_⟩
        · refine wpOp_stepT rfl rfl (fun Kk hK => ?_)
          go_simp
          go_at_call 36
          refine (HMT.out _).mono ?_
          rintro e w7 ⟨rfl, hb⟩
          have hkw7 : Below g5 w5 w7 := hkw6.trans (hb.mono hsw6)
          have hsw7 : g5 ≤ w7.heap.size := Nat.le_trans hsw6 hb.size
          refine hK.out _ _ hkw7 ?_
          clear hK Kk
          refine wpOp_stepT rfl rfl (fun Kk hK => ?_)
          go_simp
          obtain ⟨w8, hw8⟩ : ∃ w8, w8 = w7.alloc (.cells #[.string ⟨#[]⟩, .string ⟨#[]⟩] 31) := ⟨_, rfl⟩
          obtain ⟨G, hG⟩ : ∃ G, G = w7.heap.size := ⟨_, rfl⟩
          have hkw8 : Below g5 w5 w8 := by rw [hw8]; exact hkw7.alloc hsw7 _
          have hsw8 : g5 ≤ w8.heap.size := by rw [hw8]; simp; omega
          rw [← hw8, ← hG]
          have hc0 : w8.cell? ⟨G, 0, none⟩ = some (.string ⟨#[]⟩) := by subst hw8; subst hG; exact World.cell?_alloc_at _ _ _ _ rfl
          have hc1 : w8.cell? ⟨G, 1, none⟩ = some (.string ⟨#[]⟩) := by subst hw8; subst hG; exact World.cell?_alloc_at _ _ _ _ rfl
          have hGlt : G < w8.heap.size := by subst hw8; subst hG; simp
          have hGge : g5 ≤ G := by subst hG; exact hsw7
          have hG_ : ∀ W, Below w8.heap.size w8 W → W.cell? ⟨G, 0, none⟩ = some (.string ⟨#[]⟩) ∧ W.cell? ⟨G, 1, none⟩ = some (.string ⟨#[]⟩) ∧ W.frozen? ⟨G, 0, none⟩ = false ∧ W.frozen? ⟨G, 1, none⟩ = false := fun W hW => ⟨(hW.cell (p := ⟨G, 0, none⟩) hGlt).trans hc0, (hW.cell (p := ⟨G, 1, none⟩) hGlt).trans hc1, (hW.frozen (p := ⟨G, 0, none⟩) hGlt).trans (by subst hw8; subst hG; exact frozen_new _ _ _ _), (hW.frozen (p := ⟨G, 1, none⟩) hGlt).trans (by subst hw8; subst hG; exact frozen_new _ _ _ _)⟩
          have hgw8 : Below w8.heap.size w8 w8 := Below.refl _ _
          clear hw8 hG hc0 hc1
          refine hK.out _ _ hkw8 ?_
          clear hK Kk
          refine wpOp_stepT rfl rfl (fun Kk hK => ?_)
          obtain ⟨c0, c1, z0, z1⟩ := hG_ w8 hgw8
          obtain ⟨d0, d1, d2, d3⟩ := two_put w8 G (.string m1) (.string m2) c0 c1 z0 z1
          go_simp
          obtain ⟨w9, hw9⟩ : ∃ w9, w9 = (w8.setCell ⟨G, 0, none⟩ (.string m1)).setCell ⟨G, 1, none⟩ (.string m2) := ⟨_, rfl⟩
          have hk9 : Below g5 w5 w9 := by rw [hw9]; exact (hkw8.setCell hGge _).setCell hGge _
          have hs9 : g5 ≤ w9.heap.size := Nat.le_trans (by rw [HSZ5.out]; exact Nat.le_refl _) hk9.size
          have hG9 : G < w9.heap.size := by rw [hw9]; simp only [World.setCell, Array.size_modify]; exact Nat.lt_of_lt_of_le hGlt hgw8.size
          rw [← hw9] at d2 d3 ⊢
          clear hw9 c0 c1 z0 z1 d0 d1
          refine hK.out _ _ hk9 ?_
          clear hK Kk
          simp only [PlanT]
          have ho9 : OwnC w9 g (.slice A' out.length c') out := HO5.out.below hk9 (by rw [HSZ5.out]; exact Nat.le_refl _)
          have hb9 : Below g w1 w9 := HB5.out.trans (hk9.mono hs5)
          have hgs9 : g ≤ w9.heap.size := Nat.le_trans hs5 hs9
          obtain ⟨x0, x1, x2⟩ := HC5.out w9 hk9
          obtain ⟨y0, y1⟩ := HSC5.out w9 hk9
          have HO9 := Lib.hid ho9; clear ho9
          have HB9 := Lib.hid hb9; clear hb9
          have hn := HN.out
          by_cases hk3 : kz = 3
          · subst hk3
            rw [if_pos rfl] at hn
            by_cases hm : m1 < m2
            · rw [if_pos hm] at hn
              have HN2 := Lib.hid hn; clear hn
              go_wp2_with (at_builtin; go_must (refine wpList_addCg rfl _ _ rfl g (.slice A' out.length c') out rfl ?xa1 (w9.heap.size + 1) _ [⟨3, m1, m2⟩] rfl (RdC.one w9 ⟨3, m1, m2⟩) (by simp; omega) ?xa2 g w1 ?xa3 (Nat.le_refl _) ?xa4))
              case xa1 => exact HO9.out.alloc _
              case xa2 => (try simp only [World.size_alloc]); omega
              case xa3 => exact HB9.out.alloc hgs9 _
              intro A2 c2 w11 ho11 hb11 hz11 hsame
              have hx11 : w11.cell? ⟨wr.heap.size, 0, none⟩ = some (.int .i64 3) := (hsame ⟨wr.heap.size, 0, none⟩ (show wr.heap.size < w9.heap.size + 1 by omega) (fun e => Nat.lt_irrefl _ (HO.out.low e).2)).trans ((((Below.refl _ w9).alloc (Nat.le_refl _) _).cell (p := ⟨wr.heap.size, 0, none⟩) (show wr.heap.size < w9.heap.size by omega)).trans x0)
              go_wp2_with fail
              go_roundw
              case rel => exact ⟨i + 1, out ++ [⟨3, m1, m2⟩], A2, c2, by omega, by go_num, by simp, by simpa using ho11.out, by rw [HN2.out], hb11.out, hz11.out⟩
              case measure => simp [intOf]; omega
            · rw [if_neg hm] at hn
              have HN2 := Lib.hid hn; clear hn
              go_wp2_with fail
              go_roundw
              case rel => exact ⟨i + 1, out, A', c', by omega, by go_num, rfl, HO9.out, by rw [HN2.out]; simp, HB9.out, hgs9⟩
              case measure => simp [intOf]; omega
          · rw [if_neg hk3] at hn
            unfold hasB at hn
            simp only at hn
            have hh := fun W => rhas_any (s1, s2) xz W
            simp only at hh
            have HN2 := Lib.hid hn; clear hn
            have HH := Lib.hid hh; clear hh
            go_wp2_with fail
            refine (HH.out _).mono ?_
            rintro e w10 ⟨rfl, hb10⟩
            have ho10 : OwnC w10 g (.slice A' out.length c') out := HO9.out.below hb10 (Nat.le_refl _)
            have hgb10 : Below g w1 w10 := HB9.out.trans (hb10.mono hgs9)
            have hgs10 : g ≤ w10.heap.size := Nat.le_trans hgs9 hb10.size
            have hk10 : Below g5 w5 w10 := hk9.trans (hb10.mono hs9)
            obtain ⟨xx0, xx1, xx2⟩ := HC5.out w10 hk10
            have HO10 := Lib.hid ho10; clear ho10
            have HB10 := Lib.hid hgb10; clear hgb10 hb10
            have hn := HN2.out
            cases hh : (decide (s1 ≤ xz) && decide (xz < s2))
            · rw [hh, if_neg (by simp)] at hn
              have HN2 := Lib.hid hn; clear hn
              go_wp2_with fail
              go_roundw
              case rel => exact ⟨i + 1, out, A', c', by omega, by go_num, rfl, HO10.out, by rw [HN2.out]; simp, HB10.out, hgs10⟩
              case measure => simp [intOf]; omega
            · rw [hh, if_pos rfl] at hn
              have HN2 := Lib.hid hn; clear hn
              go_wp2_with (at_builtin; go_must (refine wpList_addCg rfl _ _ rfl g (.slice A' out.length c') out rfl ?xb1 (w10.heap.size + 1) _ [⟨kz, xz, yz⟩] rfl (RdC.one w10 ⟨kz, xz, yz⟩) (by simp; omega) ?xb2 g w1 ?xb3 (Nat.le_refl _) ?xb4))
              case xb1 => exact HO10.out.alloc _
              case xb2 => (try simp only [World.size_alloc]); omega
              case xb3 => exact HB10.out.alloc hgs10 _
              intro A2 c2 w11 ho11 hb11 hz11 hsame
              go_wp2_with fail
              go_roundw
              case rel => exact ⟨i + 1, out ++ [⟨kz, xz, yz⟩], A2, c2, by omega, by go_num, by simp, by simpa using ho11.out, by rw [HN2.out], hb11.out, hz11.out⟩
              case measure => simp [intOf]; omega
        · refine wpOp_stepT rfl rfl (fun Kk hK => ?_)
          go_simp
          obtain ⟨w7, hw7⟩ : ∃ w7, w7 = w6.alloc (.cells #[.string ⟨#[]⟩, .string ⟨#[]⟩] 31) := ⟨_, rfl⟩
          obtain ⟨G, hG⟩ : ∃ G, G = w6.heap.size := ⟨_, rfl⟩
          have hkw7 : Below g5 w5 w7 := by rw [hw7]; exact hkw6.alloc hsw6 _
          have hsw7 : g5 ≤ w7.heap.size := by rw [hw7]; simp; omega
          rw [← hw7, ← hG]
          have hc0 : w7.cell? ⟨G, 0, none⟩ = some (.string ⟨#[]⟩) := by subst hw7; subst hG; exact World.cell?_alloc_at _ _ _ _ rfl
          have hc1 : w7.cell? ⟨G, 1, none⟩ = some (.string ⟨#[]⟩) := by subst hw7; subst hG; exact World.cell?_alloc_at _ _ _ _ rfl
          have hGlt : G < w7.heap.size := by subst hw7; subst hG; simp
          have hGge : g5 ≤ G := by subst hG; exact hsw6
          have hG_ : ∀ W, Below w7.heap.size w7 W → W.cell? ⟨G, 0, none⟩ = some (.string ⟨#[]⟩) ∧ W.cell? ⟨G, 1, none⟩ = some (.string ⟨#[]⟩) ∧ W.frozen? ⟨G, 0, none⟩ = false ∧ W.frozen? ⟨G, 1, none⟩ = false := fun W hW => ⟨(hW.cell (p := ⟨G, 0, none⟩) hGlt).trans hc0, (hW.cell (p := ⟨G, 1, none⟩) hGlt).trans hc1, (hW.frozen (p := ⟨G, 0, none⟩) hGlt).trans (by subst hw7; subst hG; exact frozen_new _ _ _ _), (hW.frozen (p := ⟨G, 1, none⟩) hGlt).trans (by subst hw7; subst hG; exact frozen_new _ _ _ _)⟩
          have hgw7 : Below w7.heap.size w7 w7 := Below.refl _ _
          clear hw7 hG hc0 hc1
          refine hK.out _ _ hkw7 ?_
          clear hK Kk
          refine wpOp_stepT rfl rfl (fun Kk hK => ?_)
          go_simp
          go_at_call 36
          refine (HMT.out _).mono ?_
          rintro e w8 ⟨rfl, hb⟩
          have hkw8 : Below g5 w5 w8 := hkw7.trans (hb.mono hsw7)
          have hsw8 : g5 ≤ w8.heap.size := Nat.le_trans hsw7 hb.size
          have hgw8 : Below w7.heap.size w7 w8 := hgw7.trans (hb.mono hgw7.size)
          refine hK.out _ _ hkw8 ?_
          clear hK Kk
          refine wpOp_stepT rfl rfl (fun Kk hK => ?_)
          obtain ⟨c0, c1, z0, z1⟩ := hG_ w8 hgw8
          obtain ⟨d0, d1, d2, d3⟩ := two_put w8 G (.string m1) (.string m2) c0 c1 z0 z1
          go_simp
          obtain ⟨w9, hw9⟩ : ∃ w9, w9 = (w8.setCell ⟨G, 0, none⟩ (.string m1)).setCell ⟨G, 1, none⟩ (.string m2) := ⟨_, rfl⟩
          have hk9 : Below g5 w5 w9 := by rw [hw9]; exact (hkw8.setCell hGge _).setCell hGge _
          have hs9 : g5 ≤ w9.heap.size := Nat.le_trans (by rw [HSZ5.out]; exact Nat.le_refl _) hk9.size
          have hG9 : G < w9.heap.size := by rw [hw9]; simp only [World.setCell, Array.size_modify]; exact Nat.lt_of_lt_of_le hGlt hgw8.size
          rw [← hw9] at d2 d3 ⊢
          clear hw9 c0 c1 z0 z1 d0 d1
          refine hK.out _ _ hk9 ?_
          clear hK Kk
          simp only [PlanT]
          have ho9 : OwnC w9 g (.slice A' out.length c') out := HO5.out.below hk9 (by rw [HSZ5.out]; exact Nat.le_refl _)
          have hb9 : Below g w1 w9 := HB5.out.trans (hk9.mono hs5)
          have hgs9 : g ≤ w9.heap.size := Nat.le_trans hs5 hs9
          obtain ⟨x0, x1, x2⟩ := HC5.out w9 hk9
          obtain ⟨y0, y1⟩ := HSC5.out w9 hk9
          have HO9 := Lib.hid ho9; clear ho9
          have HB9 := Lib.hid hb9; clear hb9
          have hn := HN.out
          by_cases hk3 : kz = 3
          · subst hk3
            rw [if_pos rfl] at hn
            by_cases hm : m1 < m2
            · rw [if_pos hm] at hn
              have HN2 := Lib.hid hn; clear hn
              go_wp2_with (at_builtin; go_must (refine wpList_addCg rfl _ _ rfl g (.slice A' out.length c') out rfl ?ya1 (w9.heap.size + 1) _ [⟨3, m1, m2⟩] rfl (RdC.one w9 ⟨3, m1, m2⟩) (by simp; omega) ?ya2 g w1 ?ya3 (Nat.le_refl _) ?ya4))
              case ya1 => exact HO9.out.alloc _
              case ya2 => (try simp only [World.size_alloc]); omega
              case ya3 => exact HB9.out.alloc hgs9 _
              intro A2 c2 w11 ho11 hb11 hz11 hsame
              have hx11 : w11.cell? ⟨wr.heap.size, 0, none⟩ = some (.int .i64 3) := (hsame ⟨wr.heap.size, 0, none⟩ (show wr.heap.size < w9.heap.size + 1 by omega) (fun e => Nat.lt_irrefl _ (HO.out.low e).2)).trans ((((Below.refl _ w9).alloc (Nat.le_refl _) _).cell (p := ⟨wr.heap.size, 0, none⟩) (show wr.heap.size < w9.heap.size by omega)).trans x0)
              go_wp2_with fail
              go_roundw
              case rel => exact ⟨i + 1, out ++ [⟨3, m1, m2⟩], A2, c2, by omega, by go_num, by simp, by simpa using ho11.out, by rw [HN2.out], hb11.out, hz11.out⟩
              case measure => simp [intOf]; omega
            · rw [if_neg hm] at hn
              have HN2 := Lib.hid hn; clear hn
              go_wp2_with fail
              go_roundw
              case rel => exact ⟨i + 1, out, A', c', by omega, by go_num, rfl, HO9.out, by rw [HN2.out]; simp, HB9.out, hgs9⟩
              case measure => simp [intOf]; omega
          · rw [if_neg hk3] at hn
            unfold hasB at hn
            simp only at hn
            have hh := fun W => rhas_any (s1, s2) xz W
            simp only at hh
            have HN2 := Lib.hid hn; clear hn
            have HH := Lib.hid hh; clear hh
            go_wp2_with fail
            refine (HH.out _).mono ?_
            rintro e w10 ⟨rfl, hb10⟩
            have ho10 : OwnC w10 g (.slice A' out.length c') out := HO9.out.below hb10 (Nat.le_refl _)
            have hgb10 : Below g w1 w10 := HB9.out.trans (hb10.mono hgs9)
            have hgs10 : g ≤ w10.heap.size := Nat.le_trans hgs9 hb10.size
            have hk10 : Below g5 w5 w10 := hk9.trans (hb10.mono hs9)
            obtain ⟨xx0, xx1, xx2⟩ := HC5.out w10 hk10
            have HO10 := Lib.hid ho10; clear ho10
            have HB10 := Lib.hid hgb10; clear hgb10 hb10
            have hn := HN2.out
            cases hh : (decide (s1 ≤ xz) && decide (xz < s2))
            · rw [hh, if_neg (by simp)] at hn
              have HN2 := Lib.hid hn; clear hn
              go_wp2_with fail
              go_roundw
              case rel => exact ⟨i + 1, out, A', c', by omega, by go_num, rfl, HO10.out, by rw [HN2.out]; simp, HB10.out, hgs10⟩
              case measure => simp [intOf]; omega
            · rw [hh, if_pos rfl] at hn
              have HN2 := Lib.hid hn; clear hn
              go_wp2_with (at_builtin; go_must (refine wpList_addCg rfl _ _ rfl g (.slice A' out.length c') out rfl ?yb1 (w10.heap.size + 1) _ [⟨kz, xz, yz⟩] rfl (RdC.one w10 ⟨kz, xz, yz⟩) (by simp; omega) ?yb2 g w1 ?yb3 (Nat.le_refl _) ?yb4))
              case yb1 => exact HO10.out.alloc _
              case yb2 => (try simp only [World.size_alloc]); omega
              case yb3 => exact HB10.out.alloc hgs10 _
              intro A2 c2 w11 ho11 hb11 hz11 hsame
              go_wp2_with fail
              go_roundw
              case rel => exact ⟨i + 1, out ++ [⟨kz, xz, yz⟩], A2, c2, by omega, by go_num, by simp, by simpa using ho11.out, by rw [HN2.out], hb11.out, hz11.out⟩
              case measure => simp [intOf]; omega
      · refine wpOp_stepT rfl rfl (fun Kk hK => ?_)
        go_simp
        obtain ⟨w6, hw6⟩ : ∃ w6, w6 = wd.alloc (.cells #[.string ⟨#[]⟩, .string ⟨#[]⟩] 31) := ⟨_, rfl⟩
        obtain ⟨G, hG⟩ : ∃ G, G = wd.heap.size := ⟨_, rfl⟩
        have hkw6 : Below g5 w5 w6 := by rw [hw6]; exact hkwd.alloc hswd _
        have hsw6 : g5 ≤ w6.heap.size := by rw [hw6]; simp; omega
        rw [← hw6, ← hG]
        have hc0 : w6.cell? ⟨G, 0, none⟩ = some (.string ⟨#[]⟩) := by subst hw6; subst hG; exact World.cell?_alloc_at _ _ _ _ rfl
        have hc1 : w6.cell? ⟨G, 1, none⟩ = some (.string ⟨#[]⟩) := by subst hw6; subst hG; exact World.cell?_alloc_at _ _ _ _ rfl
        have hGlt : G < w6.heap.size := by subst hw6; subst hG; simp
        have hGge : g5 ≤ G := by subst hG; exact hswd
        have hG_ : ∀ W, Below w6.heap.size w6 W → W.cell? ⟨G, 0, none⟩ = some (.string ⟨#[]⟩) ∧ W.cell? ⟨G, 1, none⟩ = some (.string ⟨#[]⟩) ∧ W.frozen? ⟨G, 0, none⟩ = false ∧ W.frozen? ⟨G, 1, none⟩ = false := fun W hW => ⟨(hW.cell (p := ⟨G, 0, none⟩) hGlt).trans hc0, (hW.cell (p := ⟨G, 1, none⟩) hGlt).trans hc1, (hW.frozen (p := ⟨G, 0, none⟩) hGlt).trans (by subst hw6; subst hG; exact frozen_new _ _ _ _), (hW.frozen (p := ⟨G, 1, none⟩) hGlt).trans (by subst hw6; subst hG; exact frozen_new _ _ _ _)⟩
        have hgw6 : Below w6.heap.size w6 w6 := Below.refl _ _
        clear hw6 hG hc0 hc1
        refine hK.out _ _ hkw6 ?_
        clear hK Kk
        refine wpOp_stepT rfl rfl (fun Kk hK => ?_)
        go_simp
        go_at_call 47
        refine (HSP.out _).mono ?_
        rintro e w7 ⟨rfl, hb⟩
        have hkw7 : Below g5 w5 w7 := hkw6.trans (hb.mono hsw6)
        have hsw7 : g5 ≤ w7.heap.size := Nat.le_trans hsw6 hb.size
        have hgw7 : Below w6.heap.size w6 w7 := hgw6.trans (hb.mono hgw6.size)
        refine hK.out _ _ hkw7 ?_
        clear hK Kk
        refine wpOp_stepT rfl rfl (fun Kk hK => ?_)
        go_simp
        go_at_call 36
        refine (HMT.out _).mono ?_
        rintro e w8 ⟨rfl, hb⟩
        have hkw8 : Below g5 w5 w8 := hkw7.trans (hb.mono hsw7)
        have hsw8 : g5 ≤ w8.heap.size := Nat.le_trans hsw7 hb.size
        have hgw8 : Below w6.heap.size w6 w8 := hgw7.trans (hb.mono hgw7.size)
        refine hK.out _ _ hkw8 ?_
        clear hK Kk
        refine wpOp_stepT rfl rfl (fun Kk hK => ?_)
        obtain ⟨c0, c1, z0, z1⟩ := hG_ w8 hgw8
        obtain ⟨d0, d1, d2, d3⟩ := two_put w8 G (.string m1) (.string m2) c0 c1 z0 z1
        go_simp
        obtain ⟨w9, hw9⟩ : ∃ w9, w9 = (w8.setCell ⟨G, 0, none⟩ (.string m1)).setCell ⟨G, 1, none⟩ (.string m2) := ⟨_, rfl⟩
        have hk9 : Below g5 w5 w9 := by rw [hw9]; exact (hkw8.setCell hGge _).setCell hGge _
        have hs9 : g5 ≤ w9.heap.size := Nat.le_trans (by rw [HSZ5.out]; exact Nat.le_refl _) hk9.size
        have hG9 : G < w9.heap.size := by rw [hw9]; simp only [World.setCell, Array.size_modify]; exact Nat.lt_of_lt_of_le hGlt hgw8.size
        rw [← hw9] at d2 d3 ⊢
        clear hw9 c0 c1 z0 z1 d0 d1
        refine hK.out _ _ hk9 ?_
        clear hK Kk
        simp only [PlanT]
        have ho9 : OwnC w9 g (.slice A' out.length c') out := HO5.out.below hk9 (by rw [HSZ5.out]; exact Nat.le_refl _)
        have hb9 : Below g w1 w9 := HB5.out.trans (hk9.mono hs5)
        have hgs9 : g ≤ w9.heap.size := Nat.le_trans hs5 hs9
        obtain ⟨x0, x1, x2⟩ := HC5.out w9 hk9
        obtain ⟨y0, y1⟩ := HSC5.out w9 hk9
        have HO9 := Lib.hid ho9; clear ho9
        have HB9 := Lib.hid hb9; clear hb9
        have hn := HN.out
        by_cases hk3 : kz = 3
        · subst hk3
          rw [if_pos rfl] at hn
          by_cases hm : m1 < m2
          · rw [if_pos hm] at hn
            have HN2 := Lib.hid hn; clear hn
            go_wp2_with (at_builtin; go_must (refine wpList_addCg rfl _ _ rfl g (.slice A' out.length c') out rfl ?za1 (w9.heap.size + 1) _ [⟨3, m1, m2⟩] rfl (RdC.one w9 ⟨3, m1, m2⟩) (by simp; omega) ?za2 g w1 ?za3 (Nat.le_refl _) ?za4))
            case za1 => exact HO9.out.alloc _
            case za2 => (try simp only [World.size_alloc]); omega
            case za3 => exact HB9.out.alloc hgs9 _
            intro A2 c2 w11 ho11 hb11 hz11 hsame
            have hx11 : w11.cell? ⟨wr.heap.size, 0, none⟩ = some (.int .i64 3) := (hsame ⟨wr.heap.size, 0, none⟩ (show wr.heap.size < w9.heap.size + 1 by omega) (fun e => Nat.lt_irrefl _ (HO.out.low e).2)).trans ((((Below.refl _ w9).alloc (Nat.le_refl _) _).cell (p := ⟨wr.heap.size, 0, none⟩) (show wr.heap.size < w9.heap.size by omega)).trans x0)
            go_wp2_with fail
            go_roundw
            case rel => exact ⟨i + 1, out ++ [⟨3, m1, m2⟩], A2, c2, by omega, by go_num, by simp, by simpa using ho11.out, by rw [HN2.out], hb11.out, hz11.out⟩
            case measure => simp [intOf]; omega
          · rw [if_neg hm] at hn
            have HN2 := Lib.hid hn; clear hn
            go_wp2_with fail
            go_roundw
            case rel => exact ⟨i + 1, out, A', c', by omega, by go_num, rfl, HO9.out, by rw [HN2.out]; simp, HB9.out, hgs9⟩
            case measure => simp [intOf]; omega
        · rw [if_neg hk3] at hn
          unfold hasB at hn
          simp only at hn
          have hh := fun W => rhas_any (s1, s2) xz W
          simp only at hh
          have HN2 := Lib.hid hn; clear hn
          have HH := Lib.hid hh; clear hh
          go_wp2_with fail
          refine (HH.out _).mono ?_
          rintro e w10 ⟨rfl, hb10⟩
          have ho10 : OwnC w10 g (.slice A' out.length c') out := HO9.out.below hb10 (Nat.le_refl _)
          have hgb10 : Below g w1 w10 := HB9.out.trans (hb10.mono hgs9)
          have hgs10 : g ≤ w10.heap.size := Nat.le_trans hgs9 hb10.size
          have hk10 : Below g5 w5 w10 := hk9.trans (hb10.mono hs9)
          obtain ⟨xx0, xx1, xx2⟩ := HC5.out w10 hk10
          have HO10 := Lib.hid ho10; clear ho10
          have HB10 := Lib.hid hgb10; clear hgb10 hb10
          have hn := HN2.out
          cases hh : (decide (s1 ≤ xz) && decide (xz < s2))
          · rw [hh, if_neg (by simp)] at hn
            have HN2 := Lib.hid hn; clear hn
            go_wp2_with fail
            go_roundw
            case rel => exact ⟨i + 1, out, A', c', by omega, by go_num, rfl, HO10.out, by rw [HN2.out]; simp, HB10.out, hgs10⟩
            case measure => simp [intOf]; omega
          · rw [hh, if_pos rfl] at hn
            have HN2 := Lib.hid hn; clear hn
            go_wp2_with (at_builtin; go_must (refine wpList_addCg rfl _ _ rfl g (.slice A' out.length c') out rfl ?zb1 (w10.heap.size + 1) _ [⟨kz, xz, yz⟩] rfl (RdC.one w10 ⟨kz, xz, yz⟩) (by simp; omega) ?zb2 g w1 ?zb3 (Nat.le_refl _) ?zb4))
            case zb1 => exact HO10.out.alloc _
            case zb2 => (try simp only [World.size_alloc]); omega
            case zb3 => exact HB10.out.alloc hgs10 _
            intro A2 c2 w11 ho11 hb11 hz11 hsame
            go_wp2_with fail
            go_roundw
            case rel => exact ⟨i + 1, out ++ [⟨kz, xz, yz⟩], A2, c2, by omega, by go_num, by simp, by simpa using ho11.out, by rw [HN2.out], hb11.out, hz11.out⟩
            case measure => simp [intOf]; omega
    · obtain rfl : i = l.length := by omega
      have hfin : R = out := by rw [HR.out, HOUT.out, List.take_length]
      subst hfin
      have hwz : w.heap.size ≤ g := by rw [HG.out]; omega
      go_wp2_with fail
      refine bodyPost_ret (v := .slice A' R.length c') ?_ rfl ⟨_, rfl, HO.out.lower hwz, HB01.out.trans (HBW.out.mono hwz)⟩
      simp [results, Try.results32, go_sem]
end Go.Proofs.Yteelnholmlabmaa
