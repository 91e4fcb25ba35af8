/- What the reference's Least answers. -/
import Derived.Test.YtdkdolcocblhkaaLeastM
import Derived.Test.YtdkdolcocblhkaaRSpans
namespace Go.Proofs.Ytdkdolcocblhkaa
open Go.RowKit
attribute [local go_sem] less_eq same_eq le_eq ge_eq gt_eq

theorem wp_addT {o : Oper} {a : Act} {K1 : Act → World → Prop} {Q : Exit → Act → World → Prop} {w : World} (s x : Operand)
    (ho : o.op = .call { callee := .builtin .append, args := #[s, x], argTypes := #[36, 36] })
    (base : Nat) (v : Value) (l : List (K × K)) (hs : a.eval s = v) (hown : OwnS w base v l) (B : Nat) (v2 : Value) (p : List (K × K)) (hx : a.eval x = v2) (hp : Rd cellsS 2 w B v2 p)
    (hlen : l.length + p.length ≤ 7036874417000) (hbase : base ≤ w.heap.size)
    (h : ∀ A' c' w', OwnS w' base (.slice A' (l ++ p).length c') (l ++ p) → w.grownBy w' v.ownBlock → K1 (a.put o.dst (.slice A' (l ++ p).length c')) w') : Oper.wp Try.prog o a w K1 Q := by
  obtain ⟨i0, hi, hz0, hz1, hz2⟩ := info_parts info_spans
  exact wp_addAny (enc := cellsS) (k := 2) 36 48 32 i0 _ Try.underlying36 hi hz0 hz1 hz2 rfl (by decide) cellsS_len cellsS_one s x ho base v l hs hown B v2 p hx hp (by unfold maxLen; omega) (by omega) hbase h
theorem wp_addC {o : Oper} {a : Act} {K1 : Act → World → Prop} {Q : Exit → Act → World → Prop} {w : World} (s x : Operand)
    (ho : o.op = .call { callee := .builtin .append, args := #[s, x], argTypes := #[24, 24] })
    (base : Nat) (v : Value) (l : List Chg) (hs : a.eval s = v) (hown : OwnC w base v l) (B : Nat) (v2 : Value) (p : List Chg) (hx : a.eval x = v2) (hp : RdC w B v2 p)
    (hlen : l.length + p.length ≤ 5629499533000) (hbase : base ≤ w.heap.size)
    (h : ∀ A' c' w', OwnC w' base (.slice A' (l ++ p).length c') (l ++ p) → w.grownBy w' v.ownBlock → K1 (a.put o.dst (.slice A' (l ++ p).length c')) w') : Oper.wp Try.prog o a w K1 Q := by
  obtain ⟨i0, hi, hz0, hz1, hz2⟩ := info_parts info_chg
  exact wp_addAny (enc := encC) (k := 3) 24 23 40 i0 _ Try.underlying24 hi hz0 hz1 hz2 rfl (by decide) encC_len encC_one s x ho base v l hs hown B v2 p hx hp (by unfold maxLen; omega) (by omega) hbase h
theorem wpList_addTg {ops : Array Oper} {rest : List Oper} {o : Oper} {a : Act} {Q : Exit → Act → World → Prop} {w : World} (hgd : Region.wanted o (yielded ops a.tmps) = true) (s x : Operand)
    (ho : o.op = .call { callee := .builtin .append, args := #[s, x], argTypes := #[36, 36] })
    (base : Nat) (v : Value) (l : List (K × K)) (hs : a.eval s = v) (hown : OwnS w base v l) (B : Nat) (v2 : Value) (p : List (K × K)) (hx : a.eval x = v2) (hp : Rd cellsS 2 w B v2 p)
    (hlen : l.length + p.length ≤ 7036874417000) (hbase : base ≤ w.heap.size)
    (h : ∀ A' c' w', Hid (OwnS w' base (.slice A' (l ++ p).length c') (l ++ p)) → Hid (w.grownBy w' v.ownBlock) → wpList Try.prog ops Q rest (a.put o.dst (.slice A' (l ++ p).length c')) w') : wpList Try.prog ops Q (o :: rest) a w := by
  refine BigFrame.wpList_want hgd fun K hK => ?_
  exact wp_addT s x ho base v l hs hown B v2 p hx hp hlen hbase fun A' c' w' h1 h2 => hK _ _ (h A' c' w' (Lib.hid h1) (Lib.hid h2))

theorem RdS.one1 (w : World) (s : K × K) : RdS (w.alloc (.cells #[.string s.1, .string s.2] 48)) (w.heap.size + 1) (.slice (some ⟨w.heap.size, 0, none⟩) 1 1) [s] := by
  refine ⟨_, 1, rfl, Nat.le_refl _, fun i t ht => ⟨w.heap.size, 0, rfl, by omega, ?_, ?_⟩⟩
  all_goals
    rw [World.cell?_alloc_at _ _ _ _ (by simp)]
    match i, ht with
    | 0, ht => simp at ht; subst ht; rfl
theorem OwnS.slice {w : World} {base : Nat} {v : Value} {l : List (K × K)} (h : OwnS w base v l) : ∃ A c, v = .slice A l.length c := by
  rcases h.form with ⟨h, h0⟩ | ⟨x, y, h, _⟩
  · exact ⟨none, 0, by rw [h, h0]; rfl⟩
  · exact ⟨_, _, h⟩

set_option maxHeartbeats 8000000 in
set_option maxRecDepth 100000 in
theorem rleast_any (l : List Chg) (hs : ∀ c ∈ l, smallC c) (v : Value) (w : World) (hv : RdC w w.heap.size v l) (hl : l.length ≤ 40) :
    Calls Try.prog 25 #[v] w fun e w' => ∃ v' G, e = .returned v' ∧ OwnC w' w.heap.size v' (G.map toGone ++ (applyP [] l).map toPut) ∧ Below w.heap.size w w' ∧ Fits G (goneP l) := by
  obtain ⟨A, cc, rfl, hcc, hi⟩ := hv.at
  obtain ⟨g, hg⟩ : ∃ g, g = w.heap.size := ⟨_, rfl⟩
  have hic : ∀ i (_ : i < l.length), ∃ b o, A = some ⟨b, o, none⟩ ∧ ∀ W, Below g w W → W.cell? ⟨b, o + i * 3, none⟩ = some (.int .i64 l[i].kind) ∧ W.cell? ⟨b, o + i * 3 + 1, none⟩ = some (.string l[i].key) ∧ W.cell? ⟨b, o + i * 3 + 2, none⟩ = some (.string l[i].val) := fun i h => by
    obtain ⟨b, o, hA, hbB, k0, k1, k2⟩ := hi i h
    rw [← hg] at hbB
    exact ⟨b, o, hA, fun W hW => ⟨(hW.cell (p := ⟨b, _, none⟩) hbB).trans k0, (hW.cell (p := ⟨b, _, none⟩) hbB).trans k1, (hW.cell (p := ⟨b, _, none⟩) hbB).trans k2⟩⟩
  have HIC := Lib.hid hic; clear hic hi
  have HS := Lib.hid hs; clear hs
  have HG := Lib.hid hg
  clear hv hg
  obtain ⟨P0, hP0⟩ : ∃ P0, P0 = applyP [] l := ⟨_, rfl⟩
  rw [← hP0]
  have HP0 := Lib.hid hP0; clear hP0
  go_enter Try.func25, Try.ntmps25
  go_wp2_with fail
  go_loopw [3, 4, 5] (fun pv gv iv wr => ∃ (i : Nat) (G : List (K × K)) (A' : Option Addr) (c' : Nat), i ≤ l.length ∧ iv = .int .i64 i ∧ RdP wr wr.heap.size pv (applyP [] (l.take i)) ∧ gv = .slice A' G.length c' ∧ OwnS wr g (.slice A' G.length c') G ∧ Fits G (goneP (l.take i)) ∧ EndsIn (· ∈ cends (l.take i)) G ∧ Below g w wr ∧ g ≤ wr.heap.size) (fun _ _ iv _ => l.length - (intOf iv).toNat)
  case atStart =>
    refine ⟨0, [], some ⟨w.heap.size + 1, 0, none⟩, 0, Nat.zero_le _, rfl, ⟨some ⟨w.heap.size, 0, none⟩, 0, rfl, Nat.le_refl _, fun i h => absurd h (Nat.not_lt_zero _)⟩, rfl, ?_, ⟨trivial, fun k => by simp [goneP, mem_nil]⟩, fun s hs => by simp at hs, ?_, ?_⟩
    · have := Own.empty (enc := cellsS) (k := 2) (e := 48) (w.alloc (.cells #[] 57)) g (by rw [HG.out]; simp)
      show Own cellsS 2 48 _ g _ []
      simpa using this
    · rw [HG.out]; exact ((Below.refl _ w).alloc (Nat.le_refl _) _).alloc (by simp) _
    · rw [HG.out]; simp; omega
  case round =>
    obtain ⟨i, G, A', c', hil, rfl, hp, rfl, ho, hf, he, hbw, hbs⟩ := hrel
    have HBW := Lib.hid hbw; clear hbw
    have HBS := Lib.hid hbs; clear hbs
    have HO := Lib.hid ho; clear ho
    have HP := Lib.hid hp; clear hp
    have HF := Lib.hid hf; clear hf
    have HE := Lib.hid he; clear he
    have hgl : G.length ≤ i := by
      have h1 := fits_len HF.out.1 _ HE.out
      rw [cends_len, List.length_take] at h1
      omega
    by_cases hlt : i < l.length
    · obtain ⟨b, o, rfl, hcell⟩ := HIC.out i hlt
      have hpl := applyP_len [] (l.take i)
      have hct : (l.take i).length ≤ i := by rw [List.length_take]; omega
      have hnext : l.take (i + 1) = l.take i ++ [l[i]] := List.take_succ_eq_append_getElem hlt
      have hsm := HS.out _ (List.getElem_mem hlt)
      generalize l.take i = cs at HP HF HE hpl hct hnext
      generalize l[i] = c at hcell hnext hsm
      have h1 := rone_any (applyP [] cs) c hsm _ wr HP.out (by simp at hpl; omega)
      rw [← applyP_snoc] at h1
      have hsp := fun W => rspan_any c W hsm.1
      have HN := Lib.hid hnext; clear hnext
      have hga := fun (hk : c.kind ≠ 1) R (hR : Fits R (fun k => mem (G ++ [cspan c]) k)) => gone_add hk HF.out HE.out hR
      have hgp := fun (hk : c.kind = 1) L (hL : Fits L (fun x => mem G x ∧ ¬ has (cspan c) x)) => gone_put hk HF.out hL
      have hie := fun (s : K × K) (hs : s ∈ G) R (hR : Fits R (fun x => has s x ∧ ¬ mem [cspan c] x)) => inner_ends (c := c) (HE.out s hs) hR
      generalize cspan c = sp at hsp hga hgp hie
      generalize hP2 : applyP [] (cs ++ [c]) = P2 at h1
      rw [← HN.out] at hP2
      have HPN := Lib.hid hP2; clear hP2
      obtain ⟨kz, xz, yz⟩ := c
      unfold cval at h1 hsp
      unfold spv at hsp
      simp only at hcell h1 hsp hga hgp hsm
      obtain ⟨k0, k1, k2⟩ := hcell wr HBW.out
      have H1 := Lib.hid h1; clear h1
      have HSP := Lib.hid hsp; clear hsp
      have HGA := Lib.hid hga; clear hga
      have HGP := Lib.hid hgp; clear hgp
      have HIE := Lib.hid hie; clear hie
      go_wp2_with fail
      refine H1.out.mono ?_
      rintro e w2 ⟨A2, c2, rfl, ho2, hb2⟩
      have HB2 := Lib.hid (show Below g w w2 from HBW.out.trans (hb2.mono HBS.out))
      have HS2 := Lib.hid (show g ≤ w2.heap.size from Nat.le_trans HBS.out hb2.size)
      have HZ2 := Lib.hid (show wr.heap.size ≤ w2.heap.size from hb2.size)
      have HP2 := Lib.hid ho2; clear ho2
      have HO2 := Lib.hid (show OwnS w2 g _ _ from HO.out.below hb2 (Nat.le_refl _))
      clear hb2 k0 k1 k2
      obtain ⟨k0, k1, k2⟩ := hcell w2 HB2.out
      by_cases hk : kz = 1
      · subst hk
        obtain ⟨g2, hg2⟩ : ∃ g2, g2 = w2.heap.size := ⟨_, rfl⟩
        have hgc : ∀ k (_ : k < G.length), ∃ b2, A' = some ⟨b2, 0, none⟩ ∧ ∀ W, Below g2 w2 W → W.cell? ⟨b2, k * 2, none⟩ = some (.string G[k].1) ∧ W.cell? ⟨b2, k * 2 + 1, none⟩ = some (.string G[k].2) := fun k hk => by
          obtain ⟨A0, c0, h0, h1⟩ := HO2.out.read
          injection h0 with e1 e2 e3
          subst e1
          obtain ⟨b2, hb2, _, h3, h4, h5⟩ := h1 k hk
          rw [← hg2] at h3
          exact ⟨b2, hb2, fun W hW => ⟨(hW.cell (p := ⟨b2, _, none⟩) h3).trans h4, (hW.cell (p := ⟨b2, _, none⟩) h3).trans h5⟩⟩
        have HGC := Lib.hid hgc; clear hgc
        have HG2 := Lib.hid hg2
        have hcl : ∀ W, Below g2 w2 W → W.cell? ⟨b, o + i * 3, none⟩ = some (.int .i64 1) ∧ W.cell? ⟨b, o + i * 3 + 1, none⟩ = some (.string xz) ∧ W.cell? ⟨b, o + i * 3 + 2, none⟩ = some (.string yz) := fun W hW => hcell W (HB2.out.trans (hW.mono (by rw [hg2]; exact HS2.out)))
        have HCL := Lib.hid hcl; clear hcl
        go_wp2_with fail
        go_loopw [6, 7] (fun lv kv wr => ∃ (k : Nat) (L : List (K × K)) (A3 : Option Addr) (c3 : Nat), k ≤ G.length ∧ kv = .int .i64 k ∧ lv = .slice A3 L.length c3 ∧ OwnS wr g2 (.slice A3 L.length c3) L ∧ Fits L (fun x => mem (G.take k) x ∧ ¬ has sp x) ∧ EndsIn (· ∈ cends (cs ++ [⟨1, xz, yz⟩])) L ∧ L.length ≤ 2 * k ∧ Below g2 w2 wr ∧ g2 ≤ wr.heap.size) (fun _ kv _ => G.length - (intOf kv).toNat)
        case atStart =>
          refine ⟨0, [], some ⟨w2.heap.size, 0, none⟩, 0, Nat.zero_le _, rfl, rfl, ?_, ⟨trivial, fun k => by simp [mem_nil]⟩, fun s hs => by simp at hs, by simp, ?_, ?_⟩
          · rw [HG2.out]; exact Own.empty _ _ (Nat.le_refl _)
          · rw [HG2.out]; exact (Below.refl _ w2).alloc (Nat.le_refl _) _
          · rw [HG2.out]; simp
        case round =>
          obtain ⟨k, L, A3, c3, hkl, rfl, rfl, ho, hf, he, hll, hbk, hbz⟩ := hrel
          have HBK := Lib.hid hbk; clear hbk
          have HBZ := Lib.hid hbz; clear hbz
          have HOL := Lib.hid ho; clear ho
          have HFL := Lib.hid hf; clear hf
          have HEL := Lib.hid he; clear he
          by_cases hlk : k < G.length
          · obtain ⟨b2, rfl, hgk⟩ := HGC.out k hlk
            have hmem := List.getElem_mem hlk
            have hnx : G.take (k + 1) = G.take k ++ [G[k]] := List.take_succ_eq_append_getElem hlk
            have hno : Normal (G.take k ++ [G[k]]) := by
              rw [← hnx]
              have := HF.out.1
              rw [← List.take_append_drop (k + 1) G] at this
              exact (normal_append.1 this).1
            generalize G.take k = G1 at HFL hnx hno
            generalize G[k] = s at hgk hmem hnx hno
            have hin := fun R (hR : Fits R (fun x => has s x ∧ ¬ mem [sp] x)) => inner_next hno HFL.out hR
            have hie := HIE.out s hmem
            have HIN := Lib.hid hin; clear hin
            have HIS := Lib.hid hie; clear hie
            obtain ⟨s1, s2⟩ := s
            simp only at hgk
            have HGK := Lib.hid hgk; clear hgk
            have hk0 : (0 : Int) ≤ (k : Int) := by omega
            have hk1 : (k : Int) < (G.length : Int) := by omega
            have hi0 : (0 : Int) ≤ (i : Int) := by omega
            have hi1 : (i : Int) < (l.length : Int) := by omega
            go_wp2_with fail
            refine wp_region_plan (S := fun W => Below g2 w2 W) [(true, 0), (true, 1), (true, 2), (true, 3), (true, 4), (true, 5), (true, 6), (true, 7), (true, 8), (false, 9), (false, 10), (false, 11), (false, 12), (true, 13)] (by kernel_rfl) (by kernel_rfl) (fun _ _ d _ _ h => by cases d <;> exact h) HBK.out.drew ?_
            have hkwd : Below g2 w2 wr.drew := HBK.out.drew
            have hswd : g2 ≤ wr.drew.heap.size := HBZ.out
            have howd : OwnS wr.drew g2 (.slice A3 L.length c3) L := HOL.out
            generalize wr.drew = wd at hkwd hswd howd ⊢
            repeat (first | (refine Plan.take (v := ?_) rfl rfl ?_ ?_; rotate_left; (focus (intro W hW; obtain ⟨q0, q1⟩ := HGK.out W hW; obtain ⟨r0, r1, r2⟩ := HCL.out W hW; go_simp; (try with_reducible rfl); done)); (try simp only [Act.put, List.setIfInBounds_toArray, List.set_cons_zero, List.set_cons_succ])) | (refine Plan.skip rfl rfl ?_; (try simp only [Act.put, List.setIfInBounds_toArray, List.set_cons_zero, List.set_cons_succ])))
            refine Plan.step rfl rfl (fun Kk hK => ?_)
            go_simp
            go_at_call 29
            refine (HSP.out _).mono ?_
            rintro e w6 ⟨rfl, hb6⟩
            have hk6 : Below g2 w2 w6 := hkwd.trans (hb6.mono hswd)
            have hs6 : g2 ≤ w6.heap.size := Nat.le_trans hswd hb6.size
            have ho6 : OwnS w6 g2 (.slice A3 L.length c3) L := howd.below hb6 (Nat.le_refl _)
            refine hK.out _ _ hk6 ?_
            clear hK Kk hb6 howd
            (try simp only [Act.put, List.setIfInBounds_toArray, List.set_cons_zero, List.set_cons_succ])
            refine Plan.step rfl rfl (fun Kk hK => ?_)
            go_simp
            have hk7 := hk6.alloc hs6 (.cells #[.string sp.1, .string sp.2] 48)
            have hs7 : g2 ≤ (w6.alloc (.cells #[.string sp.1, .string sp.2] 48)).heap.size := by simp; omega
            have ho7 : OwnS (w6.alloc (.cells #[.string sp.1, .string sp.2] 48)) g2 (.slice A3 L.length c3) L := ho6.alloc _
            have hr7 := RdS.one1 w6 sp
            refine hK.out _ _ hk7 ?_
            clear hK Kk
            (try simp only [Act.put, List.setIfInBounds_toArray, List.set_cons_zero, List.set_cons_succ])
            refine Plan.step rfl rfl (fun Kk hK => ?_)
            go_simp
            go_at_call 43
            refine (rwithout_any (s1, s2) [sp] _ _ (by simpa using hr7) (by simp)).mono ?_
            rintro e w8 ⟨v8, R, rfl, ho8, hb8, hf8, hl8⟩
            have hk8 : Below g2 w2 w8 := hk7.trans (hb8.mono hs7)
            have hs8 : g2 ≤ w8.heap.size := Nat.le_trans hs7 hb8.size
            have hL8 : OwnS w8 g2 (.slice A3 L.length c3) L := ho7.below hb8 (Nat.le_refl _)
            obtain ⟨A8, c8, rfl⟩ := ho8.slice
            obtain ⟨hE8, hl2⟩ := HIS.out R hf8
            have hF9 := HIN.out R hf8
            refine hK.out _ _ hk8 ?_
            clear hK Kk
            (try simp only [Act.put, List.setIfInBounds_toArray, List.set_cons_zero, List.set_cons_succ])
            refine Plan.step rfl rfl (fun Kk hK => ?_)
            refine wp_addT _ _ rfl g2 (.slice A3 L.length c3) L rfl hL8 w8.heap.size _ R rfl ho8.rd.gen (by omega) hs8 ?_
            intro A9 c9 w9 ho9 hg9
            have hk9 : Below g2 w2 w9 := (show Own cellsS 2 _ w8 g2 _ _ from hL8).grown hk8 hg9 (Nat.le_refl _) hs8
            refine hK.out _ _ hk9 ?_
            clear hK Kk
            (try simp only [Act.put, List.setIfInBounds_toArray, List.set_cons_zero, List.set_cons_succ])
            repeat (first | (refine Plan.take (v := ?_) rfl rfl ?_ ?_; rotate_left; (focus (intro W hW; go_simp; (try with_reducible rfl); done)); (try simp only [Act.put, List.setIfInBounds_toArray, List.set_cons_zero, List.set_cons_succ])) | (refine Plan.skip rfl rfl ?_; (try simp only [Act.put, List.setIfInBounds_toArray, List.set_cons_zero, List.set_cons_succ])))
            simp only [Plan]
            go_wp2_with fail
            go_roundw
            case rel => exact ⟨k + 1, L ++ R, A9, c9, by omega, by go_num, by simp, ho9, by rw [hnx]; exact hF9, fun t ht => (List.mem_append.1 ht).elim (HEL.out t) (hE8 t), by simp; omega, hk9, Nat.le_trans hs8 hg9.size⟩
            case measure => simp [intOf]; omega
          · obtain rfl : k = G.length := by omega
            have hf9 := HFL.out
            rw [List.take_length] at hf9
            have hf10 := HGP.out (by simp) L hf9
            have HF10 := Lib.hid hf10; clear hf9 hf10
            go_wp2_with fail
            go_roundw
            case rel => exact ⟨i + 1, L, A3, c3, by omega, by go_num, by rw [HPN.out]; exact ((Own.rd cellsS_len HP2.out).below HBK.out (by rw [HG2.out]; exact Nat.le_refl _)).mono (by rw [← HG2.out]; exact HBZ.out), rfl, HOL.out.lower (by rw [HG2.out]; exact HS2.out), by rw [HN.out]; exact HF10.out, by rw [HN.out]; exact HEL.out, HB2.out.trans (HBK.out.mono (by rw [HG2.out]; exact HS2.out)), Nat.le_trans (by rw [HG2.out]; exact HS2.out) HBZ.out⟩
            case measure => simp [intOf]; omega
      · have hkb : (kz == 1) = false := by simpa using hk
        go_wp2_with fail
        refine (HSP.out _).mono ?_
        rintro e w3 ⟨rfl, hb3⟩
        have HB3 := Lib.hid (show Below g w w3 from HB2.out.trans (hb3.mono HS2.out))
        have HS3 := Lib.hid (show g ≤ w3.heap.size from Nat.le_trans HS2.out hb3.size)
        have HP3 := Lib.hid (show OwnP w3 wr.heap.size _ _ from HP2.out.below hb3 (Nat.le_refl _))
        have HO3 := Lib.hid (show OwnS w3 g _ _ from HO2.out.below hb3 (Nat.le_refl _))
        have HZ3 := Lib.hid (show wr.heap.size ≤ w3.heap.size from Nat.le_trans HZ2.out hb3.size)
        clear hb3 k0 k1 k2
        go_wp2_with (at_builtin; go_must (refine wpList_addTg rfl _ _ rfl g (.slice A' G.length c') G rfl ?a1 (w3.heap.size + 1) _ [sp] rfl (RdS.one w3 sp) (by simp; omega) ?a2 ?a3))
        case a1 => exact (show Own cellsS 2 48 w3 g _ _ from HO3.out).alloc _
        case a2 => have := HS3.out; simp; omega
        intro A4 c4 w4 ho4 hg4
        have hb3 := HB3.out.alloc HS3.out (.cells #[.string sp.1, .string sp.2] 48)
        have ho3 := (show Own cellsS 2 48 w3 g _ _ from HO3.out).alloc (.cells #[.string sp.1, .string sp.2] 48)
        have hz3 : g ≤ (w3.alloc (.cells #[.string sp.1, .string sp.2] 48)).heap.size := by have := HS3.out; simp; omega
        have HB4 := Lib.hid (show Below g w w4 from ho3.grown hb3 hg4.out (Nat.le_refl _) hz3)
        have HS4 := Lib.hid (show g ≤ w4.heap.size from Nat.le_trans hz3 hg4.out.size)
        have HP4 := Lib.hid (show OwnP w4 wr.heap.size _ _ from (HP3.out.alloc _).kept hg4.out (sep (fun i hi => (HP3.out.low hi).1) (fun i hi => (World.ownsRow.lt HO.out i hi).2)))
        clear hb3 ho3 hz3 hg4
        have HO4 := Lib.hid (show RdS w4 w4.heap.size _ _ from ho4.out.rd)
        have hj := rjoin_any (G ++ [sp]) _ w4 HO4.out (by simp; omega)
        have HJ := Lib.hid hj; clear hj
        go_wp2_with fail
        refine HJ.out.mono ?_
        rintro e w5 ⟨v5, R, rfl, ho5, hb5, hf5, hl5⟩
        obtain ⟨hf6, he6⟩ := HGA.out hk R hf5
        have HO5 := Lib.hid (show OwnS w5 g _ _ from ho5.lower HS4.out); clear ho5
        have HB5 := Lib.hid (show Below g w w5 from HB4.out.trans (hb5.mono HS4.out))
        have HS5 := Lib.hid (show g ≤ w5.heap.size from Nat.le_trans HS4.out hb5.size)
        have HP5 := Lib.hid (show RdP w5 w5.heap.size _ _ from Own.rd cellsS_len (HP4.out.below hb5 (Nat.le_refl _)))
        have HF5 := Lib.hid hf6; clear hf6
        have HE5 := Lib.hid he6; clear he6
        clear hb5 hf5
        obtain ⟨A5, c5, rfl⟩ : ∃ A5 c5, v5 = .slice A5 R.length c5 := by
          rcases HO5.out.form with ⟨h, h0⟩ | ⟨x, y, h, _⟩
          · exact ⟨none, 0, by rw [h, h0]; rfl⟩
          · exact ⟨_, _, h⟩
        go_wp2_with fail
        go_roundw
        case rel => exact ⟨i + 1, R, A5, c5, by omega, by go_num, by rw [HPN.out]; exact HP5.out, rfl, HO5.out, by rw [HN.out]; exact HF5.out, by rw [HN.out]; exact HE5.out, HB5.out, HS5.out⟩
        case measure => simp [intOf]; omega
    · obtain rfl : i = l.length := by omega
      have hp := HP.out
      rw [List.take_length, ← HP0.out] at hp
      have hf := HF.out
      rw [List.take_length] at hf
      have he := HE.out
      rw [List.take_length] at he
      have hpl : P0.length ≤ l.length := by have := applyP_len [] l; rw [HP0.out]; simpa using this
      have hfz := fun s (hs : s ∈ G) => cends_size HS.out s.1 (he s hs).1
      have HFZ := Lib.hid hfz; clear hfz
      have hj := rjoin_any G _ wr (show OwnS wr g _ _ from HO.out).rd (by omega)
      have HJ := Lib.hid hj; clear hj
      have HF0 := Lib.hid hf; clear hf he
      obtain ⟨AP, cP, rfl, hcP, hPi⟩ := hp.at
      have HPI := Lib.hid hPi; clear hPi hp
      go_wp2_with fail
      refine HJ.out.mono ?_
      rintro e w5 ⟨v5, R, rfl, ho5, hb5, hf5, hl5⟩
      obtain rfl : R = G := Fits.eq hf5 ⟨HF0.out.1, fun k => Iff.rfl⟩
      obtain ⟨A5, c5, rfl⟩ := ho5.slice
      have HB5 := Lib.hid (show Below g w w5 from HBW.out.trans (hb5.mono HBS.out))
      have HS5 := Lib.hid (show g ≤ w5.heap.size from Nat.le_trans HBS.out hb5.size)
      obtain ⟨g5, hg5⟩ : ∃ g5, g5 = w5.heap.size := ⟨_, rfl⟩
      have hgc : ∀ k (_ : k < R.length), ∃ b2, A5 = some ⟨b2, 0, none⟩ ∧ ∀ W, Below g5 w5 W → W.cell? ⟨b2, k * 2, none⟩ = some (.string R[k].1) ∧ W.cell? ⟨b2, k * 2 + 1, none⟩ = some (.string R[k].2) := fun k hk => by
        obtain ⟨A0, c0, h0, h1⟩ := ho5.read
        injection h0 with e1 e2 e3
        subst e1
        obtain ⟨b2, hb2, _, h3, h4, h5⟩ := h1 k hk
        rw [← hg5] at h3
        exact ⟨b2, hb2, fun W hW => ⟨(hW.cell (p := ⟨b2, _, none⟩) h3).trans h4, (hW.cell (p := ⟨b2, _, none⟩) h3).trans h5⟩⟩
      have hpc : ∀ k (_ : k < P0.length), ∃ b3 o3, AP = some ⟨b3, o3, none⟩ ∧ ∀ W, Below g5 w5 W → W.cell? ⟨b3, o3 + k * 2, none⟩ = some (.string P0[k].1) ∧ W.cell? ⟨b3, o3 + k * 2 + 1, none⟩ = some (.string P0[k].2) := fun k hk => by
        obtain ⟨b3, o3, hA, h3, h4, h5⟩ := HPI.out k hk
        have hbw : ∀ W, Below g5 w5 W → Below wr.heap.size wr W := fun W hW => hb5.trans (hW.mono (by rw [hg5]; exact hb5.size))
        exact ⟨b3, o3, hA, fun W hW => ⟨((hbw W hW).cell (p := ⟨b3, _, none⟩) h3).trans h4, ((hbw W hW).cell (p := ⟨b3, _, none⟩) h3).trans h5⟩⟩
      have HGC := Lib.hid hgc; clear hgc
      have HPC := Lib.hid hpc; clear hpc
      have HG5 := Lib.hid hg5
      clear hb5 ho5 hf5 hg5
      go_wp2_with fail
      go_loopw [8, 9] (fun ov kv wr => ∃ (k : Nat) (A3 : Option Addr) (c3 : Nat), k ≤ R.length ∧ kv = .int .i64 k ∧ ov = .slice A3 k c3 ∧ OwnC wr g5 (.slice A3 k c3) ((R.take k).map toGone) ∧ Below g5 w5 wr ∧ g5 ≤ wr.heap.size) (fun _ kv _ => R.length - (intOf kv).toNat)
      case atStart =>
        refine ⟨0, some ⟨w5.heap.size, 0, none⟩, 0, Nat.zero_le _, rfl, rfl, ?_, ?_, ?_⟩
        · rw [HG5.out]; exact Own.empty _ _ (Nat.le_refl _)
        · rw [HG5.out]; exact (Below.refl _ w5).alloc (Nat.le_refl _) _
        · rw [HG5.out]; simp
      case round =>
        obtain ⟨k, A3, c3, hkl, rfl, rfl, ho, hbk, hbz⟩ := hrel
        have HBK := Lib.hid hbk; clear hbk
        have HBZ := Lib.hid hbz; clear hbz
        have HOL := Lib.hid ho; clear ho
        by_cases hlk : k < R.length
        · obtain ⟨b2, rfl, hgk⟩ := HGC.out k hlk
          have hnx : (R.take (k + 1)).map toGone = (R.take k).map toGone ++ [toGone R[k]] := by rw [List.take_succ_eq_append_getElem hlk, List.map_append]; rfl
          have hom : ((R.take k).map toGone).length = k := by simp; omega
          have hsz := HFZ.out _ (List.getElem_mem hlk)
          generalize (R.take k).map toGone = out at HOL hnx hom
          generalize R[k] = s at hgk hnx hsz
          obtain ⟨s1, s2⟩ := s
          simp only at hgk hsz
          have HGK := Lib.hid hgk; clear hgk
          have HNX := Lib.hid hnx; clear hnx
          have hk0 : (0 : Int) ≤ (k : Int) := by omega
          have hk1 : (k : Int) < (R.length : Int) := by omega
          have hn := HNX.out
          by_cases h1 : s2 = s1 ++ ⟨#[0]⟩
          · subst h1
            by_cases h2 : s1.size ≤ 16
            · rw [show toGone (s1, s1 ++ ⟨#[0]⟩) = ⟨2, s1, ⟨#[]⟩⟩ by unfold toGone; rw [if_pos ⟨rfl, h2⟩]] at hn
              have HF2 := Lib.hid (show (s1.size : Int) ≤ 16 by omega)
              go_wp2_with fail
              refine wp_region_plan (S := fun W => Below g5 w5 W) [(true, 0), (true, 1), (true, 2), (true, 3), (true, 4), (true, 5), (true, 6), (true, 7), (true, 8), (true, 9), (true, 10), (true, 11), (true, 12), (true, 13), (true, 14), (true, 15), (true, 16), (true, 17), (true, 18), (true, 19), (true, 20)] (by kernel_rfl) (by kernel_rfl) (fun _ _ d _ _ h => by cases d <;> exact h) HBK.out.drew ?_
              repeat (first | (refine Plan.take (v := ?_) rfl rfl ?_ ?_; rotate_left; (focus (intro W hW; obtain ⟨q0, q1⟩ := HGK.out W hW; go_simp; (try with_reducible rfl); done)); (try simp only [Act.put, List.setIfInBounds_toArray, List.set_cons_zero, List.set_cons_succ])) | (refine Plan.skip rfl rfl ?_; (try simp only [Act.put, List.setIfInBounds_toArray, List.set_cons_zero, List.set_cons_succ])))
              refine Plan.take (v := .string (s1 ++ ⟨#[0]⟩)) rfl rfl ?_ ?_
              · intro W hW
                have k3 := hsz
                go_simp
                omega
              (try simp only [Act.put, List.setIfInBounds_toArray, List.set_cons_zero, List.set_cons_succ])
              repeat (first | (refine Plan.take (v := ?_) rfl rfl ?_ ?_; rotate_left; (focus (intro W hW; obtain ⟨q0, q1⟩ := HGK.out W hW; have k2 := HF2.out; have k3 := hsz; go_simp; (try with_reducible rfl); done)); (try simp only [Act.put, List.setIfInBounds_toArray, List.set_cons_zero, List.set_cons_succ])) | (refine Plan.skip rfl rfl ?_; (try simp only [Act.put, List.setIfInBounds_toArray, List.set_cons_zero, List.set_cons_succ])))
              simp only [Plan]
              obtain ⟨q0, q1⟩ := HGK.out wr.drew HBK.out.drew
              go_wp2_with (at_builtin; go_must (refine wpList_addC rfl _ _ rfl g5 (.slice A3 k c3) out rfl ?b1 (wr.drew.heap.size + 1) _ [⟨2, s1, ⟨#[]⟩⟩] rfl (RdC.one wr.drew ⟨2, s1, ⟨#[]⟩⟩) (by simp; omega) ?b2 g5 w5 ?b3 (Nat.le_refl _) ?b4))
              case b1 => exact (show OwnC wr.drew g5 _ _ from HOL.out).alloc _
              case b2 => have := HBZ.out; simp; omega
              case b3 => exact HBK.out.drew.alloc HBZ.out _
              intro A9 c9 w9 ho9 hb9 hz9
              go_wp2_with fail
              go_roundw
              case rel => exact ⟨k + 1, A9, c9, by omega, by go_num, by simp [hom], by rw [hn]; have h := ho9.out; simpa [hom] using h, hb9.out, hz9.out⟩
              case measure => simp [intOf]; omega
            · rw [show toGone (s1, s1 ++ ⟨#[0]⟩) = ⟨3, s1, s1 ++ ⟨#[0]⟩⟩ by unfold toGone; rw [if_neg (fun h => h2 h.2)]] at hn
              have HF2 := Lib.hid (show ¬ (s1.size : Int) ≤ 16 by omega)
              go_wp2_with fail
              refine wp_region_plan (S := fun W => Below g5 w5 W) [(true, 0), (true, 1), (true, 2), (true, 3), (true, 4), (true, 5), (true, 6), (true, 7), (true, 8), (true, 9), (true, 10), (true, 11), (true, 12), (true, 13), (true, 14), (true, 15), (true, 16), (true, 17), (true, 18), (true, 19), (true, 20)] (by kernel_rfl) (by kernel_rfl) (fun _ _ d _ _ h => by cases d <;> exact h) HBK.out.drew ?_
              repeat (first | (refine Plan.take (v := ?_) rfl rfl ?_ ?_; rotate_left; (focus (intro W hW; obtain ⟨q0, q1⟩ := HGK.out W hW; go_simp; (try with_reducible rfl); done)); (try simp only [Act.put, List.setIfInBounds_toArray, List.set_cons_zero, List.set_cons_succ])) | (refine Plan.skip rfl rfl ?_; (try simp only [Act.put, List.setIfInBounds_toArray, List.set_cons_zero, List.set_cons_succ])))
              refine Plan.take (v := .string (s1 ++ ⟨#[0]⟩)) rfl rfl ?_ ?_
              · intro W hW
                have k3 := hsz
                go_simp
                omega
              (try simp only [Act.put, List.setIfInBounds_toArray, List.set_cons_zero, List.set_cons_succ])
              repeat (first | (refine Plan.take (v := ?_) rfl rfl ?_ ?_; rotate_left; (focus (intro W hW; obtain ⟨q0, q1⟩ := HGK.out W hW; have k2 := HF2.out; have k3 := hsz; go_simp; (try with_reducible rfl); done)); (try simp only [Act.put, List.setIfInBounds_toArray, List.set_cons_zero, List.set_cons_succ])) | (refine Plan.skip rfl rfl ?_; (try simp only [Act.put, List.setIfInBounds_toArray, List.set_cons_zero, List.set_cons_succ])))
              simp only [Plan]
              go_wp2_with fail
              refine wp_region_plan (S := fun W => Below g5 w5 W) [(true, 0), (true, 1), (true, 2), (true, 3), (true, 4), (true, 5), (true, 6), (true, 7), (true, 8), (true, 9), (true, 10), (true, 11), (false, 12), (false, 13), (true, 14)] (by kernel_rfl) (by kernel_rfl) (fun _ _ d _ _ h => by cases d <;> exact h) HBK.out.drew.drew ?_
              have hkwd : Below g5 w5 wr.drew.drew := HBK.out.drew.drew
              have hswd : g5 ≤ wr.drew.drew.heap.size := HBZ.out
              have howd : OwnC wr.drew.drew g5 (.slice A3 k c3) out := HOL.out
              generalize wr.drew.drew = wd at hkwd hswd howd ⊢
              repeat (first | (refine Plan.take (v := ?_) rfl rfl ?_ ?_; rotate_left; (focus (intro W hW; obtain ⟨q0, q1⟩ := HGK.out W hW; go_simp; (try with_reducible rfl); done)); (try simp only [Act.put, List.setIfInBounds_toArray, List.set_cons_zero, List.set_cons_succ])) | (refine Plan.skip rfl rfl ?_; (try simp only [Act.put, List.setIfInBounds_toArray, List.set_cons_zero, List.set_cons_succ])))
              refine Plan.step rfl rfl (fun Kk hK => ?_)
              go_simp
              have hk7 := hkwd.alloc hswd (.cells #[.int .i64 3, .string s1, .string (s1 ++ ⟨#[0]⟩)] 23)
              have hs7 : g5 ≤ (wd.alloc (.cells #[.int .i64 3, .string s1, .string (s1 ++ ⟨#[0]⟩)] 23)).heap.size := by simp; omega
              have ho7 : OwnC (wd.alloc (.cells #[.int .i64 3, .string s1, .string (s1 ++ ⟨#[0]⟩)] 23)) g5 (.slice A3 k c3) out := howd.alloc _
              refine hK.out _ _ hk7 ?_
              clear hK Kk
              (try simp only [Act.put, List.setIfInBounds_toArray, List.set_cons_zero, List.set_cons_succ])
              refine Plan.step rfl rfl (fun Kk hK => ?_)
              rw [← hom] at ho7
              refine wp_addC _ _ rfl g5 (.slice A3 out.length c3) out (by rw [hom]; rfl) ho7 (wd.heap.size + 1) _ [⟨3, s1, (s1 ++ ⟨#[0]⟩)⟩] rfl (RdC.one wd ⟨3, s1, (s1 ++ ⟨#[0]⟩)⟩) (by simp; omega) hs7 ?_
              intro A9 c9 w9 ho9 hg9
              have hk9 : Below g5 w5 w9 := ho7.grown hk7 hg9 (Nat.le_refl _) hs7
              refine hK.out _ _ hk9 ?_
              clear hK Kk
              (try simp only [Act.put, List.setIfInBounds_toArray, List.set_cons_zero, List.set_cons_succ])
              repeat (first | (refine Plan.take (v := ?_) rfl rfl ?_ ?_; rotate_left; (focus (intro W hW; go_simp; (try with_reducible rfl); done)); (try simp only [Act.put, List.setIfInBounds_toArray, List.set_cons_zero, List.set_cons_succ])) | (refine Plan.skip rfl rfl ?_; (try simp only [Act.put, List.setIfInBounds_toArray, List.set_cons_zero, List.set_cons_succ])))
              simp only [Plan]
              go_wp2_with fail
              go_roundw
              case rel => exact ⟨k + 1, A9, c9, by omega, by go_num, by simp [hom], by rw [hn]; have h := ho9; simpa [hom] using h, hk9, Nat.le_trans hs7 hg9.size⟩
              case measure => simp [intOf]; omega
          · rw [show toGone (s1, s2) = ⟨3, s1, s2⟩ by unfold toGone; rw [if_neg (fun h => h1 h.1)]] at hn
            have HF1 := Lib.hid h1
            go_wp2_with fail
            refine wp_region_plan (S := fun W => Below g5 w5 W) [(true, 0), (true, 1), (true, 2), (true, 3), (true, 4), (true, 5), (true, 6), (true, 7), (true, 8), (true, 9), (true, 10), (true, 11), (true, 12), (true, 13), (true, 14), (true, 15), (true, 16), (true, 17), (true, 18), (true, 19), (true, 20)] (by kernel_rfl) (by kernel_rfl) (fun _ _ d _ _ h => by cases d <;> exact h) HBK.out.drew ?_
            repeat (first | (refine Plan.take (v := ?_) rfl rfl ?_ ?_; rotate_left; (focus (intro W hW; obtain ⟨q0, q1⟩ := HGK.out W hW; go_simp; (try with_reducible rfl); done)); (try simp only [Act.put, List.setIfInBounds_toArray, List.set_cons_zero, List.set_cons_succ])) | (refine Plan.skip rfl rfl ?_; (try simp only [Act.put, List.setIfInBounds_toArray, List.set_cons_zero, List.set_cons_succ])))
            refine Plan.take (v := .string (s1 ++ ⟨#[0]⟩)) rfl rfl ?_ ?_
            · intro W hW
              have k3 := hsz
              go_simp
              omega
            (try simp only [Act.put, List.setIfInBounds_toArray, List.set_cons_zero, List.set_cons_succ])
            repeat (first | (refine Plan.take (v := ?_) rfl rfl ?_ ?_; rotate_left; (focus (intro W hW; obtain ⟨q0, q1⟩ := HGK.out W hW; have k1 := HF1.out; have k3 := hsz; go_simp; (try with_reducible rfl); done)); (try simp only [Act.put, List.setIfInBounds_toArray, List.set_cons_zero, List.set_cons_succ])) | (refine Plan.skip rfl rfl ?_; (try simp only [Act.put, List.setIfInBounds_toArray, List.set_cons_zero, List.set_cons_succ])))
            simp only [Plan]
            go_wp2_with fail
            refine wp_region_plan (S := fun W => Below g5 w5 W) [(true, 0), (true, 1), (true, 2), (true, 3), (true, 4), (true, 5), (true, 6), (true, 7), (true, 8), (true, 9), (true, 10), (true, 11), (false, 12), (false, 13), (true, 14)] (by kernel_rfl) (by kernel_rfl) (fun _ _ d _ _ h => by cases d <;> exact h) HBK.out.drew.drew ?_
            have hkwd : Below g5 w5 wr.drew.drew := HBK.out.drew.drew
            have hswd : g5 ≤ wr.drew.drew.heap.size := HBZ.out
            have howd : OwnC wr.drew.drew g5 (.slice A3 k c3) out := HOL.out
            generalize wr.drew.drew = wd at hkwd hswd howd ⊢
            repeat (first | (refine Plan.take (v := ?_) rfl rfl ?_ ?_; rotate_left; (focus (intro W hW; obtain ⟨q0, q1⟩ := HGK.out W hW; go_simp; (try with_reducible rfl); done)); (try simp only [Act.put, List.setIfInBounds_toArray, List.set_cons_zero, List.set_cons_succ])) | (refine Plan.skip rfl rfl ?_; (try simp only [Act.put, List.setIfInBounds_toArray, List.set_cons_zero, List.set_cons_succ])))
            refine Plan.step rfl rfl (fun Kk hK => ?_)
            go_simp
            have hk7 := hkwd.alloc hswd (.cells #[.int .i64 3, .string s1, .string s2] 23)
            have hs7 : g5 ≤ (wd.alloc (.cells #[.int .i64 3, .string s1, .string s2] 23)).heap.size := by simp; omega
            have ho7 : OwnC (wd.alloc (.cells #[.int .i64 3, .string s1, .string s2] 23)) g5 (.slice A3 k c3) out := howd.alloc _
            refine hK.out _ _ hk7 ?_
            clear hK Kk
            (try simp only [Act.put, List.setIfInBounds_toArray, List.set_cons_zero, List.set_cons_succ])
            refine Plan.step rfl rfl (fun Kk hK => ?_)
            rw [← hom] at ho7
            refine wp_addC _ _ rfl g5 (.slice A3 out.length c3) out (by rw [hom]; rfl) ho7 (wd.heap.size + 1) _ [⟨3, s1, s2⟩] rfl (RdC.one wd ⟨3, s1, s2⟩) (by simp; omega) hs7 ?_
            intro A9 c9 w9 ho9 hg9
            have hk9 : Below g5 w5 w9 := ho7.grown hk7 hg9 (Nat.le_refl _) hs7
            refine hK.out _ _ hk9 ?_
            clear hK Kk
            (try simp only [Act.put, List.setIfInBounds_toArray, List.set_cons_zero, List.set_cons_succ])
            repeat (first | (refine Plan.take (v := ?_) rfl rfl ?_ ?_; rotate_left; (focus (intro W hW; go_simp; (try with_reducible rfl); done)); (try simp only [Act.put, List.setIfInBounds_toArray, List.set_cons_zero, List.set_cons_succ])) | (refine Plan.skip rfl rfl ?_; (try simp only [Act.put, List.setIfInBounds_toArray, List.set_cons_zero, List.set_cons_succ])))
            simp only [Plan]
            go_wp2_with fail
            go_roundw
            case rel => exact ⟨k + 1, A9, c9, by omega, by go_num, by simp [hom], by rw [hn]; have h := ho9; simpa [hom] using h, hk9, Nat.le_trans hs7 hg9.size⟩
            case measure => simp [intOf]; omega
        · obtain rfl : k = R.length := by omega
          have ho := HOL.out
          rw [List.take_length] at ho
          have HO6 := Lib.hid ho; clear ho
          clear hlk hkl
          go_wp2_with fail
          go_loopw [8, 10] (fun ov kv wr => ∃ (k : Nat) (A3 : Option Addr) (c3 : Nat), k ≤ P0.length ∧ kv = .int .i64 k ∧ ov = .slice A3 (R.length + k) c3 ∧ OwnC wr g5 (.slice A3 (R.length + k) c3) (R.map toGone ++ (P0.take k).map toPut) ∧ Below g5 w5 wr ∧ g5 ≤ wr.heap.size) (fun _ kv _ => P0.length - (intOf kv).toNat)
          case atStart => exact ⟨0, A3, c3, Nat.zero_le _, rfl, rfl, by simpa using HO6.out, HBK.out, HBZ.out⟩
          case round =>
            clear HBK HBZ HO6
            obtain ⟨k, A3, c3, hkl, rfl, rfl, ho, hbk, hbz⟩ := hrel
            have HBK := Lib.hid hbk; clear hbk
            have HBZ := Lib.hid hbz; clear hbz
            have HOL := Lib.hid ho; clear ho
            by_cases hlk : k < P0.length
            · obtain ⟨b2, o2, rfl, hgk⟩ := HPC.out k hlk
              have hnx : R.map toGone ++ (P0.take (k + 1)).map toPut = R.map toGone ++ (P0.take k).map toPut ++ [toPut P0[k]] := by rw [List.take_succ_eq_append_getElem hlk, List.map_append, List.append_assoc]; rfl
              have hom : (R.map toGone ++ (P0.take k).map toPut).length = R.length + k := by simp; omega
              generalize R.map toGone ++ (P0.take k).map toPut = out at HOL hnx hom
              generalize P0[k] = s at hgk hnx
              obtain ⟨s1, s2⟩ := s
              have hn := hnx
              rw [show toPut (s1, s2) = ⟨1, s1, s2⟩ from rfl] at hn
              simp only at hgk
              have HGK := Lib.hid hgk; clear hgk
              clear hnx
              have hk0 : (0 : Int) ≤ (k : Int) := by omega
              have hk1 : (k : Int) < (P0.length : Int) := by omega
              go_wp2_with fail
              refine wp_region_plan (S := fun W => Below g5 w5 W) [(true, 0), (true, 1), (true, 2), (true, 3), (true, 4), (true, 5), (true, 6), (true, 7), (true, 8), (true, 9), (true, 10), (true, 11), (false, 12), (false, 13), (true, 14)] (by kernel_rfl) (by kernel_rfl) (fun _ _ d _ _ h => by cases d <;> exact h) HBK.out.drew ?_
              have hkwd : Below g5 w5 wr.drew := HBK.out.drew
              have hswd : g5 ≤ wr.drew.heap.size := HBZ.out
              have howd : OwnC wr.drew g5 (.slice A3 (R.length + k) c3) out := HOL.out
              generalize wr.drew = wd at hkwd hswd howd ⊢
              repeat (first | (refine Plan.take (v := ?_) rfl rfl ?_ ?_; rotate_left; (focus (intro W hW; obtain ⟨q0, q1⟩ := HGK.out W hW; go_simp; (try with_reducible rfl); done)); (try simp only [Act.put, List.setIfInBounds_toArray, List.set_cons_zero, List.set_cons_succ])) | (refine Plan.skip rfl rfl ?_; (try simp only [Act.put, List.setIfInBounds_toArray, List.set_cons_zero, List.set_cons_succ])))
              refine Plan.step rfl rfl (fun Kk hK => ?_)
              go_simp
              have hk7 := hkwd.alloc hswd (.cells #[.int .i64 1, .string s1, .string s2] 23)
              have hs7 : g5 ≤ (wd.alloc (.cells #[.int .i64 1, .string s1, .string s2] 23)).heap.size := by simp; omega
              have ho7 : OwnC (wd.alloc (.cells #[.int .i64 1, .string s1, .string s2] 23)) g5 (.slice A3 (R.length + k) c3) out := howd.alloc _
              refine hK.out _ _ hk7 ?_
              clear hK Kk
              (try simp only [Act.put, List.setIfInBounds_toArray, List.set_cons_zero, List.set_cons_succ])
              refine Plan.step rfl rfl (fun Kk hK => ?_)
              rw [← hom] at ho7
              refine wp_addC _ _ rfl g5 (.slice A3 out.length c3) out (by rw [hom]; rfl) ho7 (wd.heap.size + 1) _ [⟨1, s1, s2⟩] rfl (RdC.one wd ⟨1, s1, s2⟩) (by simp; omega) hs7 ?_
              intro A9 c9 w9 ho9 hg9
              have hk9 : Below g5 w5 w9 := ho7.grown hk7 hg9 (Nat.le_refl _) hs7
              refine hK.out _ _ hk9 ?_
              clear hK Kk
              (try simp only [Act.put, List.setIfInBounds_toArray, List.set_cons_zero, List.set_cons_succ])
              repeat (first | (refine Plan.take (v := ?_) rfl rfl ?_ ?_; rotate_left; (focus (intro W hW; go_simp; (try with_reducible rfl); done)); (try simp only [Act.put, List.setIfInBounds_toArray, List.set_cons_zero, List.set_cons_succ])) | (refine Plan.skip rfl rfl ?_; (try simp only [Act.put, List.setIfInBounds_toArray, List.set_cons_zero, List.set_cons_succ])))
              simp only [Plan]
              go_wp2_with fail
              go_roundw
              case rel => exact ⟨k + 1, A9, c9, by omega, by go_num, by simp [hom, Nat.add_assoc], by rw [hn]; have h := ho9; simpa [hom, Nat.add_assoc] using h, hk9, Nat.le_trans hs7 hg9.size⟩
              case measure => simp [intOf]; omega
            · obtain rfl : k = P0.length := by omega
              have ho := HOL.out
              rw [List.take_length] at ho
              have HO7 := Lib.hid ho; clear ho
              have hwz : w.heap.size ≤ g5 := by rw [HG5.out, ← HG.out]; exact HS5.out
              go_wp2_with fail
              refine bodyPost_ret (v := .slice A3 (R.length + P0.length) c3) ?_ rfl ⟨_, R, rfl, HO7.out.lower hwz, by rw [← HG.out]; exact HB5.out.trans (HBK.out.mono (by rw [HG5.out]; exact HS5.out)), HF0.out⟩
              simp [results, Try.results25, go_sem]
end Go.Proofs.Ytdkdolcocblhkaa
