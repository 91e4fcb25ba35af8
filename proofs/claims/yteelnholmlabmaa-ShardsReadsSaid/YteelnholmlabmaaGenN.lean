/- An append to a slice of the call's own that says of its block: the old one or a new one. -/
import Derived.Test.YteelnholmlabmaaMv
namespace Go.Proofs.Yteelnholmlabmaa
open Go.RowKit

section
variable {α : Type} {enc : α → List Value} {k : Nat} {P : Program}
theorem run_append_new (w : World) (base : Nat) (t ty e : TypeId) (i : TypeInfo) (z : Value) (size bytes : Nat) (ht : P.underlying t = some (.slice e)) (hi : P.info? e = some i) (hz : i.zero = some z)
    (hsize : i.size = size) (hby : i.bytes = bytes) (hzs : z.cells.size = size) (hsz : 0 < size)
    (v : Value) (n : Nat) (xs : List Value) (hown : w.ownsRow base e size v n xs)
    (a : Addr) (m c : Nat) (news : List Value) (hl : news.length = m * size) (hnews : ∀ j u, news[j]? = some u → w.cell? (a.add j) = some u) (h1 : ∀ u ∈ news, u.oneCell' = true)
    (h63 : n + m ≤ maxLen) (hbytes : ((n + m) + (n + m) / 4 + 192) * bytes ≤ 281474976710656) (v' : Value) (w' : World) (hrun : (Builtin.append_ #[t, t] ty #[v, .slice (some a) m c]).run P w = .ok v' w') : NewRow w v.ownBlock v'.ownBlock := by
  subst hsize
  subst hby
  have hsmall : n + m ≤ 9223372036854775807 := by simp only [maxLen] at h63; omega
  rcases hown.2 with ⟨rfl, rfl⟩ | ⟨g, cap, cur, rfl, hbg, hg, hnc, hcm, hcs, htake⟩
  · by_cases hm : m = 0
    · subst hm
      have hn : news = [] := List.eq_nil_of_length_eq_zero (by simpa using hl)
      subst hn
      have hr : (Builtin.append_ #[t, t] ty #[.slice none 0 0, .slice (some a) 0 c]).run P w = .ok (.slice none 0 0) w := by
        simp [Builtin.append_, run_underlying ht, sizeOf, typeInfo, hi, Builtin.lenOf, Builtin.firstCells, loadCells, loadCellsFrom]
      rw [hr] at hrun
      injection hrun with h1 h2
      subst h1
      exact NewRow.refl _ _
    · have hr := run_append_nil (P := P) w t ty e i z ht hi hz a m c news hl hnews (by omega) (by omega) (by have hb := hbytes; simp only [Nat.zero_add] at hb; exact Nat.le_trans (Nat.mul_le_mul_right _ (by omega)) hb)
      rw [hr] at hrun
      injection hrun with h1 h2
      subst h1
      intro g hg
      injection hg with hg
      exact .inr (by simp only at hg; omega)
  · by_cases hroom : n + m ≤ cap
    · have hfit : n * i.size + news.length ≤ cur.size := by rw [hl, hcs, ← Nat.add_mul]; exact Nat.mul_le_mul_right _ hroom
      have hr := run_append_room (P := P) w t ty e i ht hi g n cap cur hg a m c news hl hnews h1 hroom hfit
      rw [hr] at hrun
      injection hrun with h1 h2
      subst h1
      exact fun _ h => .inl h
    · have holds : ∀ j u, xs[j]? = some u → w.cell? ((⟨g, 0, none⟩ : Addr).add j) = some u := hown.cells (g := g) rfl
      have hr := run_append_grow (P := P) w t ty e i z ht hi hz ⟨g, 0, none⟩ n cap xs hown.1 holds a m c news hl hnews (by omega) (by omega) (growslice_fits_wide (by omega) hbytes)
      rw [hr] at hrun
      injection hrun with h1 h2
      subst h1
      intro g2 hg2
      injection hg2 with hg2
      exact .inr (by simp only at hg2; omega)

/-- append to a slice of the call's own; its block is the old one or a new one -/
theorem wp_addAnyN (t e : TypeId) (bytes : Nat) (i0 : TypeInfo) (z : Value) (ht : P.underlying t = some (.slice e)) (hi : P.info? e = some i0) (hz0 : i0.zero = some z) (hz1 : i0.size = k) (hz2 : i0.bytes = bytes) (hzs : z.cells.size = k) (hk0 : 0 < k)
    (hk : ∀ x, (enc x).length = k) (hone : ∀ x, ∀ u ∈ enc x, u.oneCell' = true) {o : Oper} {a : Act} {K : Act → World → Prop} {Q : Exit → Act → World → Prop} {w : World} (s x : Operand)
    (ho : o.op = .call { callee := .builtin .append, args := #[s, x], argTypes := #[t, t] })
    (base : Nat) (v : Value) (l : List α) (hs : a.eval s = v) (hown : Own enc k e w base v l) (B : Nat) (v2 : Value) (p : List α) (hx : a.eval x = v2) (hp : Rd enc k w B v2 p)
    (h63 : l.length + p.length ≤ maxLen) (hbytes : ((l.length + p.length) + (l.length + p.length) / 4 + 192) * bytes ≤ 281474976710656) (hbase : base ≤ w.heap.size)
    (h : ∀ A' c' w', Own enc k e w' base (.slice A' (l ++ p).length c') (l ++ p) → w.grownBy w' v.ownBlock → NewRow w v.ownBlock (Value.ownBlock (.slice A' (l ++ p).length c')) → K (a.put o.dst (.slice A' (l ++ p).length c')) w') : o.wp P a w K Q := by
  obtain ⟨A, c, rfl, hc, hi2⟩ := hp
  have main : ∃ v' w', (Builtin.append_ #[t, t] o.type #[v, .slice A p.length c]).run P w = .ok v' w' ∧ w'.ownsRow base e k v' (l ++ p).length (flatG enc (l ++ p)) ∧ w.grownBy w' v.ownBlock ∧ NewRow w v.ownBlock v'.ownBlock := by
    cases A with
    | none =>
      have hp0 : p = [] := by
        cases p with
        | nil => rfl
        | cons y r =>
          obtain ⟨b, o', hA, _⟩ := hi2 0 (by simp)
          cases hA
      subst hp0
      refine ⟨v, w, ?_, by rw [List.append_nil]; exact hown, ⟨rfl, rfl, rfl, Nat.le_refl _, fun _ _ _ => rfl⟩, NewRow.refl _ _⟩
      rcases hown.2 with ⟨rfl, _⟩ | ⟨g, cap, cur, rfl, _, _, hnc, _⟩
      · simp [Builtin.append_, run_underlying ht, sizeOf, typeInfo, hi, Builtin.lenOf, Builtin.firstCells]
      · simp [Builtin.append_, run_underlying ht, sizeOf, typeInfo, hi, Builtin.lenOf, Builtin.firstCells, hnc, storeCells]
    | some ad =>
      have hcells : ∀ j u, (flatG enc p)[j]? = some u → w.cell? (ad.add j) = some u := by
        intro j u hu
        have hjl : j < p.length * k := by
          rcases Nat.lt_or_ge j (p.length * k) with h' | h'
          · exact h'
          · rw [List.getElem?_eq_none (by rw [flatG_length hk]; exact h')] at hu; cases hu
        have hil : j / k < p.length := by rw [Nat.div_lt_iff_lt_mul hk0]; exact hjl
        obtain ⟨b, o', hA, _, h1⟩ := hi2 (j / k) hil
        have hm : j % k < k := Nat.mod_lt _ hk0
        have e1 : j / k * k + j % k = j := Nat.div_add_mod' j k
        have hg := flatG_get hk p (j / k) hil (j % k) hm
        rw [e1, hu] at hg
        have := h1 (j % k) u hg.symm
        injection hA with hA
        rw [hA]
        have hadd : (⟨b, o', none⟩ : Addr).add j = ⟨b, o' + j, none⟩ := by unfold Addr.add; split <;> simp_all
        rw [hadd, ← this]
        congr 2
        omega
      obtain ⟨v', w', hrun, h2, h3, _⟩ := run_append_own_wide (P := P) w base t o.type e i0 z k bytes ht hi hz0 hz1 hz2 hzs hk0 v l.length (flatG enc l) hown ad p.length c (flatG enc p) (flatG_length hk p) hcells
        (fun u hu => by obtain ⟨y, _, hy⟩ := List.mem_flatMap.1 hu; exact hone y u hy) h63 hbytes hbase
      have h9 := run_append_new (P := P) w base t o.type e i0 z k bytes ht hi hz0 hz1 hz2 hzs hk0 v l.length (flatG enc l) hown ad p.length c (flatG enc p) (flatG_length hk p) hcells
        (fun u hu => by obtain ⟨y, _, hy⟩ := List.mem_flatMap.1 hu; exact hone y u hy) h63 hbytes v' w' hrun
      exact ⟨v', w', hrun, by rw [List.length_append, flatG_append]; exact h2, h3, h9⟩
  obtain ⟨v', w', hrun, h2, h3, h9⟩ := main
  have h4 : Own enc k e w' base v' (l ++ p) := h2
  have hv : ∃ A' c', v' = .slice A' (l ++ p).length c' := by
    rcases h4.form with ⟨hv, h0⟩ | ⟨g, cap, hv, _⟩
    · exact ⟨none, 0, by rw [h0]; exact hv⟩
    · exact ⟨_, _, hv⟩
  obtain ⟨A', c', rfl⟩ := hv
  unfold Oper.wp execOp
  simp only [ho, resolve, invoke, builtin, Sem.run_bind, Sem.run_pure, Result.andThen_ok, List.map_toArray, List.map_cons, List.map_nil, hs, hx, hrun]
  exact h A' c' w' h4 h3 h9

end
end Go.Proofs.Yteelnholmlabmaa
