import PyProof.Rows.All
import Wide.All
import OpenK.AllK
import Wide.FinOn
import PyProof.ReprReads
import HandS.ForMost
import HandS.IsInst
import HandS.Walk
import HandS.Wide
import HandS.WideBits
import HandS.Style
import HandS.Zip
import HandS.Flow
import HandS.TupMul
import HandS.Rev
import HandS.EndBits
import HandS.Defaults
import HandS.More
import HandS.ForExc
import HandS.ExcIs
import HandS.ExcField
import HandS.ExcValue
import KE.KExcInit
import KE.KTryMore
import PyProof.DictRoadsH
import PyProof.TupleKey
import PyProof.Rows.SeqRoads
import HandS.List
import HandS.Iter
import KE.KDictDisplayH
import KE.KDictPairs
import KE.KDictCopyH
import KE.KDictZip
import KE.GoesZip
import KE.GoesMore
import KE.KTurns
import KE.GoesEnum
import PyProof.SliceStr2
import HandS.Conv
import HandS.TupAny
import KE.KRevSl
import HandS.NoneIn
import HandS.WrittenGet
import HandS.RevRange
import KE.KTupSum
import HandS.WordsDict
import PyProof.ReprRoads
import PyProof.ReprLen
import PyProof.FitsInt
import HandS.Ends
import HandS.SortKw
import HandS.SortInts
import HandS.Flt
import PyProof.InstEq
import HandS.SlotsOwn
import HandS.Deep
import PyProof.CallFns
import KE.SortData
import KE.KDictList
import HandS.MakeKwOnly
import HandS.SetFor
import HandS.TupSets
import PySem.Challenge.RW_breathrows_k31_words_that_make_all_one
set_option Elab.async false
set_option linter.all false
set_option maxRecDepth 100000
namespace BF
section
variable {κ ν μ : Type} [DecidableEq κ]
def dget (m : List (κ × ν)) (k : κ) : Option ν := (m.find? fun p => decide (p.1 = k)).map (·.2)
def dput (m : List (κ × ν)) (k : κ) (v : ν) : List (κ × ν) := if (dget m k).isSome = true then m.map (fun p => if p.1 = k then (p.1, v) else p) else m ++ [(k, v)]
theorem dget_nil (k : κ) : dget ([] : List (κ × ν)) k = none := rfl
theorem dget_cons (p : κ × ν) (m : List (κ × ν)) (k : κ) : dget (p :: m) k = if p.1 = k then some p.2 else dget m k := by
  unfold dget
  rw [List.find?_cons]
  by_cases h : p.1 = k
  · simp [h]
  · simp [h]
theorem dget_app (m n : List (κ × ν)) (k : κ) : dget (m ++ n) k = (dget m k).or (dget n k) := by
  induction m with
  | nil => simp [dget_nil]
  | cons p r ih =>
    rw [List.cons_append, dget_cons, dget_cons, ih]
    by_cases h : p.1 = k
    · simp [h]
    · simp [h]
theorem dget_rep (m : List (κ × ν)) (k : κ) (v : ν) (j : κ) : dget (m.map (fun p => if p.1 = k then (p.1, v) else p)) j = if j = k then (dget m j).map (fun _ => v) else dget m j := by
  induction m with
  | nil => simp [dget_nil]
  | cons p r ih =>
    rw [List.map_cons, dget_cons, dget_cons, ih]
    by_cases h : p.1 = k
    · by_cases h2 : j = k
      · subst h2; simp [h]
      · have h3 : ¬ k = j := fun z => h2 z.symm
        simp [h, h2, h3]
    · by_cases h2 : j = k
      · subst h2; simp [h]
      · simp [h, h2]
theorem dget_put (m : List (κ × ν)) (k : κ) (v : ν) (j : κ) : dget (dput m k v) j = if j = k then some v else dget m j := by
  unfold dput
  by_cases h : (dget m k).isSome = true
  · rw [if_pos h, dget_rep]
    by_cases h2 : j = k
    · subst h2
      rw [if_pos rfl, if_pos rfl]
      obtain ⟨x, e⟩ := Option.isSome_iff_exists.mp h
      rw [e]; rfl
    · rw [if_neg h2, if_neg h2]
  · rw [if_neg h, dget_app, dget_cons, dget_nil]
    by_cases h2 : j = k
    · subst h2
      have : dget m j = none := by simpa using h
      simp [this]
    · have h3 : ¬ k = j := fun z => h2 z.symm
      simp [h2, h3]
theorem dput_new {m : List (κ × ν)} {k : κ} (v : ν) (h : dget m k = none) : dput m k v = m ++ [(k, v)] := by
  unfold dput
  rw [h]; simp
theorem dget_none {m : List (κ × ν)} {k : κ} : dget m k = none ↔ ¬ k ∈ m.map (·.1) := by
  induction m with
  | nil => simp [dget_nil]
  | cons p r ih =>
    rw [dget_cons, List.map_cons, List.mem_cons]
    by_cases h2 : p.1 = k
    · simp [h2]
    · have h3 : ¬ k = p.1 := fun z => h2 z.symm
      simp [h2, h3, ih]
theorem keys_rep (m : List (κ × ν)) (k : κ) (v : ν) : (m.map (fun p => if p.1 = k then (p.1, v) else p)).map (·.1) = m.map (·.1) := by
  rw [List.map_map]
  apply List.map_congr_left
  intro p _
  show (if p.1 = k then (p.1, v) else p).1 = p.1
  by_cases h : p.1 = k
  · rw [if_pos h]
  · rw [if_neg h]
theorem keys_put_old {m : List (κ × ν)} {k : κ} (v : ν) (h : (dget m k).isSome = true) : (dput m k v).map (·.1) = m.map (·.1) := by
  unfold dput
  rw [if_pos h, keys_rep]
theorem nodup_snoc {α : Type} {l : List α} {x : α} (h : l.Nodup) (hx : ¬ x ∈ l) : (l ++ [x]).Nodup := by
  rw [List.nodup_append]
  refine ⟨h, by simp, fun a ha b hb => ?_⟩
  rw [List.mem_singleton] at hb
  subst hb
  exact fun e => hx (e ▸ ha)
theorem nodup_put {m : List (κ × ν)} (k : κ) (v : ν) (h : (m.map (·.1)).Nodup) : ((dput m k v).map (·.1)).Nodup := by
  cases e : dget m k with
  | none =>
    rw [dput_new v e, List.map_append]
    exact nodup_snoc h (dget_none.mp e)
  | some x => rw [keys_put_old v (by rw [e]; rfl)]; exact h
end
section
variable {κ β : Type} [DecidableEq κ] [DecidableEq β] (br : κ → β → κ) (bs : List β) (s : κ)
def Rch (n : Nat) (x : κ) : Prop := ∃ w : List β, w.length = n ∧ (∀ b ∈ w, b ∈ bs) ∧ w.foldl br s = x
def Uq : Prop := ∀ (w u : List β), (∀ b ∈ w, b ∈ bs) → (∀ b ∈ u, b ∈ bs) → w.length = u.length → w.foldl br s = u.foldl br s → (∀ m, Rch br bs s m (w.foldl br s) → w.length ≤ m) → w = u
variable {br bs s}
theorem Rch.zero {x : κ} (h : Rch br bs s 0 x) : x = s := by
  obtain ⟨w, l, _, e⟩ := h
  cases w with
  | nil => exact e.symm
  | cons _ _ => cases l
theorem Rch.succ {n : Nat} {x : κ} (h : Rch br bs s (n + 1) x) : ∃ y b, Rch br bs s n y ∧ b ∈ bs ∧ br y b = x := by
  obtain ⟨w, l, hb, e⟩ := h
  have hne : w ≠ [] := fun z => by rw [z] at l; cases l
  refine ⟨w.dropLast.foldl br s, w.getLast hne, ⟨w.dropLast, by rw [List.length_dropLast]; omega, fun b h => hb b (List.dropLast_subset _ h), rfl⟩, hb _ (List.getLast_mem hne), ?_⟩
  have := List.dropLast_concat_getLast hne
  rw [← e]
  conv => rhs; rw [← this]
  rw [List.foldl_append]; rfl
theorem Rch.step {n : Nat} {x : κ} {b : β} (h : Rch br bs s n x) (hb : b ∈ bs) : Rch br bs s (n + 1) (br x b) := by
  obtain ⟨w, l, h1, e⟩ := h
  refine ⟨w ++ [b], by rw [List.length_append]; simp [l], fun c hc => ?_, by rw [List.foldl_append, e]; rfl⟩
  rcases List.mem_append.mp hc with z | z
  · exact h1 c z
  · rw [List.mem_singleton.mp z]; exact hb
variable (br bs s)
structure Mid (k : Nat) (dn : List (κ × β)) (F : List (κ × Nat)) (W : List (κ × Int)) (P : List (κ × (κ × β))) (L : List κ) : Prop where
  nd : (F.map (·.1)).Nodup
  kW : ∀ x, (dget F x).isSome = true → (dget W x).isSome = true
  s0 : dget F s = some 0
  ps : dget P s = none
  mn : ∀ x n, dget F x = some n → Rch br bs s n x ∧ ∀ m, Rch br bs s m x → n ≤ m
  pr : ∀ x n, dget F x = some n → x = s ∨ ∃ p b m, dget P x = some (p, b) ∧ b ∈ bs ∧ br p b = x ∧ dget F p = some m ∧ n = m + 1
  pk : ∀ x, (dget P x).isSome = true → (dget F x).isSome = true
  le : ∀ x n, dget F x = some n → n ≤ k + 1
  cv : ∀ m, m ≤ k → ∀ x, Rch br bs s m x → (dget F x).isSome = true
  dd : ∀ p ∈ dn, (dget F (br p.1 p.2)).isSome = true
  lt : ∀ x, x ∈ L ↔ dget F x = some (k + 1)
  ln : L.Nodup
  lp : ∀ x, dget F x = some (k + 1) → ∃ p, dget P x = some p ∧ p ∈ dn
  ww : Uq br bs s → ∀ x n, dget F x = some n → dget W x = some 1
variable {br bs s}
theorem Mid.old {k : Nat} {dn : List (κ × β)} {F : List (κ × Nat)} {W : List (κ × Int)} {P : List (κ × (κ × β))} {L : List κ} (M : Mid br bs s k dn F W P L) {h : κ} {b : β} (hF : dget F h = some k) (hb : b ∈ bs) (nw : (h, b) ∉ dn) {n : Nat} (ht : dget F (br h b) = some n) (W' : List (κ × Int))
    (hW : if n = k + 1 then ∃ a c, dget W (br h b) = some a ∧ dget W h = some c ∧ W' = dput W (br h b) (a + c) else W' = W) : Mid br bs s k (dn ++ [(h, b)]) F W' P L where
  nd := M.nd
  kW := fun x hx => by
    by_cases e : n = k + 1
    · rw [if_pos e] at hW
      obtain ⟨a, c, _, _, rfl⟩ := hW
      rw [dget_put]
      by_cases e2 : x = br h b
      · rw [if_pos e2]; rfl
      · rw [if_neg e2]; exact M.kW x hx
    · rw [if_neg e] at hW
      rw [hW]; exact M.kW x hx
  s0 := M.s0
  ps := M.ps
  mn := M.mn
  pr := M.pr
  pk := M.pk
  le := M.le
  cv := M.cv
  dd := fun p hp => by
    rcases List.mem_append.mp hp with z | z
    · exact M.dd p z
    · rw [List.mem_singleton.mp z, ht]; rfl
  lt := M.lt
  ln := M.ln
  lp := fun x hx => by
    obtain ⟨p, h1, h2⟩ := M.lp x hx
    exact ⟨p, h1, List.mem_append_left _ h2⟩
  ww := fun U x m hx => by
    by_cases e : n = k + 1
    · exfalso
      subst e
      obtain ⟨⟨p, c⟩, h1, h2⟩ := M.lp _ ht
      rcases M.pr _ _ ht with z | ⟨p', b', m', g1, g2, g3, g4, g5⟩
      · rw [z, M.s0] at ht; cases ht
      · rw [h1] at g1
        cases g1
        have hm : m' = k := by omega
        subst hm
        obtain ⟨⟨w, wl, wb, we⟩, _⟩ := M.mn _ _ hF
        obtain ⟨⟨u, ul, ub, ue⟩, _⟩ := M.mn _ _ g4
        have key := U (w ++ [b]) (u ++ [c]) (fun x hx => by
          rcases List.mem_append.mp hx with z | z
          · exact wb x z
          · rw [List.mem_singleton.mp z]; exact hb) (fun x hx => by
          rcases List.mem_append.mp hx with z | z
          · exact ub x z
          · rw [List.mem_singleton.mp z]; exact g2) (by simp [wl, ul]) (by
            rw [List.foldl_append, List.foldl_append, we, ue]
            exact g3.symm) (fun m hm => by
              rw [List.foldl_append, we] at hm
              have := (M.mn _ _ ht).2 m hm
              rw [List.length_append, wl]
              exact this)
        obtain ⟨e1, e2⟩ := List.append_inj' key rfl
        cases e2
        apply nw
        have : h = p := by rw [← we, ← ue, e1]
        rw [this]
        exact h2
    · rw [if_neg e] at hW
      rw [hW]; exact M.ww U x m hx
theorem Mid.new {k : Nat} {dn : List (κ × β)} {F : List (κ × Nat)} {W : List (κ × Int)} {P : List (κ × (κ × β))} {L : List κ} (M : Mid br bs s k dn F W P L) {h : κ} {b : β} (hF : dget F h = some k) (hb : b ∈ bs) (ht : dget F (br h b) = none) {c : Int} (hc : dget W h = some c) :
    Mid br bs s k (dn ++ [(h, b)]) (dput F (br h b) (k + 1)) (dput (dput W (br h b) 0) (br h b) (0 + c)) (dput P (br h b) (h, b)) (L ++ [br h b]) where
  nd := nodup_put _ _ M.nd
  kW := fun x hx => by
    rw [dget_put, dget_put]
    rw [dget_put] at hx
    by_cases e : x = br h b
    · rw [if_pos e]; rfl
    · rw [if_neg e] at hx ⊢
      rw [if_neg e]
      exact M.kW x hx
  s0 := by
    rw [dget_put, if_neg (fun z => by rw [← z, M.s0] at ht; cases ht)]
    exact M.s0
  ps := by
    rw [dget_put, if_neg (fun z => by rw [← z, M.s0] at ht; cases ht)]
    exact M.ps
  mn := fun x n hx => by
    rw [dget_put] at hx
    by_cases e : x = br h b
    · rw [if_pos e] at hx
      cases hx
      subst e
      refine ⟨(M.mn _ _ hF).1.step hb, fun m hm => ?_⟩
      by_cases hk : m ≤ k
      · have := M.cv m hk _ hm
        rw [ht] at this; cases this
      · omega
    · rw [if_neg e] at hx
      exact M.mn x n hx
  pr := fun x n hx => by
    have hk : ∀ p m, dget F p = some m → dget (dput F (br h b) (k + 1)) p = some m := fun p m e => by
      rw [dget_put, if_neg (fun z => by rw [← z, e] at ht; cases ht)]; exact e
    rw [dget_put] at hx
    by_cases e : x = br h b
    · rw [if_pos e] at hx
      cases hx
      exact .inr ⟨h, b, k, by rw [dget_put, if_pos e], hb, e.symm, hk _ _ hF, rfl⟩
    · rw [if_neg e] at hx
      rcases M.pr x n hx with z | ⟨p, c, m, g1, g2, g3, g4, g5⟩
      · exact .inl z
      · exact .inr ⟨p, c, m, by rw [dget_put, if_neg e]; exact g1, g2, g3, hk _ _ g4, g5⟩
  pk := fun x hx => by
    rw [dget_put] at hx ⊢
    by_cases e : x = br h b
    · rw [if_pos e]; rfl
    · rw [if_neg e] at hx ⊢
      exact M.pk x hx
  le := fun x n hx => by
    rw [dget_put] at hx
    by_cases e : x = br h b
    · rw [if_pos e] at hx
      cases hx; exact Nat.le_refl _
    · rw [if_neg e] at hx
      exact M.le x n hx
  cv := fun m hm x hx => by
    rw [dget_put]
    by_cases e : x = br h b
    · rw [if_pos e]; rfl
    · rw [if_neg e]; exact M.cv m hm x hx
  dd := fun p hp => by
    rw [dget_put]
    by_cases e : br p.1 p.2 = br h b
    · rw [if_pos e]; rfl
    · rw [if_neg e]
      rcases List.mem_append.mp hp with z | z
      · exact M.dd p z
      · rw [List.mem_singleton.mp z] at e; exact absurd rfl e
  lt := fun x => by
    rw [dget_put, List.mem_append, List.mem_singleton, M.lt x]
    by_cases e : x = br h b
    · rw [if_pos e]; simp [e]
    · rw [if_neg e]; simp [e]
  ln := nodup_snoc M.ln fun z => by
    rw [M.lt, ht] at z; cases z
  lp := fun x hx => by
    rw [dget_put] at hx ⊢
    by_cases e : x = br h b
    · rw [if_pos e]
      exact ⟨_, rfl, List.mem_append_right _ (List.mem_singleton.mpr rfl)⟩
    · rw [if_neg e] at hx ⊢
      obtain ⟨p, h1, h2⟩ := M.lp x hx
      exact ⟨p, h1, List.mem_append_left _ h2⟩
  ww := fun U x n hx => by
    rw [dget_put] at hx
    rw [dget_put, dget_put]
    by_cases e : x = br h b
    · rw [if_pos e]
      have := M.ww U h k hF
      rw [hc] at this
      cases this; rfl
    · rw [if_neg e] at hx
      rw [if_neg e, if_neg e]
      exact M.ww U x n hx
variable (br bs s)
structure Top (k : Nat) (F : List (κ × Nat)) (W : List (κ × Int)) (P : List (κ × (κ × β))) (L : List κ) : Prop where
  nd : (F.map (·.1)).Nodup
  kW : ∀ x, (dget F x).isSome = true → (dget W x).isSome = true
  s0 : dget F s = some 0
  ps : dget P s = none
  mn : ∀ x n, dget F x = some n → Rch br bs s n x ∧ ∀ m, Rch br bs s m x → n ≤ m
  pr : ∀ x n, dget F x = some n → x = s ∨ ∃ p b m, dget P x = some (p, b) ∧ b ∈ bs ∧ br p b = x ∧ dget F p = some m ∧ n = m + 1
  pk : ∀ x, (dget P x).isSome = true → (dget F x).isSome = true
  le : ∀ x n, dget F x = some n → n ≤ k
  cv : ∀ m, m ≤ k → ∀ x, Rch br bs s m x → (dget F x).isSome = true
  lt : ∀ x, x ∈ L ↔ dget F x = some k
  ln : L.Nodup
  ww : Uq br bs s → ∀ x n, dget F x = some n → dget W x = some 1
  ct : k + L.length ≤ F.length
variable {br bs s}
theorem Top.start : Top br bs s 0 [(s, 0)] [(s, 1)] [] [s] where
  nd := by simp
  kW := fun x hx => by
    rw [dget_cons] at hx ⊢
    by_cases e : s = x
    · rw [if_pos e]; rfl
    · rw [if_neg e] at hx; cases hx
  s0 := by rw [dget_cons, if_pos rfl]
  ps := rfl
  mn := fun x n hx => by
    rw [dget_cons] at hx
    by_cases e : s = x
    · rw [if_pos e] at hx
      cases hx
      exact ⟨⟨[], rfl, (fun b h => nomatch h), e⟩, fun m _ => Nat.zero_le m⟩
    · rw [if_neg e] at hx; cases hx
  pr := fun x n hx => by
    rw [dget_cons] at hx
    by_cases e : s = x
    · exact .inl e.symm
    · rw [if_neg e] at hx; cases hx
  pk := fun x hx => by cases hx
  le := fun x n hx => by
    rw [dget_cons] at hx
    by_cases e : s = x
    · rw [if_pos e] at hx; cases hx; exact Nat.le_refl _
    · rw [if_neg e] at hx; cases hx
  cv := fun m hm x hx => by
    have : m = 0 := by omega
    subst this
    rw [hx.zero, dget_cons, if_pos rfl]; rfl
  lt := fun x => by
    rw [List.mem_singleton, dget_cons]
    by_cases e : s = x
    · rw [if_pos e]; simp [e]
    · rw [if_neg e]; simp [dget_nil]; exact fun z => e z.symm
  ln := by simp
  ww := fun U x n hx => by
    rw [dget_cons] at hx ⊢
    by_cases e : s = x
    · rw [if_pos e]
    · rw [if_neg e] at hx; cases hx
  ct := by simp
variable (br bs s)
structure Lay (F : List (κ × Nat)) (W : List (κ × Int)) (P : List (κ × (κ × β))) : Prop where
  nd : (F.map (·.1)).Nodup
  kW : ∀ x, (dget F x).isSome = true → (dget W x).isSome = true
  s0 : dget F s = some 0
  ps : dget P s = none
  mn : ∀ x n, dget F x = some n → Rch br bs s n x ∧ ∀ m, Rch br bs s m x → n ≤ m
  al : ∀ n x, Rch br bs s n x → (dget F x).isSome = true
  pr : ∀ x n, dget F x = some n → x = s ∨ ∃ p b m, dget P x = some (p, b) ∧ b ∈ bs ∧ br p b = x ∧ dget F p = some m ∧ n = m + 1
  pk : ∀ x, (dget P x).isSome = true → (dget F x).isSome = true
  ww : Uq br bs s → ∀ x n, dget F x = some n → dget W x = some 1
variable {br bs s}
end
end BF
set_option maxHeartbeats 2000000
namespace XG
section
open PySem PySem.W PySem.Calls PyProof.Rows PySem.HandSPX Builtin Builtin.ObjectAttr
variable {prog : Program} {w : World} {A : Around} {E : Value → Shared → Prop} {R : Result → Shared → Prop} {h0 : Heap} {g : Array GenState} {d : Drawn} {t : Nat} {os : OsState}
theorem osaG {K : Frag} {name : Str} {tk : Tok} {v : Value} {x C : Addr} {fv : Array Value} {cd : ClassData} (X : K.In h0) (gx : h0.get? x = some { cls := .ref C, data := .fields fv }) (hcd : clsIn K C = some cd)
    (pass : ∀ self, refuseLoop self "__setattr__" cd.mro = pure ()) (hob : cd.mro.contains (.type "object") = true) (ne : cd.mro.isEmpty = false) (hh : cd.hasDict = true) (ha : findIn K (.ref C) name = some none)
    (kq : ∀ h1 tk1 dx, (∀ b o, b ≠ x → h0.get? b = some o → h1.get? b = some o) → h0.objs.size ≤ dx → dx ≠ x → h1.get? x = some { cls := .ref C, dict := some dx, data := .fields fv } → h1.Ns1 dx (fun y => if y = name then some v else none) → R (.ok (.ret .none)) ⟨h1, g, d, tk1, os⟩) :
    codeAny (model prog w) A (.call (.builtin "object.__setattr__") ⟨[.ref x, .str name tk, v], []⟩) R ⟨h0, g, d, t, os⟩ := by
  have J : InstAt h0 x { cls := .ref C, data := .fields fv } C none := ⟨gx, rfl, rfl, trivial⟩
  have SO := PySem.F.store_object
  have xs : x ≠ h0.objs.size := Nat.ne_of_lt (Heap.lt_size gx)
  have sb : Looks (model prog w) h0 (isInstance (.ref x) (.type "object")) true := J.type.andThen (looks_mroIn X (by unfold mroIn; rw [hcd, Option.bind_some, if_neg (by rw [ne]; decide), hob]))
  refine codeAny_call_builtin SO.slot.plain SO.entry (@check_slot (model prog w) _ _ ⟨h0, g, d, t, os⟩ "object.__setattr__" "object" "__setattr__" (.ref x) [.str name tk, v] [] _ SO.kind SO.split sb (SO.args (.ref x) (.str name tk) v) ?_)
  have mr : Looks (model prog w) h0 (mroOf (.ref C)) cd.mro := (looks_clsIn X hcd).andThen .now
  have no3 : Looks (model prog w) h0 (storeTaker? none) none := .now
  have cl : Looks (model prog w) h0 (classData C) cd := looks_clsIn X hcd
  rw [osa_eq, refuse_eq]
  refine wpAny_bind (wpAny_bind (J.type.at (wpAny_bind (mr.at ?_))))
  rw [pass]
  refine wpAny_pure (wpAny_bind (J.type.at (wpAny_bind ((looks_findIn X ha).at (wpAny_bind (no3.at ?_))))))
  show wpAny _ _ (storeInOwnDict (.ref x) (.ref C) (.str name tk) name v false) _ _ _
  obtain ⟨c1, c2, c3, c4, c5, hd, c7, c8, c9, c10, c11⟩ := cd
  dsimp only at hh
  subst hh
  unfold storeInOwnDict ownDictForStores
  repeat (first | with_reducible refine store_in_new ?_ ?_ | with_reducible refine wpAny_loadPart_at gx ?_ | with_reducible refine cl.at ?_ | wp_step)
  · exact ⟨_, #[], _, (Heap.get?_update_ne _ _ _ _ xs.symm).trans (Heap.get?_push_at rfl rfl), rfl, fun e he => absurd he (by simp), fun _ => rfl⟩
  · intro h1 tk1 hn1 hs1
    have gx1 : (h0.push { cls := .type "dict", data := .dict #[] }).get? x = some { cls := .ref C, data := .fields fv } := Heap.get?_push_of_some _ gx
    refine kq h1 tk1 h0.objs.size (fun b o hb ho => ?_) (Nat.le_refl _) xs.symm ?_ hn1
    · exact (hs1.2 b (Nat.ne_of_lt (Heap.lt_size ho))).trans ((Heap.get?_update_ne _ _ _ _ hb).trans (Heap.get?_push_of_some _ ho))
    · exact (hs1.2 x xs).trans (Heap.get?_update_self _ gx1 rfl)
end
open PySem PySem.W PySem.Calls PyProof.Rows PySem.HandSPX
structure XBase (B newId initId : String) (bmB : List Value) : Prop where
  eb : ExcBaseFacts B newId initId bmB
  ps : ∀ self : Value, refuseLoop self "__setattr__" bmB = pure ()
  ob : bmB.contains (.type "object") = true
  ne : bmB ≠ []
theorem base_ValueError : XBase "ValueError" "ValueError.__new__" "ValueError.__init__" [.type "ValueError", .type "Exception", .type "BaseException", .type "object"] := ⟨PySem.F.excBase_ValueError, PySem.F.store_ValueError.passes, by decide +kernel, by simp⟩
structure XMade (f : Str) (h h' : Heap) (e C dd : Addr) (v : Value) : Prop where
  keep : ∀ b o, h.get? b = some o → h'.get? b = some o
  new : h.objs.size ≤ e
  obj : ∃ oe vs, h'.get? e = some oe ∧ oe.cls = .ref C ∧ oe.dict = some dd ∧ oe.data = .fields vs ∧ vs[1]? = some .none
  dbig : h.objs.size ≤ dd
  dne : dd ≠ e
  ns : h'.Ns1 dd (fun y => if y = f then some v else none)
theorem ldXg {M : Model} {s : Shared} {name : Str} {scope : Scope} {L a : Addr} {cd : Value} {m : Str → Option Value} {x : Str} {pos : Pos} {v : Value} {Q : Value → Shared → Prop} {A : Around} {E : Value → Shared → Prop} (hn : s.heap.Ns L m) (hv : m x = some v) (q : Q v s)
    (hk : scope.kind = .function := by rfl) (hl : (envOfC name scope L a cd).kindOf x = some .local := by rfl) (hd : (x == ("__debug__" : Str)) = false := by decide) : wpAny M A (eval (.Name x pos) (envOfC name scope L a cd)) Q E s := wpAny_Name (wpAny_loadName_local hk hl hn hv q) hd
theorem one_ok (v : Value) : [v].length ≤ sizeLine := by
  show 1 ≤ sizeLine
  decide
end XG
set_option maxHeartbeats 2000000
namespace XG
open PySem PySem.Spec PyProof.Rows L2
def ExT (cls : Value) (dd : Option Addr) (a : Addr) : HO := .ext fun h => ∃ (oe : Obj) (vs : Array Value), h.get? a = some oe ∧ Zc cls dd oe ∧ oe.data = .fields vs
section
variable {X : Cx} {pins : List (Addr × Obj)} {σ : L2.St} {H : Hp} {s : Shared}
end
def wT (K : PySem.W.Frag) (cs : List Value) (i : Nat) (ts : Addr → TS) (Wout : WX) (D : Ends) : WX := fun cls d σ H =>
  ∃ b, PySem.W.exmAny K cls cs = some b ∧ (b = true → ∀ ea, H ea = none → ts ea { nx := fun σ' H' => D.nx (σ'.set i none) (upd H' ea (ExT cls d ea)), rt := fun _ _ => False } (σ.set i (some (.ref ea))) H) ∧ (b = false → Wout cls d σ H)
section
variable {X : Cx} {n : Str} {te : Expr} {cs : List Value} {i : Nat} {body suite : List Stmt} {b0 : Stmt} {pos pos' : Pos} {tb : WX → TS} {ts : Addr → TS} {Wout : WX}
end
end XG
set_option maxHeartbeats 4000000
namespace XG
section
open PySem PySem.W PySem.Spec PySem.Calls PyProof.Rows
variable {prog : Program} {w : World} {A : Around} {E : Value → Shared → Prop} {s : Shared} {K : Frag} {x D : Addr} {ox : Obj} {od : Option Obj}
theorem dataG {C : Addr} {name : Str} {a g : Value} (hc : (clsIn K C).isSome = true) (ha : findIn K (.ref C) name = some (some a)) (hg : specialIn K a "__get__" = some (some g)) (ht : takesIn K a = some true) : findObj K C od name = some (.bind g a) := by
  obtain ⟨cd, hc⟩ := Option.isSome_iff_exists.mp hc
  unfold findObj
  rw [hc, Option.bind_some, ha, Option.bind_some]
  simp [hg, ht]
structure ExD (K : Frag) (D : Addr) : Prop where
  hg : findIn K (.ref D) "__getattribute__" = some (some (.builtin "BaseException.__getattribute__"))
  hk : findIn K (.ref D) "__getattr__" = some none
  hs : subIn K (.ref D) (.type "BaseException") = some true
  hd : hasDictIn K D = true
  ha : findIn K (.ref D) "__class__" = some (some (.builtin "object.__class__"))
  hn : specialIn K (.builtin "object.__class__") "__get__" = some (some (.builtin "getset_descriptor.__get__"))
  ht : takesIn K (.builtin "object.__class__") = some true
  hm : mroIn K D (.type "object") = some true
theorem class_of_exc {Q : Option Value → Shared → Prop} (T : ExD K D) (X : K.In s.heap) (I : InstAt s.heap x ox D od) (h : Q (some (.ref D)) { s with toks := s.toks + 1 }) : wpAny (model prog w) A (getAttr? (.ref x) "__class__") Q E s := by
  have hf : findObj K D od "__class__" = some (.bind (.builtin "getset_descriptor.__get__") (.builtin "object.__class__")) := dataG (by obtain ⟨cd, hc, _⟩ := any_some T.hd; rw [hc]; rfl) T.ha T.hn T.ht
  obtain ⟨h0, g, d, t, os⟩ := s
  have l0 := I.type (M := model prog w)
  have l1 := looks_findIn (M := model prog w) X T.hg
  have l2 := looks_findIn (M := model prog w) X T.hk
  have l3 := looks_find (M := model prog w) X I hf
  have sb : Looks (model prog w) h0 (isInstance (.ref x) (.type "BaseException")) true := l0.andThen (looks_subIn X T.hs)
  have z0 : (false && onTheHeap (Value.builtin "BaseException.__getattribute__")) = false := rfl
  have z2 : (Value.builtin "BaseException.__getattribute__" == Value.builtin "object.__getattribute__") = false := by decide +kernel
  have z1 : (onTheHeap (Value.ref D) && Value.builtin "BaseException.__getattribute__" == Value.builtin "object.__getattribute__") = false := by
    rw [z2]
    rfl
  unfold getAttr? getAttrBy? getAttrBy
  refine wpAny_bind (wpAny_mkText (wpAny_bind (wpAny_attempt (wpAny_holding (wpAny_bind (l0.at (wpAny_bind (l1.at ?_))))))))
  show wpAny _ _ (if (onTheHeap (Value.ref D) && Value.builtin "BaseException.__getattribute__" == Value.builtin "object.__getattribute__") = true then _ else _) _ _ _
  rw [z1, if_neg Bool.false_ne_true]
  unfold getAttrByItsOwn hookBefore
  refine wpAny_bind ?_
  rw [if_pos (show onTheHeap (Value.ref D) = true from rfl)]
  refine l2.at ?_
  refine wpAny_bind (wpAny_attempt (wpAny_holding ?_))
  unfold callGetattribute
  rw [z0, if_neg Bool.false_ne_true]
  unfold boundAndCalled
  rw [PySem.F.excAttr_ValueError.ga.bind (.ref x)]
  refine wpAny_bind (wpAny_pure ?_)
  show wpAny _ _ (call (.builtin "BaseException.__getattribute__") [.ref x, .str "__class__" t]) _ _ _
  refine wpAny_call (codeAny_call_builtin PySem.F.excAttr_ValueError.ga.plain PySem.F.entry_bexc_ga ?_)
  refine @check_slot (model prog w) _ _ ⟨h0, g, d, t + 1, os⟩ "BaseException.__getattribute__" "BaseException" "__getattribute__" (.ref x) [.str "__class__" t] [] _ (by decide +kernel) (by decide +kernel) sb (PySem.F.args_bexc_ga (.ref x) (.str "__class__" t)) ?_
  unfold Builtin.«object.__getattribute__»
  refine wpAny_bind (wpAny_of_eq (a := ((Value.ref x : Value), [Value.str "__class__" t])) (by first | rfl | (simp only [slotArgs]; rfl)) ?_)
  refine wpAny_bind (wpAny_pure (wpAny_bind (l0.at (wpAny_bind (l3.at ?_)))))
  show wpAny _ _ (holding [Value.builtin "object.__class__"] (call (.builtin "getset_descriptor.__get__") [.builtin "object.__class__", .ref x, .ref D]) >>= ret) _ _ _
  refine wpAny_bind (wpAny_holding (wpAny_call (class_get (s := ⟨h0, g, d, t + 1, os⟩) (ox := ox) (od := od) X I T.hm ?_)))
  refine wpAny_pure ?_
  show wpAny _ _ (handedOut (.ref D)) _ _ _
  rw [handedOut_of (v := .ref D) rfl]
  first
    | exact wpAny_pure (wpAny_pure h)
    | exact wpAny_pure h
    | exact wpAny_pure (wpAny_bind (wpAny_pure (wpAny_pure h)))
theorem kitG (T : ExD K D) : KitX K (.ref x) (.ref D) (fun h => ∃ ox od, InstAt h x ox D od) where
  ty := fun _ _ _ ⟨_, _, I⟩ => I.type
  it := fun _ _ X _ => by
    obtain ⟨cd, hc, _⟩ := any_some T.hd
    unfold clsIn at hc
    split at hc
    · rename_i c' d' cd' sl' ho
      intro A' Q' E' s' k q
      unfold isType loadHead
      exact wpAny_bind (wpAny_loadPart (k _ _ (X _ _ ho)) (wpAny_pure q))
    · cases hc
  ne := fun h tp dd its n sl X htp => by
    obtain ⟨cd, hc, _⟩ := any_some T.hd
    refine Bool.eq_false_iff.mpr fun q => ?_
    have e : D = tp := Value.ref.inj (beq_iff_eq.mp q)
    subst e
    unfold clsIn at hc
    split at hc
    · rename_i c' d' cd' sl' ho
      have z := (X _ _ ho).symm.trans htp
      cases z
    · cases hc
  ca := fun X ⟨_, _, I⟩ k => class_of_exc T X I k
end
open PySem PySem.Spec PyProof.Rows L2
def Kept (K : PySem.W.Frag) (H : Hp) (a D : Addr) (fs : List (Str × V)) : Prop := ∃ dd, H a = some (ExT (.ref D) (some dd) a) ∧ H dd = some (.xd fs)
theorem kept_inst {X : Cx} {pins : List (Addr × Obj)} {σ : L2.St} {H : Hp} {s : Shared} {a D dd : Addr} {fs : List (Str × V)} (I : Inv X pins σ H s) (h1 : H a = some (ExT (.ref D) (some dd) a)) (h2 : H dd = some (.xd fs)) :
    ∃ oe od mA, PySem.W.InstAt s.heap a oe D (some od) ∧ s.heap.Ns1 dd mA ∧ (∀ f, RelO (fs.lookup f) (mA f)) ∧ s.heap.get? dd = some od := by
  obtain ⟨⟨oe, vs, ga, hz, hd⟩, _, _⟩ := I.hok a _ h1
  obtain ⟨mA, hns, hr⟩ := (show ObjOk X.prog X.w H s.heap dd (.xd fs) from I.hok dd _ h2)
  obtain ⟨od, ho, hl⟩ := lookIn_ns hns
  exact ⟨oe, od, mA, ⟨ga, hz.1, by unfold PySem.W.notCls; rw [hd] <;> rfl, by rw [hz.2]; exact ho⟩, hns, hr, ho⟩
def tFldX (K : PySem.W.Frag) (f : Str) (te : TE) : TE := fun σ H Q => te σ H fun x H1 => ∃ (a D : Addr) (fs : List (Str × V)) (v : V), x = .ref a ∧ Kept K H1 a D fs ∧ ExD K D ∧ PySem.W.findIn K (.ref D) f = some none ∧ fs.lookup f = some v ∧ Q v H1
end XG
set_option maxHeartbeats 2000000
namespace X_BadGap
open PySem PySem.W PySem.Calls PyProof.Rows PySem.HandSPX XG
def iA (p1 p2 : Pos) : Arguments := { posonlyargs := [], args := [{ arg := "self", annotation := none, pos := p1 }, { arg := "gap", annotation := none, pos := p2 }], vararg := none, kwonlyargs := [], kw_defaults := [], kwarg := none, defaults := [] }
def iB (q1 q2 q3 q4 : Pos) : List Stmt := [.Assign [.Attribute (.Name "self" q1) "gap" q2] (.Name "gap" q3) q4]
def iS : Scope := { kind := .function, names := [(PySem.Str.ofString "self", .local), (PySem.Str.ofString "gap", .local)], isGenerator := false, isCoroutine := false, more := [] }
abbrev bmB : List Value := [.type "ValueError", .type "Exception", .type "BaseException", .type "object"]
structure Txt (K : Frag) (mg : Str → Option Value) (C fI : Addr) : Prop where
  gC : mg "BadGap" = some (.ref C)
  cls : ∃ nm q N bs bm sn sub ab col dd k0 k1 k2 k3 k5, K.lookup C = some (excClassObj nm q C N bs bm true sn sub ab col dd k0 k1 k2 k3 k5 "ValueError.__new__") ∧ excTail bmB bm = true
  sa : findIn K (.ref C) "__setattr__" = some (some (.builtin "object.__setattr__"))
  noN : findIn K (.ref C) "gap" = some none
  iC : findIn K (.ref C) "__init__" = some (some (.ref fI))
  tC : typeIn K (.ref fI) = some (.type "function")
  kC : keepIn K (.ref C) = true
  exC : subIn K (.ref C) (.type "BaseException") = some true
  tyC : typeIn K (.ref C) = some (.type "type")
  fn : ∃ (oc : Value) (od : Option Addr) (doc pm : Value) (an : Option Addr) (cdv ct : Value) (osl : Array (Option Value)) (p1 p2 q1 q2 q3 q4 : Pos),
    K.lookup fI = some ⟨oc, od, .func (fnOf "__init__" "BadGap.__init__" (iA p1 p2) (iB q1 q2 q3 q4) iS .none .none doc pm an cdv ct), osl⟩ ∧ codeIn K cdv "BadGap.__init__" = true
section
variable {prog : Program} {w : World} {A : Around} {R : Result → Shared → Prop} {s : Shared} {K : Frag} {mg : Str → Option Value} {C fI : Addr}
theorem init_runs (T : Txt K mg C fI) {x t0 : Addr} {v : Value} (X : K.In s.heap) (lim : s.heap.NoLimit) (gx : s.heap.get? x = some (excO C t0)) (nx : K.lookup x = none) (room : A.depth < recursionLimit)
    (kq : ∀ h' tk dx, (∀ b o, b ≠ x → s.heap.get? b = some o → h'.get? b = some o) → h'.get? x = some { cls := .ref C, dict := some dx, data := .fields #[.ref t0, .none, .none, .none, .bool false, .none] } → s.heap.objs.size ≤ dx → dx ≠ x → h'.Ns1 dx (fun y => if y = "gap" then some v else none) → R (.ok (.ret .none)) { s with heap := h', toks := tk }) :
    codeAny (model prog w) A (.call (.ref fI) ⟨[.ref x, v], []⟩) R s := by
  obtain ⟨oc, od, doc, pm, an, cdv, ct, osl, p1, p2, q1, q2, q3, q4, ho, hcd⟩ := T.fn
  obtain ⟨nm, q, N, bs, bm, sn, sub, ab, col, dd, k0, k1, k2, k3, k5, hC, hbm⟩ := T.cls
  have XB := base_ValueError
  have hcl : clsIn K C = some { name := nm, bases := bs, mro := .ref C :: bm, ns := N, qualname := q, hasDict := true, slotNames := sn, subclasses := sub, abstract := ab, collection := col, hasDel := false } := by
    unfold clsIn
    rw [hC] <;> rfl
  refine Att.call_fn (binds := [("self", .ref x), ("gap", v)]) X lim ho hcd room (BindsTo.of_eq (by first | rfl | with_unfolding_all rfl)) (by first | rfl | decide | with_unfolding_all rfl) (fun s1 IC => ?_) rfl rfl rfl
  obtain ⟨h1, tk1, rfl⟩ := IC.toInCall.same
  have kp : ∀ b o, s.heap.get? b = some o → h1.get? b = some o := IC.toInCall.keep
  have hn := IC.toInCall.ns
  have X1 : K.In h1 := X.keeps kp
  show wpAny _ _ (execs _ _) _ _ _
  refine wpAny_execs_cons (plainObj_wpAny_Assign_Attribute ?_)
  refine ldXg (v := v) hn (by first | rfl | with_unfolding_all rfl | kernel_rfl) (ldXg (v := .ref x) hn (by first | rfl | with_unfolding_all rfl | kernel_rfl) ?_)
  refine set_plain X1 (ox := excO C t0) (od := none) ⟨kp _ _ gx, rfl, rfl, trivial⟩ T.sa ?_
  refine osaG X1 (kp _ _ gx) hcl (fun self => ?_) ?_ rfl rfl T.noN (fun h3 tk3 dx k3 dn dne hx3 hn3 => ?_)
  · show refuseLoop self "__setattr__" (.ref C :: bm) = pure ()
    rw [refuseLoop_ref]
    exact excTail_pass self (XB.ps self) bm hbm
  · show (Value.ref C :: bm).contains (.type "object") = true
    rw [List.contains_cons, excTail_contains "object" bm hbm, XB.ob, Bool.or_true]
  · show wpAny _ _ (execs _ _) _ _ _
    have z : s.heap.objs.size < h1.objs.size := hn.lt
    exact wpAny_execs_nil (kq h3 tk3 dx (fun b o hb e => k3 b o hb (kp b o e)) hx3 (Nat.le_of_lt (Nat.lt_of_lt_of_le z dn)) dne hn3)
theorem made (T : Txt K mg C fI) {v : Value} (X : K.In s.heap) (lim : s.heap.NoLimit) (room : A.depth + 1 < recursionLimit)
    (kq : ∀ h' tk e dd, XMade "gap" s.heap h' e C dd v → R (.ok (.ret (.ref e))) { s with heap := h', toks := tk }) :
    codeAny (model prog w) A (.call (.ref C) ⟨[v], []⟩) R s := by
  obtain ⟨nm, q, N, bs, bm, sn, sub, ab, col, dd, k0, k1, k2, k3, k5, hC, hbm⟩ := T.cls
  have XB := base_ValueError
  obtain ⟨hp, g, dr, tk, os⟩ := s
  have kp : ∀ b o, hp.get? b = some o → ((hp.push (kdv_tup [v])).push (excO C hp.objs.size)).get? b = some o := fun b o e => Heap.get?_push_of_some _ (Heap.get?_push_of_some _ e)
  have hget : ((hp.push (kdv_tup [v])).push (excO C hp.objs.size)).get? (hp.objs.size + 1) = some (excO C hp.objs.size) := by heap_get
  have hnx : K.lookup (hp.objs.size + 1) = none := by
    cases e : K.lookup (hp.objs.size + 1) with
    | none => rfl
    | some o => exact absurd (Nat.lt_of_succ_lt (Heap.lt_size (X _ _ e))) (Nat.lt_irrefl _)
  refine call_own XB.eb (fun Y => excTail_contains Y bm hbm) (X _ _ hC) (looks_findIn X T.iC) (fun self => bind_fn X self T.tC) (one_ok v) ?_
  refine init_runs (s := ⟨(hp.push (kdv_tup [v])).push (excO C hp.objs.size), g, dr, tk, os⟩) T (X.keeps kp) (lim.keeps kp) hget hnx ?_ fun h' tk' dx k' hx dn dne hns => ?_
  · show A.depth + 1 < recursionLimit
    exact room
  · have old : ∀ b o, hp.get? b = some o → h'.get? b = some o := fun b o e => k' b o (Nat.ne_of_lt (Nat.lt_succ_of_lt (Heap.lt_size e))) (kp b o e)
    have z : hp.objs.size + 1 + 1 ≤ dx := by
      first
        | (simpa only [Heap.size_push] using dn)
        | exact dn
    exact ⟨rfl, kq h' tk' (hp.objs.size + 1) dx ⟨old, Nat.le_succ _, ⟨_, _, hx, rfl, rfl, rfl, rfl⟩, Nat.le_trans (Nat.le_trans (Nat.le_succ _) (Nat.le_succ _)) z, dne, hns⟩⟩
end
end X_BadGap
namespace X_BadGap
open PySem PySem.Spec PyProof.Rows L2 XG
def tMk (C : Addr) (ta : TA) : L2.St → Hp → XK → Prop := fun σ H Q => ta σ H fun vs H1 => ∃ v, vs = [v] ∧ ∀ dd, H1 dd = none → Q (.ref C) (some dd) (upd H1 dd (.xd [(("gap" : Str), v)]))
end X_BadGap
set_option maxHeartbeats 2000000
namespace XG
open PySem PySem.W PySem.Calls PyProof.Rows PySem.HandSPX
theorem base_OverflowError : XBase "OverflowError" "OverflowError.__new__" "OverflowError.__init__" [.type "OverflowError", .type "ArithmeticError", .type "Exception", .type "BaseException", .type "object"] := ⟨PySem.F.excBase_OverflowError, PySem.F.store_OverflowError.passes, by decide +kernel, by simp⟩
end XG
namespace X_TooMany
open PySem PySem.W PySem.Calls PyProof.Rows PySem.HandSPX XG
def iA (p1 p2 : Pos) : Arguments := { posonlyargs := [], args := [{ arg := "self", annotation := none, pos := p1 }, { arg := "many", annotation := none, pos := p2 }], vararg := none, kwonlyargs := [], kw_defaults := [], kwarg := none, defaults := [] }
def iB (q1 q2 q3 q4 : Pos) : List Stmt := [.Assign [.Attribute (.Name "self" q1) "many" q2] (.Name "many" q3) q4]
def iS : Scope := { kind := .function, names := [(PySem.Str.ofString "self", .local), (PySem.Str.ofString "many", .local)], isGenerator := false, isCoroutine := false, more := [] }
abbrev bmB : List Value := [.type "OverflowError", .type "ArithmeticError", .type "Exception", .type "BaseException", .type "object"]
structure Txt (K : Frag) (mg : Str → Option Value) (C fI : Addr) : Prop where
  gC : mg "TooMany" = some (.ref C)
  cls : ∃ nm q N bs bm sn sub ab col dd k0 k1 k2 k3 k5, K.lookup C = some (excClassObj nm q C N bs bm true sn sub ab col dd k0 k1 k2 k3 k5 "OverflowError.__new__") ∧ excTail bmB bm = true
  sa : findIn K (.ref C) "__setattr__" = some (some (.builtin "object.__setattr__"))
  noN : findIn K (.ref C) "many" = some none
  iC : findIn K (.ref C) "__init__" = some (some (.ref fI))
  tC : typeIn K (.ref fI) = some (.type "function")
  kC : keepIn K (.ref C) = true
  exC : subIn K (.ref C) (.type "BaseException") = some true
  tyC : typeIn K (.ref C) = some (.type "type")
  fn : ∃ (oc : Value) (od : Option Addr) (doc pm : Value) (an : Option Addr) (cdv ct : Value) (osl : Array (Option Value)) (p1 p2 q1 q2 q3 q4 : Pos),
    K.lookup fI = some ⟨oc, od, .func (fnOf "__init__" "TooMany.__init__" (iA p1 p2) (iB q1 q2 q3 q4) iS .none .none doc pm an cdv ct), osl⟩ ∧ codeIn K cdv "TooMany.__init__" = true
section
variable {prog : Program} {w : World} {A : Around} {R : Result → Shared → Prop} {s : Shared} {K : Frag} {mg : Str → Option Value} {C fI : Addr}
theorem init_runs (T : Txt K mg C fI) {x t0 : Addr} {v : Value} (X : K.In s.heap) (lim : s.heap.NoLimit) (gx : s.heap.get? x = some (excO C t0)) (nx : K.lookup x = none) (room : A.depth < recursionLimit)
    (kq : ∀ h' tk dx, (∀ b o, b ≠ x → s.heap.get? b = some o → h'.get? b = some o) → h'.get? x = some { cls := .ref C, dict := some dx, data := .fields #[.ref t0, .none, .none, .none, .bool false, .none] } → s.heap.objs.size ≤ dx → dx ≠ x → h'.Ns1 dx (fun y => if y = "many" then some v else none) → R (.ok (.ret .none)) { s with heap := h', toks := tk }) :
    codeAny (model prog w) A (.call (.ref fI) ⟨[.ref x, v], []⟩) R s := by
  obtain ⟨oc, od, doc, pm, an, cdv, ct, osl, p1, p2, q1, q2, q3, q4, ho, hcd⟩ := T.fn
  obtain ⟨nm, q, N, bs, bm, sn, sub, ab, col, dd, k0, k1, k2, k3, k5, hC, hbm⟩ := T.cls
  have XB := base_OverflowError
  have hcl : clsIn K C = some { name := nm, bases := bs, mro := .ref C :: bm, ns := N, qualname := q, hasDict := true, slotNames := sn, subclasses := sub, abstract := ab, collection := col, hasDel := false } := by
    unfold clsIn
    rw [hC] <;> rfl
  refine Att.call_fn (binds := [("self", .ref x), ("many", v)]) X lim ho hcd room (BindsTo.of_eq (by first | rfl | with_unfolding_all rfl)) (by first | rfl | decide | with_unfolding_all rfl) (fun s1 IC => ?_) rfl rfl rfl
  obtain ⟨h1, tk1, rfl⟩ := IC.toInCall.same
  have kp : ∀ b o, s.heap.get? b = some o → h1.get? b = some o := IC.toInCall.keep
  have hn := IC.toInCall.ns
  have X1 : K.In h1 := X.keeps kp
  show wpAny _ _ (execs _ _) _ _ _
  refine wpAny_execs_cons (plainObj_wpAny_Assign_Attribute ?_)
  refine ldXg (v := v) hn (by first | rfl | with_unfolding_all rfl | kernel_rfl) (ldXg (v := .ref x) hn (by first | rfl | with_unfolding_all rfl | kernel_rfl) ?_)
  refine set_plain X1 (ox := excO C t0) (od := none) ⟨kp _ _ gx, rfl, rfl, trivial⟩ T.sa ?_
  refine osaG X1 (kp _ _ gx) hcl (fun self => ?_) ?_ rfl rfl T.noN (fun h3 tk3 dx k3 dn dne hx3 hn3 => ?_)
  · show refuseLoop self "__setattr__" (.ref C :: bm) = pure ()
    rw [refuseLoop_ref]
    exact excTail_pass self (XB.ps self) bm hbm
  · show (Value.ref C :: bm).contains (.type "object") = true
    rw [List.contains_cons, excTail_contains "object" bm hbm, XB.ob, Bool.or_true]
  · show wpAny _ _ (execs _ _) _ _ _
    have z : s.heap.objs.size < h1.objs.size := hn.lt
    exact wpAny_execs_nil (kq h3 tk3 dx (fun b o hb e => k3 b o hb (kp b o e)) hx3 (Nat.le_of_lt (Nat.lt_of_lt_of_le z dn)) dne hn3)
theorem made (T : Txt K mg C fI) {v : Value} (X : K.In s.heap) (lim : s.heap.NoLimit) (room : A.depth + 1 < recursionLimit)
    (kq : ∀ h' tk e dd, XMade "many" s.heap h' e C dd v → R (.ok (.ret (.ref e))) { s with heap := h', toks := tk }) :
    codeAny (model prog w) A (.call (.ref C) ⟨[v], []⟩) R s := by
  obtain ⟨nm, q, N, bs, bm, sn, sub, ab, col, dd, k0, k1, k2, k3, k5, hC, hbm⟩ := T.cls
  have XB := base_OverflowError
  obtain ⟨hp, g, dr, tk, os⟩ := s
  have kp : ∀ b o, hp.get? b = some o → ((hp.push (kdv_tup [v])).push (excO C hp.objs.size)).get? b = some o := fun b o e => Heap.get?_push_of_some _ (Heap.get?_push_of_some _ e)
  have hget : ((hp.push (kdv_tup [v])).push (excO C hp.objs.size)).get? (hp.objs.size + 1) = some (excO C hp.objs.size) := by heap_get
  have hnx : K.lookup (hp.objs.size + 1) = none := by
    cases e : K.lookup (hp.objs.size + 1) with
    | none => rfl
    | some o => exact absurd (Nat.lt_of_succ_lt (Heap.lt_size (X _ _ e))) (Nat.lt_irrefl _)
  refine call_own XB.eb (fun Y => excTail_contains Y bm hbm) (X _ _ hC) (looks_findIn X T.iC) (fun self => bind_fn X self T.tC) (one_ok v) ?_
  refine init_runs (s := ⟨(hp.push (kdv_tup [v])).push (excO C hp.objs.size), g, dr, tk, os⟩) T (X.keeps kp) (lim.keeps kp) hget hnx ?_ fun h' tk' dx k' hx dn dne hns => ?_
  · show A.depth + 1 < recursionLimit
    exact room
  · have old : ∀ b o, hp.get? b = some o → h'.get? b = some o := fun b o e => k' b o (Nat.ne_of_lt (Nat.lt_succ_of_lt (Heap.lt_size e))) (kp b o e)
    have z : hp.objs.size + 1 + 1 ≤ dx := by
      first
        | (simpa only [Heap.size_push] using dn)
        | exact dn
    exact ⟨rfl, kq h' tk' (hp.objs.size + 1) dx ⟨old, Nat.le_succ _, ⟨_, _, hx, rfl, rfl, rfl, rfl⟩, Nat.le_trans (Nat.le_trans (Nat.le_succ _) (Nat.le_succ _)) z, dne, hns⟩⟩
end
end X_TooMany
namespace X_TooMany
open PySem PySem.Spec PyProof.Rows L2 XG
def tMk (C : Addr) (ta : TA) : L2.St → Hp → XK → Prop := fun σ H Q => ta σ H fun vs H1 => ∃ v, vs = [v] ∧ ∀ dd, H1 dd = none → Q (.ref C) (some dd) (upd H1 dd (.xd [(("many" : Str), v)]))
end X_TooMany
namespace DX
open PySem PySem.Spec PyProof.Rows L2
abbrev Ent := List Int × Addr × V
def thI (k : List Int) : Int := reduceHash (Builtin.Tuple.tupleHashOf (k.map hashInt))
def entI (x : List Int × Addr × Value) : DictEntry := { hash := thI x.1, key := .ref x.2.1, val := x.2.2 }
def EV (p : Ent) (q : List Int × Addr × Value) : Prop := p.1 = q.1 ∧ p.2.1 = q.2.1 ∧ RelV p.2.2 q.2.2
structure DcO (o : Obj) (L : List Ent) : Prop where
  ex : o.ExactDict
  dat : ∃ es ep us, o.data = .dict es ep ∧ es.toList = us.map entI ∧ Paired EV L us
  nd : (L.map (·.1)).Nodup
  sz : L.length ≤ sizeLine
def xdO (a : Addr) (o : Obj) : HO := .ext fun h => h.get? a = some o ∧ (a == sysModules) = false
theorem xd_get {P : Program} {w : World} {H : Hp} {h : Heap} {a : Addr} {o : Obj} (ok : HOk P w H h) (e : H a = some (xdO a o)) : h.get? a = some o ∧ (a == sysModules) = false :=
  (show ObjOk P w H h a (xdO a o) from ok a _ e).1
def eget (L : List Ent) (k : List Int) : Option V := (L.find? fun p => decide (p.1 = k)).map (·.2.2)
def eput (L : List Ent) (k : List Int) (b : Addr) (v : V) : List Ent := if (eget L k).isSome = true then L.map (fun p => if p.1 = k then (p.1, p.2.1, v) else p) else L ++ [(k, b, v)]
section
variable {X : Cx} {pins : List (Addr × Obj)} {σ : L2.St} {H : Hp} {s : Shared} {a b : Addr} {k : List Int} {L : List Ent} {o : Obj}
def Keys (K : PySem.W.Frag) (H : Hp) (L : List Ent) : Prop := ∀ e ∈ L, SqT K H e.2.1 (e.1.map V.int)
def rDIn (neg : Bool) (K : PySem.W.Frag) : R2 := fun y x H Q => ∃ a b k L o, x = .ref a ∧ y = .ref b ∧ H a = some (xdO a o) ∧ DcO o L ∧ Keys K H L ∧ SqT K H b (k.map V.int) ∧ Q (.bl (if neg = true then !(eget L k).isSome else (eget L k).isSome)) H
def rDIx (K : PySem.W.Frag) : R2 := fun x y H Q => ∃ a b k L o v, x = .ref a ∧ y = .ref b ∧ H a = some (xdO a o) ∧ DcO o L ∧ Keys K H L ∧ SqT K H b (k.map V.int) ∧ eget L k = some v ∧ Q v H
def rDSet (K : PySem.W.Frag) : TSet := fun x y v H Q => ∃ a b k L o, x = .ref a ∧ y = .ref b ∧ H a = some (xdO a o) ∧ DcO o L ∧ Keys K H L ∧ SqT K H b (k.map V.int) ∧ L.length < sizeLine ∧ ∀ o', DcO o' (eput L k b v) → Q (upd H a (xdO a o'))
def tDNew : TE := fun _ H Q => ∀ p o, H p = none → DcO o [] → Q (.ref p) (upd H p (xdO p o))
def tDOne (K : PySem.W.Frag) (tk tv : TE) : TE := fun σ H Q => ∀ p o0, H p = none → DcO o0 [] → tk σ (upd H p (xdO p o0)) fun x H1 => tv σ H1 fun y H2 => ∃ b k, x = .ref b ∧ SqT K H2 b (k.map V.int) ∧ H2 p = some (xdO p o0) ∧ ∀ o', DcO o' [(k, b, y)] → Q (.ref p) (upd H2 p (xdO p o'))
def TyY (K : PySem.W.Frag) (H : Hp) (x : V) (t : Value) : Prop := TyX K H x t ∨ (∃ a o L, x = .ref a ∧ H a = some (xdO a o) ∧ DcO o L ∧ t = .type "dict") ∨ ∃ a D fs, x = .ref a ∧ XG.Kept K H a D fs ∧ XG.ExD K D ∧ t = .ref D
theorem kit_ofY {x : V} {u t : Value} (I : Inv X pins σ H s) (rx : RelV x u) (ty : TyY X.K H x t) : ∃ P, PySem.W.KitX X.K u t P ∧ P s.heap ∧ u ≠ Value.builtin "__main__.__loader__#opaque" := by
  rcases ty with ty | ⟨a, o, L, rfl, h1, h2, rfl⟩ | ⟨a, D, fs, rfl, ⟨dd, h1, h2⟩, T, rfl⟩
  · exact kit_of I rx ty
  · cases (show u = Value.ref a from rx)
    obtain ⟨g1, _⟩ := xd_get I.hok h1
    exact ⟨_, PySem.W.kitx_dict, ⟨o, g1, h2.ex.1⟩, fun z => nomatch z⟩
  · cases (show u = Value.ref a from rx)
    obtain ⟨oe, od, mA, J, _⟩ := XG.kept_inst I h1 h2
    exact ⟨_, XG.kitG T, ⟨_, _, J⟩, fun z => nomatch z⟩
def rIsiY (K : PySem.W.Frag) : List V → Hp → VK → Prop := fun xs H Q => ∃ x c t u b, xs = [x, c] ∧ ClsV c u ∧ TyY K H x t ∧ PySem.W.kitOne K t u = some b ∧ Q (V.bl b) H
theorem call_isiY : CallR X (.builtin "isinstance") (rIsiY X.K) := by
  intro pins s σ H xs us Q I r h
  obtain ⟨x, c, t, u, b, rfl, k, ty, e, q⟩ := h
  obtain ⟨u1, u2, rfl, r1, r2⟩ := vals2 r
  have e2 := ClsV.eq k r2
  subst e2
  obtain ⟨P, Z, p, hx⟩ := kit_ofY I r1 ty
  exact PySem.W.kia_one Z I.kIn p e hx fun tk => ⟨.bl b, H, I.tok tk, rfl, q⟩
def rIsiTY (K : PySem.W.Frag) : List V → Hp → VK → Prop := fun xs H Q => ∃ x tp cs t us b, xs = [x, V.ref tp] ∧ H tp = some (HO.tup cs) ∧ Paired ClsV cs us ∧ TyY K H x t ∧ PySem.W.kitAny K t us = some b ∧ Q (V.bl b) H
theorem call_isiTY : CallR X (.builtin "isinstance") (rIsiTY X.K) := by
  intro pins s σ H xs us Q I r h
  obtain ⟨x, tp, cs, t, ws, b, rfl, hT, k, ty, e, q⟩ := h
  obtain ⟨u1, u2, rfl, r1, r2⟩ := vals2 r
  cases (show u2 = Value.ref tp from r2)
  obtain ⟨P, Z, p, hx⟩ := kit_ofY I r1 ty
  obtain ⟨_, its, rv, ⟨oc, od, dt, sl⟩, h1, h2, n, h3⟩ := (show ObjOk X.prog X.w H s.heap tp (.tup cs) from I.hok tp _ hT)
  have e3 := ClsV.all k rv
  subst e3
  cases (show oc = _ from h2)
  cases (show dt = _ from h3)
  exact PySem.W.kia_tup Z I.kIn p h1 e hx fun tk => ⟨.bl b, H, I.tok tk, rfl, q⟩
def ItX (a : Addr) (o : Obj) (L : List Ent) : It where
  go := fun i H => H a = some (xdO a o) ∧ i < L.length
  yld := fun i H x H' => H' = H ∧ ∃ k q v, L[i]? = some (k, q, v) ∧ x = .ref q
  stop := fun i H => H a = some (xdO a o) ∧ L.length ≤ i
end
end DX
namespace DX
open PySem PySem.Spec PyProof.Rows L2
section
variable {X : Cx} {pins : List (Addr × Obj)} {σ : L2.St} {H : Hp} {s : Shared}
end
end DX
namespace DL
open PySem PySem.Spec PyProof.Rows L2
inductive SD where
  | unk
  | dat (d : PyData)
  | ref (b : Addr)
abbrev SD.i (n : Int) : SD := .dat (.int n)
abbrev SD.b (c : Bool) : SD := .dat (.bool c)
structure Mv (M : Addr → Prop) (G H G1 H1 : Hp) : Prop where
  gr : ∀ a o, G a = some o → G1 a = some o
  sub : ∀ a o, G1 a = some o → H1 a = some o
  old : ∀ a o, H a = some o → G1 a = G a
  kp : ∀ a o, H a = some o → ¬ M a → H1 a = some o
  dom : ∀ a o, H a = some o → ∃ u, H1 a = some u
structure MS where
  M : Addr → Prop
  inv : Nat → Hp → Hp → Prop
  dom : ∀ {r G H a}, inv r G H → M a → ∃ o, H a = some o
  fr : ∀ {r G H G' H'}, inv r G H → (∀ a o, G a = some o → G' a = some o) → (∀ a o, M a → H a = some o → H' a = some o) → inv r G' H'
  dn : ∀ {r j G H}, inv (r + j) G H → inv r G H
def pu : MS where
  M := fun _ => False
  inv := fun _ _ _ => True
  dom := fun _ h => h.elim
  fr := fun _ _ _ => trivial
  dn := fun _ => trivial
structure Wd (S : MS) (r : Nat) (G H : Hp) : Prop where
  sub : ∀ a o, G a = some o → H a = some o
  no : ∀ a, S.M a → G a = none
  inv : S.inv r G H
section
variable {M : Addr → Prop} {G H G1 H1 G2 H2 : Hp} {S : MS} {r : Nat}
theorem Mv.refl (h : ∀ a o, G a = some o → H a = some o) : Mv M G H G H := ⟨fun _ _ e => e, h, fun _ _ _ => rfl, fun _ _ e _ => e, fun _ o e => ⟨o, e⟩⟩
theorem Mv.trans (x : Mv M G H G1 H1) (y : Mv M G1 H1 G2 H2) : Mv M G H G2 H2 where
  gr := fun a o e => y.gr a o (x.gr a o e)
  sub := y.sub
  old := fun a o e => by
    obtain ⟨u, eu⟩ := x.dom a o e
    rw [y.old a u eu, x.old a o e]
  kp := fun a o e n => y.kp a o (x.kp a o e n) n
  dom := fun a o e => by
    obtain ⟨u, eu⟩ := x.dom a o e
    exact y.dom a u eu
theorem Mv.weak {M' : Addr → Prop} (x : Mv M G H G1 H1) (h : ∀ a, M a → M' a) : Mv M' G H G1 H1 := ⟨x.gr, x.sub, x.old, fun a o e n => x.kp a o e fun z => n (h a z), x.dom⟩
theorem Mv.new {p : Addr} {o : HO} (h : ∀ a o, G a = some o → H a = some o) (np : H p = none) : Mv M G H (upd G p o) (upd H p o) where
  gr := fun a u e => by
    rw [upd_ne (ne_of_none (h a u e) np)]
    exact e
  sub := fun a u e => by
    by_cases ea : a = p
    · subst ea
      rw [upd_same] at e ⊢
      exact e
    · rw [upd_ne ea] at e ⊢
      exact h a u e
  old := fun a u e => upd_ne (ne_of_none e np)
  kp := fun a u e _ => by
    rw [upd_ne (ne_of_none e np)]
    exact e
  dom := fun a u e => ⟨u, by
    rw [upd_ne (ne_of_none e np)]
    exact e⟩
theorem Wd.refl (x : Wd S r G H) : Mv S.M G H G H := Mv.refl x.sub
theorem Wd.new {p : Addr} {o : HO} (x : Wd S r G H) (np : H p = none) : Wd S r (upd G p o) (upd H p o) where
  sub := (Mv.new (M := S.M) (o := o) x.sub np).sub
  no := fun a m => by
    obtain ⟨u, e⟩ := S.dom x.inv m
    rw [upd_ne (ne_of_none e np)]
    exact x.no a m
  inv := S.fr x.inv (Mv.new (M := S.M) (o := o) x.sub np).gr fun a u _ e => by
    rw [upd_ne (ne_of_none e np)]
    exact e
theorem Wd.dn {j : Nat} (x : Wd S (r + j) G H) : Wd S r G H := ⟨x.sub, x.no, S.dn x.inv⟩
theorem Wd.eq {r' : Nat} (x : Wd S r G H) (e : r = r') : Wd S r' G H := e ▸ x
theorem Wd.pure (x : Wd S r G H) (m : Mv (fun _ => False) G H G1 H1) : Wd S r G1 H1 where
  sub := m.sub
  no := fun a ha => by
    obtain ⟨u, e⟩ := S.dom x.inv ha
    rw [m.old a u e]
    exact x.no a ha
  inv := S.fr x.inv m.gr fun a o _ e => m.kp a o e fun z => z
end
structure TbC (K : PySem.W.Frag) (C : Addr) : Prop where
  ns : PySem.W.nsIn K mainGlobals "Table" = some (some (.ref C))
  cl : Cls K C
  ha : PySem.W.findIn K (.ref C) "__class__" = some (some (.builtin "object.__class__"))
  hn : PySem.W.specialIn K (.builtin "object.__class__") "__get__" = some (some (.builtin "getset_descriptor.__get__"))
  htk : PySem.W.takesIn K (.builtin "object.__class__") = some true
  hm : PySem.W.mroIn K C (.type "object") = some true
  n0 : NoAttr K C "row_rooms"
  n1 : NoAttr K C "gap"
  n2 : NoAttr K C "net"
  n3 : NoAttr K C "totals"
  n4 : NoAttr K C "lows"
  n5 : NoAttr K C "highs"
  kI : PySem.W.kitOne K (.ref C) (.type "int") = some false
  kB : PySem.W.kitOne K (.ref C) (.type "bool") = some false
  kS : PySem.W.kitOne K (.ref C) (.type "str") = some false
  kL : PySem.W.kitOne K (.ref C) (.type "list") = some false
  kT : PySem.W.kitOne K (.ref C) (.type "tuple") = some false
  ne : PySem.W.findIn K (.ref C) "__ne__" = some (some (.builtin "object.__ne__"))
abbrev tbN : List Str := ["row_rooms", "gap", "net", "totals", "lows", "highs"]
def clN (nm : Str) : List Str := if nm = "Row" then ["row_rooms", "slips", "shut", "heard_left", "heard_right"] else if nm = "Shop" then ["kept", "past", "log", "working"] else if nm = "Desk" then ["rows"] else []
def clsN : Nat → Str
  | 0 => "Row"
  | 1 => "Shop"
  | _ => "Desk"
theorem clN_nd (nm : Str) : (clN nm).Nodup := by
  unfold clN
  split
  · decide +kernel
  · split
    · decide +kernel
    · split
      · decide +kernel
      · exact List.nodup_nil
structure ClC (K : PySem.W.Frag) (C : Addr) (nm : Str) : Prop where
  ns : PySem.W.nsIn K mainGlobals nm = some (some (.ref C))
  cl : Cls K C
  ha : PySem.W.findIn K (.ref C) "__class__" = some (some (.builtin "object.__class__"))
  hn : PySem.W.specialIn K (.builtin "object.__class__") "__get__" = some (some (.builtin "getset_descriptor.__get__"))
  htk : PySem.W.takesIn K (.builtin "object.__class__") = some true
  hm : PySem.W.mroIn K C (.type "object") = some true
  no : ∀ n ∈ clN nm, NoAttr K C n
  kI : PySem.W.kitOne K (.ref C) (.type "int") = some false
  kB : PySem.W.kitOne K (.ref C) (.type "bool") = some false
  kS : PySem.W.kitOne K (.ref C) (.type "str") = some false
  kL : PySem.W.kitOne K (.ref C) (.type "list") = some false
  kT : PySem.W.kitOne K (.ref C) (.type "tuple") = some false
def erF (nm : Str) : List Str := if nm = "BadGap" then ["gap"] else if nm = "NoPlace" then ["place"] else if nm = "TooMany" then ["many"] else if nm = "TooLong" then ["many"] else if nm = "NoBellows" then ["bellows"] else if nm = "Sealed" then ["bellows"] else if nm = "Open" then ["bellows"] else if nm = "NoGap" then ["gap"] else if nm = "NoRow" then ["name"] else if nm = "Known" then ["name"] else if nm = "BadText" then ["at"] else if nm = "BadRow" then ["row"] else if nm = "BadDeed" then ["place"] else []
def erB (nm : Str) : String := if nm = "BadGap" then "ValueError" else if nm = "NoPlace" then "LookupError" else if nm = "TooMany" then "OverflowError" else if nm = "TooLong" then "OverflowError" else if nm = "BadRooms" then "ValueError" else if nm = "Unlike" then "ValueError" else "LookupError"
structure ErC (K : PySem.W.Frag) (C : Addr) (nm : Str) : Prop where
  ns : PySem.W.nsIn K mainGlobals nm = some (some (.ref C))
  xd : XG.ExD K C
  no : ∀ n ∈ erF nm, PySem.W.findIn K (.ref C) n = some none
  kV : PySem.W.kitOne K (.ref C) (.type (erB nm)) = some true
  kI : PySem.W.kitOne K (.ref C) (.type "int") = some false
  kB : PySem.W.kitOne K (.ref C) (.type "bool") = some false
  kS : PySem.W.kitOne K (.ref C) (.type "str") = some false
  kL : PySem.W.kitOne K (.ref C) (.type "list") = some false
  kT : PySem.W.kitOne K (.ref C) (.type "tuple") = some false
def kyD : Key → PyData
  | .inl i => .int i
  | .inr s => .str s
inductive ObC (K : PySem.W.Frag) (G : Hp) (a : Addr) : HO → PyData → List V → Prop
  | tb {C dx : Addr} {fs : List (Str × V)} (hC : TbC K C) (hn : fs.map (·.1) = tbN) : ObC K G a (.ins C dx fs) .none (fs.map (·.2))
  | cl {C dx : Addr} {fs : List (Str × V)} {nm : Str} (hC : ClC K C nm) (hn : fs.map (·.1) = (clN nm).take fs.length) : ObC K G a (.ins C dx fs) (.str nm) (fs.map (·.2))
  | dk {kvs : List (Key × V)} : ObC K G a (.dK kvs) (.tuple (kvs.map fun p => kyD p.1)) (kvs.map (·.2))
  | er {C dd : Addr} {fs : List (Str × V)} {nm : Str} (hX : ErC K C nm) (hd : G dd = some (.xd fs)) (hn : fs.map (·.1) = erF nm) : ObC K G a (XG.ExT (.ref C) (some dd) a) (.list [.str nm]) (fs.map (·.2))
theorem ObC.mono {K : PySem.W.Frag} {G G1 : Hp} {a : Addr} {o : HO} {m : PyData} {vs : List V} (h : ∀ a o, G a = some o → G1 a = some o) : ObC K G a o m vs → ObC K G1 a o m vs
  | .tb x y => .tb x y
  | .cl x y => .cl x y
  | .dk => .dk
  | .er x y z => .er x (h _ _ y) z
theorem sqm {K : PySem.W.Frag} {G H : Hp} {a : Addr} {xs : List V} (h : ∀ a o, G a = some o → H a = some o) (s : SqT K G a xs) : SqT K H a xs :=
  s.elim (fun s => .inl (s.elim (fun s => .inl (h _ _ s)) fun ⟨o, s⟩ => .inr ⟨o, h _ _ s⟩)) .inr
def dcP (p : List Int × PyData) : PyData × PyData := (.tuple (p.1.map .int), p.2)
def dctD (kvs : List (List Int × PyData)) : PyData := .dict ((.bool true, .none) :: kvs.map dcP)
theorem keys_mono {K : PySem.W.Frag} {G H : Hp} {L : List DX.Ent} (h : ∀ a o, G a = some o → H a = some o) (k : DX.Keys K G L) : DX.Keys K H L := fun e he => sqm h (k e he)
mutual
inductive DD (K : PySem.W.Frag) (G : Hp) : V → PyData → Prop
  | non : DD K G .non .none
  | bl (c : Bool) : DD K G (.bl c) (.bool c)
  | int (i : Int) : DD K G (.int i) (.int i)
  | str (x : Str) : DD K G (.str x) (.str x)
  | lst {a : Addr} {xs : List V} {ds : List PyData} (h : G a = some (.lst xs)) (t : DDs K G xs ds) : DD K G (.ref a) (.list ds)
  | tup {a : Addr} {xs : List V} {ds : List PyData} (h : SqT K G a xs) (t : DDs K G xs ds) : DD K G (.ref a) (.tuple ds)
  | dct {a : Addr} {o : Obj} {L : List DX.Ent} {kvs : List (List Int × PyData)} {ps : List (PyData × PyData)} (h : G a = some (DX.xdO a o)) (hd : DX.DcO o L) (hk : DX.Keys K G L) (e : ps = kvs.map dcP) (hx : kvs.map (·.1) = L.map (·.1)) (t : DDs K G (L.map (·.2.2)) (kvs.map (·.2))) : DD K G (.ref a) (.dict ((.bool true, .none) :: ps))
  | obj {a : Addr} {o : HO} {m : PyData} {vs : List V} {ds : List PyData} (h : G a = some o) (hC : ObC K G a o m vs) (t : DDs K G vs ds) : DD K G (.ref a) (.dict [(m, .list ds)])
inductive DDs (K : PySem.W.Frag) (G : Hp) : List V → List PyData → Prop
  | nil : DDs K G [] []
  | cons {v : V} {d : PyData} {vs : List V} {ds : List PyData} (h : DD K G v d) (t : DDs K G vs ds) : DDs K G (v :: vs) (d :: ds)
end
section
variable {K : PySem.W.Frag} {G G1 H : Hp}
mutual
theorem DD.mono (h : ∀ a o, G a = some o → G1 a = some o) : ∀ {d : PyData} {v : V}, DD K G v d → DD K G1 v d
  | _, _, .non => .non
  | _, _, .bl b => .bl b
  | _, _, .int i => .int i
  | _, _, .str x => .str x
  | _, _, .lst s a => .lst (h _ _ s) (DDs.mono h a)
  | _, _, .tup s a => .tup (sqm h s) (DDs.mono h a)
  | _, _, .obj s c a => .obj (h _ _ s) (c.mono h) (DDs.mono h a)
  | _, _, .dct s c k e n a => .dct (h _ _ s) c (keys_mono h k) e n (DDs.mono h a)
theorem DDs.mono (h : ∀ a o, G a = some o → G1 a = some o) : ∀ {ds : List PyData} {vs : List V}, DDs K G vs ds → DDs K G1 vs ds
  | _, _, .nil => .nil
  | _, _, .cons d a => .cons (DD.mono h d) (DDs.mono h a)
end
mutual
theorem DD.dp : ∀ {d : PyData} {v : V}, DD K G v d → d.hasDict = false → Dp K G v d
  | _, _, .non, _ => .non
  | _, _, .bl b, _ => .bl b
  | _, _, .int i, _ => .int i
  | _, _, .str x, _ => .str x
  | _, _, .lst s a, n => .lst (.inl (.inl s)) (DDs.dp a (by simpa [PyData.hasDict] using n))
  | _, _, .tup s a, n => .tup s (DDs.dp a (by simpa [PyData.hasDict] using n))
  | _, _, .obj _ _ _, n => by simp [PyData.hasDict] at n
  | _, _, .dct _ _ _ _ _ _, n => by simp [PyData.hasDict] at n
theorem DDs.dp : ∀ {ds : List PyData} {vs : List V}, DDs K G vs ds → PyData.hasDictAll ds = false → DpAll K G vs ds
  | _, _, .nil, _ => .nil
  | _, _, .cons d a, n => by
    simp only [PyData.hasDictAll, Bool.or_eq_false_iff] at n
    exact .cons (DD.dp d n.1) (DDs.dp a n.2)
end
theorem DDs.len : ∀ {ds : List PyData} {vs : List V}, DDs K G vs ds → vs.length = ds.length
  | _, _, .nil => rfl
  | _, _, .cons _ a => congrArg Nat.succ (DDs.len a)
theorem DDs.get : ∀ {ds : List PyData} {vs : List V} {i : Nat} {v : V}, DDs K G vs ds → vs[i]? = some v → ∃ d, ds[i]? = some d ∧ DD K G v d
  | _, _, _, _, .nil, e => by simp at e
  | _, _, 0, _, .cons h _, e => by
    simp at e
    subst e
    exact ⟨_, rfl, h⟩
  | _, _, i + 1, v, .cons _ t, e => by
    obtain ⟨d, h1, h2⟩ := DDs.get (i := i) (v := v) t (by simpa using e)
    exact ⟨d, by simpa using h1, h2⟩
theorem DDs.got : ∀ {ds : List PyData} {vs : List V} {i : Nat} {d : PyData}, DDs K G vs ds → ds[i]? = some d → ∃ v, vs[i]? = some v ∧ DD K G v d
  | _, _, _, _, .nil, e => by simp at e
  | _, _, 0, _, .cons h _, e => by
    simp at e
    subst e
    exact ⟨_, rfl, h⟩
  | _, _, i + 1, d, .cons _ t, e => by
    obtain ⟨v, h1, h2⟩ := DDs.got (i := i) (d := d) t (by simpa using e)
    exact ⟨v, by simpa using h1, h2⟩
theorem DDs.append : ∀ {ds es : List PyData} {vs us : List V}, DDs K G vs ds → DDs K G us es → DDs K G (vs ++ us) (ds ++ es)
  | _, _, _, _, .nil, s => s
  | _, _, _, _, .cons r t, s => .cons r (DDs.append t s)
theorem DDs.snoc {ds : List PyData} {vs : List V} {v : V} {d : PyData} (a : DDs K G vs ds) (b : DD K G v d) : DDs K G (vs ++ [v]) (ds ++ [d]) := a.append (.cons b .nil)
theorem DDs.reverse : ∀ {ds : List PyData} {vs : List V}, DDs K G vs ds → DDs K G vs.reverse ds.reverse
  | _, _, .nil => .nil
  | _, _, .cons r t => by
    rw [List.reverse_cons, List.reverse_cons]
    exact (DDs.reverse t).snoc r
theorem DDs.ints : ∀ {ns : List Int} {vs : List V}, DDs K G vs (ns.map .int) → vs = ns.map V.int
  | [], _, .nil => rfl
  | n :: ns, _, .cons h t => by
    cases h
    rw [DDs.ints t]
    rfl
theorem DDs.ofInts : ∀ (ns : List Int), DDs K G (ns.map V.int) (ns.map .int)
  | [] => .nil
  | n :: ns => .cons (.int n) (DDs.ofInts ns)
theorem DDs.bls : ∀ {ns : List Bool} {vs : List V}, DDs K G vs (ns.map .bool) → vs = ns.map V.bl
  | [], _, .nil => rfl
  | n :: ns, _, .cons h t => by
    cases h
    rw [DDs.bls t]
    rfl
theorem DDs.take : ∀ {ds : List PyData} {vs : List V} (n : Nat), DDs K G vs ds → DDs K G (vs.take n) (ds.take n)
  | _, _, 0, _ => .nil
  | _, _, _ + 1, .nil => .nil
  | _, _, n + 1, .cons r t => .cons r (DDs.take n t)
theorem DDs.drop : ∀ {ds : List PyData} {vs : List V} (n : Nat), DDs K G vs ds → DDs K G (vs.drop n) (ds.drop n)
  | _, _, 0, r => r
  | _, _, _ + 1, .nil => .nil
  | _, _, n + 1, .cons _ t => DDs.drop n t
end
def VD (K : PySem.W.Frag) (G : Hp) (v : V) : SD → Prop
  | .unk => True
  | .dat d => DD K G v d
  | .ref b => v = .ref b
section
variable {K : PySem.W.Frag} {G G1 H : Hp} {v : V} {s : SD}
theorem VD.mono (h : ∀ a o, G a = some o → G1 a = some o) (q : VD K G v s) : VD K G1 v s := by
  cases s with
  | unk => trivial
  | dat d => exact DD.mono h (show DD K G v d from q)
  | ref b => exact q
end
def SlD (K : PySem.W.Frag) (G : Hp) (σ : L2.St) (δ : List SD) : Prop := σ.length = δ.length ∧ ∀ (i : Nat) (s : SD), δ[i]? = some s → s = .unk ∨ ∃ v, σ[i]? = some (some v) ∧ VD K G v s
section
variable {K : PySem.W.Frag} {G G1 H : Hp} {v : V} {s : SD} {σ : L2.St} {δ : List SD}
theorem SlD.mono (h : ∀ a o, G a = some o → G1 a = some o) (q : SlD K G σ δ) : SlD K G1 σ δ := ⟨q.1, fun i s e => (q.2 i s e).imp (fun z => z) fun ⟨v, a, b⟩ => ⟨v, a, b.mono h⟩⟩
theorem SlD.set (q : SlD K G σ δ) (hv : VD K G v s) (i : Nat) : SlD K G (σ.set i (some v)) (δ.set i s) := by
  refine ⟨by rw [List.length_set, List.length_set]; exact q.1, fun j t e => ?_⟩
  by_cases hj : i = j
  · subst hj
    by_cases hi : i < δ.length
    · rw [List.getElem?_set_self hi] at e
      cases e
      exact .inr ⟨v, List.getElem?_set_self (by rw [q.1]; exact hi), hv⟩
    · rw [List.getElem?_eq_none (by rw [List.length_set]; omega)] at e
      cases e
  · rw [List.getElem?_set_ne hj] at e
    rcases q.2 j t e with z | ⟨w, a, b⟩
    · exact .inl z
    · exact .inr ⟨w, by rw [List.getElem?_set_ne hj]; exact a, b⟩
theorem SlD.none (q : SlD K G σ δ) (i : Nat) : SlD K G (σ.set i none) (δ.set i .unk) := by
  refine ⟨by rw [List.length_set, List.length_set]; exact q.1, fun j t e => ?_⟩
  by_cases hj : i = j
  · subst hj
    by_cases hi : i < δ.length
    · rw [List.getElem?_set_self hi] at e
      cases e
      exact .inl rfl
    · rw [List.getElem?_eq_none (by rw [List.length_set]; omega)] at e
      cases e
  · rw [List.getElem?_set_ne hj] at e
    rcases q.2 j t e with z | ⟨w, a, b⟩
    · exact .inl z
    · exact .inr ⟨w, by rw [List.getElem?_set_ne hj]; exact a, b⟩
def wipeD (δ : List SD) : List Nat → List SD
  | [] => δ
  | v :: vs => (wipeD δ vs).set v .unk
theorem SlD.wipe (q : SlD K G σ δ) : ∀ vs : List Nat, SlD K G (wipe σ vs) (wipeD δ vs)
  | [] => q
  | v :: vs => (SlD.wipe q vs).none v
end
def Ev (K : PySem.W.Frag) (S : MS) (te : TE) (δ : List SD) (k : Nat) (Φ : SD → Prop) : Prop :=
  ∀ r σ G H, SlD K G σ δ → Wd S (r + k) G H → ∀ Q : VK, (∀ v s G2 H2, Mv S.M G H G2 H2 → Wd S r G2 H2 → VD K G2 v s → Φ s → Q v H2) → te σ H Q
def EvT (K : PySem.W.Frag) (S : MS) (tt : TT) (δ : List SD) (k : Nat) (Φ : Bool → Prop) : Prop :=
  ∀ r σ G H, SlD K G σ δ → Wd S (r + k) G H → ∀ Q : Bool → Hp → Prop, (∀ c G2 H2, Mv S.M G H G2 H2 → Wd S r G2 H2 → Φ c → Q c H2) → tt σ H Q
inductive VDs (K : PySem.W.Frag) (G : Hp) : List V → List SD → Prop
  | nil : VDs K G [] []
  | cons {v : V} {s : SD} {vs : List V} {ss : List SD} : VD K G v s → VDs K G vs ss → VDs K G (v :: vs) (s :: ss)
theorem VDs.mono {K : PySem.W.Frag} {G G1 : Hp} (h : ∀ a o, G a = some o → G1 a = some o) : ∀ {vs : List V} {ss : List SD}, VDs K G vs ss → VDs K G1 vs ss
  | _, _, .nil => .nil
  | _, _, .cons a b => .cons (a.mono h) (b.mono h)
def EvA (K : PySem.W.Frag) (S : MS) (ta : TA) (δ : List SD) (k : Nat) (Φ : List SD → Prop) : Prop :=
  ∀ r σ G H, SlD K G σ δ → Wd S (r + k) G H → ∀ Q : List V → Hp → Prop, (∀ vs ss G2 H2, Mv S.M G H G2 H2 → Wd S r G2 H2 → VDs K G2 vs ss → Φ ss → Q vs H2) → ta σ H Q
abbrev Dt (K : PySem.W.Frag) (S : MS) (te : TE) (δ : List SD) (s : SD) : Prop := Ev K S te δ 0 (fun x => x = s)
structure Out where
  nx : List SD → Prop := fun _ => False
  rt : SD → Prop := fun _ => False
  bk : List SD → Prop := fun _ => False
  ct : List SD → Prop := fun _ => False
def EvS (K : PySem.W.Frag) (S : MS) (t : TS) (δ : List SD) (k : Nat) (O : Out) : Prop :=
  ∀ r σ G H, SlD K G σ δ → Wd S (r + k) G H → ∀ D : Ends,
    (∀ σ' δ' G2 H2, Mv S.M G H G2 H2 → Wd S r G2 H2 → SlD K G2 σ' δ' → O.nx δ' → D.nx σ' H2) →
    (∀ v s G2 H2, Mv S.M G H G2 H2 → Wd S r G2 H2 → VD K G2 v s → O.rt s → D.rt v H2) →
    (∀ σ' δ' G2 H2, Mv S.M G H G2 H2 → Wd S r G2 H2 → SlD K G2 σ' δ' → O.bk δ' → D.bk σ' H2) →
    (∀ σ' δ' G2 H2, Mv S.M G H G2 H2 → Wd S r G2 H2 → SlD K G2 σ' δ' → O.ct δ' → D.ct σ' H2) → t D σ H
section
variable {K : PySem.W.Frag} {S : MS} {te ta tb tc : TE} {tt tu : TT} {δ : List SD} {k k' j : Nat} {Φ Ψ : SD → Prop} {s s' : SD}
theorem Ev.mono (h : Ev K S te δ k Φ) (i : ∀ s, Φ s → Ψ s) : Ev K S te δ k Ψ := fun r σ G H q w Q hQ => h r σ G H q w Q fun v s G2 H2 m w2 a b => hQ v s G2 H2 m w2 a (i s b)
theorem Ev.up (h : Ev K S te δ k Φ) (hk : k ≤ k') : Ev K S te δ k' Φ := fun r σ G H q w Q hQ => h r σ G H q (Wd.dn (j := k' - k) (w.eq (by omega))) Q hQ
theorem EvT.mono {Φ Ψ : Bool → Prop} (h : EvT K S tt δ k Φ) (i : ∀ s, Φ s → Ψ s) : EvT K S tt δ k Ψ := fun r σ G H q w Q hQ => h r σ G H q w Q fun c G2 H2 m w2 b => hQ c G2 H2 m w2 (i c b)
theorem EvT.up {Φ : Bool → Prop} (h : EvT K S tt δ k Φ) (hk : k ≤ k') : EvT K S tt δ k' Φ := fun r σ G H q w Q hQ => h r σ G H q (Wd.dn (j := k' - k) (w.eq (by omega))) Q hQ
theorem EvS.mono {t : TS} {O O' : Out} (h : EvS K S t δ k O) (h1 : ∀ x, O.nx x → O'.nx x) (h2 : ∀ x, O.rt x → O'.rt x) (h3 : ∀ x, O.bk x → O'.bk x) (h4 : ∀ x, O.ct x → O'.ct x) : EvS K S t δ k O' :=
  fun r σ G H q w D a b c d => h r σ G H q w D (fun x y z u m w2 s o => a x y z u m w2 s (h1 _ o)) (fun x y z u m w2 s o => b x y z u m w2 s (h2 _ o)) (fun x y z u m w2 s o => c x y z u m w2 s (h3 _ o)) (fun x y z u m w2 s o => d x y z u m w2 s (h4 _ o))
theorem EvS.up {t : TS} {O : Out} (h : EvS K S t δ k O) (hk : k ≤ k') : EvS K S t δ k' O := fun r σ G H q w D => h r σ G H q (Wd.dn (j := k' - k) (w.eq (by omega))) D
theorem e_var {i : Nat} (h : δ[i]? = some s) (hs : s ≠ .unk) : Dt K S (tVar i) δ s := fun r σ G H q w Q hQ => by
  rcases q.2 i s h with z | ⟨v, e, hv⟩
  · exact absurd z hs
  · exact ⟨v, e, hQ v s G H w.refl w hv rfl⟩
theorem e_vd {i : Nat} {d : PyData} (h : δ[i]? = some (.dat d)) : Dt K S (tVar i) δ (.dat d) := e_var h (fun z => nomatch z)
theorem e_c {v : V} {d : PyData} (h : ∀ G, DD K G v d) : Dt K S (tC v) δ (.dat d) := fun r σ G H q w Q hQ => hQ v (.dat d) G H w.refl w (h G) rfl
theorem e_non : Dt K S (tC .non) δ (.dat .none) := e_c fun _ => .non
def RV (K : PySem.W.Frag) (r : R2) (s s' : SD) (Ψ : SD → Prop) : Prop := ∀ x y G H, VD K G x s → VD K G y s' → (∀ a o, G a = some o → H a = some o) → ∀ Q : VK, (∀ v z G2 H2, Mv (fun _ => False) G H G2 H2 → VD K G2 v z → Ψ z → Q v H2) → r x y H Q
theorem e_op {r : R2} {Φ' : SD → SD → Prop} (ha : Ev K S ta δ k Φ) (hb : ∀ s, Φ s → Ev K S tb δ k' (Φ' s)) (hr : ∀ s s', Φ s → Φ' s s' → RV K r s s' Ψ) : Ev K S (tOp r ta tb) δ (k + k') Ψ :=
  fun r σ G H q w Q hQ => ha (r + k') σ G H q (w.eq (by omega)) _ fun v s G2 H2 m w2 hv hs =>
    hb s hs r σ G2 H2 (q.mono m.gr) w2 _ fun u s' G3 H3 m3 w3 hu hs' =>
      hr s s' hs hs' v u G3 H3 (hv.mono m3.gr) hu w3.sub Q fun y z G4 H4 m4 hy hz => hQ y z G4 H4 ((m.trans m3).trans (m4.weak fun _ f => f.elim)) (w3.pure m4) hy hz
theorem d_op {r : R2} (ha : Dt K S ta δ s) (hb : Dt K S tb δ s') (hr : RV K r s s' Ψ) : Ev K S (tOp r ta tb) δ 0 Ψ :=
  e_op (Φ' := fun _ x => x = s') (k' := 0) ha (fun _ _ => hb) fun x y hx hy => by
    subst hx hy
    exact hr
theorem rv_I0 {g : Int → Int → V} {i j : Int} {d : PyData} (h : ∀ G, DD K G (g i j) d) : RV K (rI0 g) (.dat (.int i)) (.dat (.int j)) (fun z => z = .dat d) := fun x y G H hx hy hs Q hQ => by
  cases hx
  cases hy
  exact ⟨i, j, rfl, rfl, hQ _ (.dat d) G H (Mv.refl hs) (h G) rfl⟩
theorem rv_I {C : Int → Int → Prop} {g : Int → Int → V} {i j : Int} {d : PyData} (hc : C i j) (h : ∀ G, DD K G (g i j) d) : RV K (rI C g) (.dat (.int i)) (.dat (.int j)) (fun z => z = .dat d) := fun x y G H hx hy hs Q hQ => by
  cases hx
  cases hy
  exact ⟨i, j, rfl, rfl, hc, hQ _ (.dat d) G H (Mv.refl hs) (h G) rfl⟩
theorem a_nil : EvA K S tNil δ 0 (fun ss => ss = []) := fun r σ G H q w Q hQ => hQ [] [] G H w.refl w .nil rfl
theorem a_cons {tr : TA} {Φ' : SD → List SD → Prop} (ha : Ev K S ta δ k Φ) (hr : ∀ s, Φ s → EvA K S tr δ k' (Φ' s)) : EvA K S (tCons ta tr) δ (k + k') (fun ss => ∃ s l, ss = s :: l ∧ Φ s ∧ Φ' s l) :=
  fun r σ G H q w Q hQ => ha (r + k') σ G H q (w.eq (by omega)) _ fun v s G2 H2 m w2 hv hs =>
    hr s hs r σ G2 H2 (q.mono m.gr) w2 _ fun vs ss G3 H3 m3 w3 hvs hss => hQ _ (s :: ss) G3 H3 (m.trans m3) w3 (.cons (hv.mono m3.gr) hvs) ⟨s, ss, rfl, hs, hss⟩
theorem da_cons {tr : TA} {ss : List SD} (ha : Dt K S ta δ s) (hr : EvA K S tr δ 0 (fun l => l = ss)) : EvA K S (tCons ta tr) δ 0 (fun l => l = s :: ss) :=
  fun r σ G H q w Q hQ => a_cons (k' := 0) (Φ' := fun _ l => l = ss) ha (fun _ _ => hr) r σ G H q w Q fun vs l G2 H2 m w2 hv ⟨x, y, e, ex, ey⟩ => hQ vs l G2 H2 m w2 hv (by rw [e, ex, ey])
def RC (K : PySem.W.Frag) (r : List V → Hp → VK → Prop) (ss : List SD) (Ψ : SD → Prop) : Prop := ∀ vs G H, VDs K G vs ss → (∀ a o, G a = some o → H a = some o) → ∀ Q : VK, (∀ v z G2 H2, Mv (fun _ => False) G H G2 H2 → VD K G2 v z → Ψ z → Q v H2) → r vs H Q
theorem e_cb {r : List V → Hp → VK → Prop} {t : TA} {Φ : List SD → Prop} (ha : EvA K S t δ k Φ) (hr : ∀ ss, Φ ss → RC K r ss Ψ) : Ev K S (tCB r t) δ k Ψ :=
  fun r σ G H q w Q hQ => ha r σ G H q w _ fun vs ss G2 H2 m w2 hv hs => hr ss hs vs G2 H2 hv w2.sub Q fun y z G3 H3 m3 hy hz => hQ y z G3 H3 (m.trans (m3.weak fun _ f => f.elim)) (w2.pure m3) hy hz
theorem d_cb {r : List V → Hp → VK → Prop} {t : TA} {ss : List SD} (ha : EvA K S t δ 0 (fun l => l = ss)) (hr : RC K r ss Ψ) : Ev K S (tCB r t) δ 0 Ψ := e_cb ha fun l hl => by
  subst hl
  exact hr
def dats : List SD → List PyData → Prop
  | [], [] => True
  | .dat d :: r, e :: l => d = e ∧ dats r l
  | _, _ => False
theorem dats_dd {G : Hp} : ∀ {ss : List SD} {ds : List PyData} {vs : List V}, VDs K G vs ss → dats ss ds → DDs K G vs ds
  | _, [], _, .nil, _ => .nil
  | _, _ :: _, _, .nil, h => h.elim
  | .dat d :: r, e :: l, _, .cons a b, h => by
    obtain ⟨rfl, h⟩ := h
    exact .cons a (dats_dd b h)
  | .dat _ :: _, [], _, .cons _ _, h => h.elim
  | .unk :: _, [], _, .cons _ _, h => h.elim
  | .unk :: _, _ :: _, _, .cons _ _, h => h.elim
  | .ref _ :: _, [], _, .cons _ _, h => h.elim
  | .ref _ :: _, _ :: _, _, .cons _ _, h => h.elim
theorem t_test {c : Bool} (h : Dt K S te δ (.b c)) : EvT K S (tTest te) δ 0 (fun x => x = c) := fun r σ G H q w Q hQ => h r σ G H q w _ fun v s G2 H2 m w2 hv hs => by
  subst hs
  cases hv
  exact ⟨c, rfl, hQ c G2 H2 m w2 rfl⟩
theorem t_val {c : Bool} (h : Dt K S te δ (.b c)) : EvT K S (tB te) δ 0 (fun x => x = c) := fun r σ G H q w Q hQ => h r σ G H q w _ fun v s G2 H2 m w2 hv hs => by
  subst hs
  cases hv
  exact ⟨c, rfl, hQ c G2 H2 m w2 rfl⟩
theorem t_or {c d : Bool} (h1 : EvT K S tt δ 0 (fun x => x = c)) (h2 : c = false → EvT K S tu δ 0 (fun x => x = d)) : EvT K S (tOr tt tu) δ 0 (fun x => x = (c || d)) :=
  fun r σ G H q w Q hQ => h1 r σ G H q w _ fun e G2 H2 m w2 hs => by
    subst hs
    cases e with
    | false => exact iteF (h2 rfl r σ G2 H2 (q.mono m.gr) w2 Q fun f G3 H3 m3 w3 hf => hQ f G3 H3 (m.trans m3) w3 hf)
    | true => exact iteT (hQ true G2 H2 m w2 rfl)
theorem e_andV {c d : Bool} (h1 : Dt K S ta δ (.b c)) (h2 : c = true → Dt K S tb δ (.b d)) : Dt K S (tAndV ta tb) δ (.b (c && d)) :=
  fun r σ G H q w Q hQ => h1 r σ G H q w _ fun v s G2 H2 m w2 hv hs => by
    subst hs
    cases hv
    refine ⟨c, rfl, ?_⟩
    cases c with
    | true => exact iteT (h2 rfl r σ G2 H2 (q.mono m.gr) w2 Q fun u f G3 H3 m3 w3 hu hf => hQ u f G3 H3 (m.trans m3) w3 hu hf)
    | false => exact iteF (hQ _ (.b false) G2 H2 m w2 (.bl false) rfl)
variable {t u : TS} {O : Out}
theorem s_ret (h : Ev K S te δ k O.rt) : EvS K S (tRet te) δ k O := fun r σ G H q w D _ b _ _ => h r σ G H q w _ fun v s G2 H2 m w2 hv hs => b v s G2 H2 m w2 hv hs
theorem s_seq {N : List SD → Prop} (h1 : EvS K S t δ k { O with nx := N }) (h2 : ∀ δ', N δ' → EvS K S u δ' k' O) : EvS K S (tSeq t u) δ (k + k') O :=
  fun r σ G H q w D a b c d => h1 (r + k') σ G H q (w.eq (by omega)) _
    (fun σ' δ' G2 H2 m w2 q2 n => h2 δ' n r σ' G2 H2 q2 w2 D (fun x y z f m3 => a x y z f (m.trans m3)) (fun x y z f m3 => b x y z f (m.trans m3)) (fun x y z f m3 => c x y z f (m.trans m3)) (fun x y z f m3 => d x y z f (m.trans m3)))
    (fun v s G2 H2 m w2 => b v s G2 H2 m (Wd.dn (j := k') w2)) (fun v s G2 H2 m w2 => c v s G2 H2 m (Wd.dn (j := k') w2)) (fun v s G2 H2 m w2 => d v s G2 H2 m (Wd.dn (j := k') w2))
theorem s_if0 {c : Bool} (h : EvT K S tt δ 0 (fun x => x = c)) (h1 : c = true → EvS K S (tSeq t u) δ k O) (h2 : c = false → EvS K S u δ k O) : EvS K S (tSeq (tIfS tt t tNext) u) δ k O :=
  fun r σ G H q w D a b e f => h (r + k) σ G H q w _ fun x G2 H2 m w2 hs => by
    subst hs
    cases x with
    | true => exact iteT (h1 rfl r σ G2 H2 (q.mono m.gr) w2 D (fun x y z f m3 => a x y z f (m.trans m3)) (fun x y z f m3 => b x y z f (m.trans m3)) (fun x y z f m3 => e x y z f (m.trans m3)) (fun x y z g m3 => f x y z g (m.trans m3)))
    | false => exact iteF (h2 rfl r σ G2 H2 (q.mono m.gr) w2 D (fun x y z f m3 => a x y z f (m.trans m3)) (fun x y z f m3 => b x y z f (m.trans m3)) (fun x y z f m3 => e x y z f (m.trans m3)) (fun x y z g m3 => f x y z g (m.trans m3)))
theorem s_retSeq (h : Ev K S te δ k O.rt) : EvS K S (tSeq (tRet te) u) δ k O := fun r σ G H q w D _ b _ _ => h r σ G H q w _ fun v s G2 H2 m w2 hv hs => b v s G2 H2 m w2 hv hs
end
def EvI (K : PySem.W.Frag) (S : MS) (wi : TI) (δ : List SD) (k : Nat) (its : List PyData) : Prop :=
  ∀ r σ G H, SlD K G σ δ → Wd S (r + k) G H → ∀ R : It → Hp → Prop,
    (∀ J G2 H2, Mv S.M G H G2 H2 → Wd S r G2 H2 → (∃ (A : Hp → Prop) (Y : Nat → Hp → V → Hp → Prop), Walk J its.length A Y ∧ (∀ G3 H3, Mv S.M G2 H2 G3 H3 → A H3) ∧
      ∀ i d q G3 H3 x H4, its[i]? = some d → Mv S.M G2 H2 G3 H3 → Wd S q G3 H3 → Y i H3 x H4 → ∃ G4, Mv S.M G3 H3 G4 H4 ∧ Wd S q G4 H4 ∧ DD K G4 x d) → R J H2) → wi σ H R
section
variable {K : PySem.W.Frag} {S : MS} {te tl : TE} {δ : List SD} {k k' : Nat}
def rangeD (lo : Int) (n : Nat) : List PyData := (List.range n).map fun (i : Nat) => PyData.int (lo + (i : Int))
theorem rangeD_len (lo : Int) (n : Nat) : (rangeD lo n).length = n := by simp [rangeD]
theorem rangeD_get {lo : Int} {n i : Nat} {d : PyData} (h : (rangeD lo n)[i]? = some d) : i < n ∧ d = .int (lo + (i : Int)) := by
  unfold rangeD at h
  rw [List.getElem?_map] at h
  by_cases hi : i < n
  · rw [List.getElem?_range hi] at h
    exact ⟨hi, (Option.some.inj h).symm⟩
  · rw [List.getElem?_eq_none (by simpa using hi)] at h
    cases h
def Tg (K : PySem.W.Frag) (g : TG) (d : PyData) (δ δ' : List SD) (vs : List Nat) : Prop :=
  ∀ x σ G H, SlD K G σ δ → DD K G x d → (∀ a o, G a = some o → H a = some o) → ∀ Q : L2.St → Hp → Prop, (∀ σ2, SlD K G σ2 δ' → wipe σ2 vs = wipe σ vs → Q σ2 H) → g x σ H Q
theorem wipe1 (σ : L2.St) (i : Nat) (o : Option V) : wipe (σ.set i o) [i] = wipe σ [i] := by
  unfold wipe
  unfold wipe
  rw [List.set_set]
theorem wipe2 (σ : L2.St) (i j : Nat) (o u : Option V) : wipe ((σ.set i o).set j u) [i, j] = wipe σ [i, j] := by
  unfold wipe
  unfold wipe
  unfold wipe
  rw [List.set_set]
  by_cases h : i = j
  · subst h
    rw [List.set_set, List.set_set, List.set_set]
  · rw [List.set_comm _ _ h, List.set_set, List.set_comm _ _ (Ne.symm h)]
theorem tg_name {i : Nat} {d : PyData} : Tg K (gName i) d δ (δ.set i (.dat d)) [i] := fun x σ G H q hx hs Q hQ => hQ _ (q.set (s := .dat d) hx i) (wipe1 σ i _)
theorem tg_pair {i j : Nat} {d e : PyData} : Tg K (gTup K 2 (gCons (gName i) (gCons (gName j) gNil))) (.tuple [d, e]) δ ((δ.set i (.dat d)).set j (.dat e)) [i, j] := fun x σ G H q hx hs Q hQ => by
  cases hx with
  | @tup a xs _ h t =>
    cases t with
    | cons t1 t =>
      cases t with
      | cons t2 t =>
        cases t
        exact ⟨_, _, rfl, (sqm hs h), rfl, _, _, rfl, _, _, rfl, rfl, hQ _ ((q.set (s := .dat d) t1 i).set (s := .dat e) t2 j) (wipe2 σ i j _ _)⟩
theorem Tg.wiped {g : TG} {d : PyData} {δ δ' : List SD} {vs : List Nat} (h : Tg K g d (wipeD δ vs) δ' vs) {x : V} {σ : L2.St} {G H : Hp} (q : SlD K G σ δ) (hx : DD K G x d) (hs : ∀ a o, G a = some o → H a = some o) {Q : L2.St → Hp → Prop}
    (ww : wipe (wipe σ vs) vs = wipe σ vs) (hQ : ∀ σ2, SlD K G σ2 δ' → wipe σ2 vs = wipe σ vs → Q σ2 H) : g x (wipe σ vs) H Q :=
  h x (wipe σ vs) G H (q.wipe vs) hx hs Q fun σ2 a b => hQ σ2 a (b.trans ww)
theorem wipe_get (σ : L2.St) : ∀ (vs : List Nat) (i : Nat), i < σ.length → i ∈ vs → (wipe σ vs)[i]? = some none
  | [], _, _, h => by cases h
  | v :: vs, i, hi, h => by
    unfold wipe
    by_cases e : v = i
    · subst e
      exact List.getElem?_set_self (by rw [wipe_length]; exact hi)
    · rw [List.getElem?_set_ne e]
      rcases List.mem_cons.mp h with z | z
      · exact absurd z.symm e
      · exact wipe_get σ vs i hi z
theorem wipe_idem (σ : L2.St) (vs : List Nat) : wipe (wipe σ vs) vs = wipe σ vs := by
  refine List.ext_getElem? fun i => ?_
  by_cases hi : i < σ.length
  · by_cases h : i ∈ vs
    · rw [wipe_get (wipe σ vs) vs i (by rw [wipe_length]; exact hi) h, wipe_get σ vs i hi h]
    · rw [wipe_out h]
  · rw [List.getElem?_eq_none (by rw [wipe_length, wipe_length]; omega), List.getElem?_eq_none (by rw [wipe_length]; omega)]
theorem Mv.loc {M : Addr → Prop} {G H G1 H1 : Hp} {D : Addr} {o : HO} (m : Mv M G H G1 H1) (n0 : H D = none) (n1 : G1 D = none) : Mv M G H G1 (upd H1 D o) where
  gr := m.gr
  sub := fun a u e => by
    by_cases ea : a = D
    · rw [ea, n1] at e
      cases e
    · rw [upd_ne ea]
      exact m.sub a u e
  old := m.old
  kp := fun a u e n => by
    rw [upd_ne (ne_of_none e n0)]
    exact m.kp a u e n
  dom := fun a u e => by
    rw [upd_ne (ne_of_none e n0)]
    exact m.dom a u e
theorem Wd.loc {r : Nat} {G H : Hp} {D : Addr} {o : HO} (w : Wd S r G H) (n1 : G D = none) (nm : ¬ S.M D) : Wd S r G (upd H D o) where
  sub := fun a u e => by
    by_cases ea : a = D
    · rw [ea, n1] at e
      cases e
    · rw [upd_ne ea]
      exact w.sub a u e
  no := w.no
  inv := S.fr w.inv (fun _ _ e => e) fun a u ma e => by
    rw [upd_ne (show a ≠ D from fun z => nm (z ▸ ma))]
    exact e
theorem Mv.know {M : Addr → Prop} {G H G1 H1 : Hp} {D : Addr} {o : HO} (m : Mv M G H G1 H1) (n0 : H D = none) (n1 : G1 D = none) (h : H1 D = some o) : Mv M G H (upd G1 D o) H1 where
  gr := fun a u e => by
    have e1 := m.gr a u e
    rw [upd_ne (ne_of_none e1 n1)]
    exact e1
  sub := fun a u e => by
    by_cases ea : a = D
    · rw [ea, upd_same] at e
      rw [ea, ← e]
      exact h
    · rw [upd_ne ea] at e
      exact m.sub a u e
  old := fun a u e => by
    rw [upd_ne (ne_of_none e n0)]
    exact m.old a u e
  kp := m.kp
  dom := m.dom
theorem Wd.know {r : Nat} {G H : Hp} {D : Addr} {o : HO} (w : Wd S r G H) (h : H D = some o) (nm : ¬ S.M D) (n1 : G D = none := by assumption) : Wd S r (upd G D o) H where
  sub := fun a u e => by
    by_cases ea : a = D
    · rw [ea, upd_same] at e
      rw [ea, ← e]
      exact h
    · rw [upd_ne ea] at e
      exact w.sub a u e
  no := fun a ma => by
    rw [upd_ne (show a ≠ D from fun z => nm (z ▸ ma))]
    exact w.no a ma
  inv := S.fr w.inv (fun a u e => by rw [upd_ne (ne_of_none e n1)]; exact e) fun _ _ _ e => e
theorem e_lc {wi : TI} {g : TG} {vs : List Nat} {its : List PyData} {δg : PyData → List SD} {Ψ : Nat → PyData → Prop} (hi : EvI K S wi δ k its) (hg : ∀ (j : Nat) (d : PyData), its[j]? = some d → Tg K g d (wipeD δ vs) (δg d) vs)
    (he : ∀ (j : Nat) (d : PyData), its[j]? = some d → Ev K S te (δg d) k' (fun s => ∃ e, s = .dat e ∧ Ψ j e)) (hn : its.length ≤ 100000) :
    Ev K S (tLc wi g tYes te vs) δ (k + k' * its.length) (fun s => ∃ ds, s = .dat (.list ds) ∧ ds.length = its.length ∧ ∀ (j : Nat) (d : PyData), ds[j]? = some d → Ψ j d) :=
  fun r σ G H q w Q hQ => hi (r + k' * its.length) σ G H q (w.eq (by omega)) _ fun J G2 H2 m w2 ⟨A, Y, wk, hA, hY⟩ D nD => by
    have nG : G2 D = none := by
      cases e : G2 D with
      | none => rfl
      | some o =>
        rw [w2.sub D o e] at nD
        cases nD
    have nM : ¬ S.M D := fun z => by
      obtain ⟨o, e⟩ := S.dom w2.inv z
      rw [e] at nD
      cases nD
    refine lc_it wk (fun i H3 => ∃ G3 acc ds, Mv S.M G2 H2 G3 H3 ∧ G3 D = none ∧ H3 D = some (.lst acc) ∧ Wd S (r + k' * (its.length - i)) G3 H3 ∧ DDs K G3 acc ds ∧ ds.length = i ∧ ∀ (j : Nat) (d : PyData), ds[j]? = some d → Ψ j d)
      ⟨G2, [], [], w2.refl.loc nD nG, nG, upd_same, w2.loc nG nM, .nil, rfl, fun j d e => by simp at e⟩ (fun i H3 _ ⟨G3, acc, ds, m3, _⟩ => hA G3 H3 m3) ?_ ?_
    · rintro i x H3 H4 hi ⟨G3, acc, ds, m3, n3, h3, w3, dd, el, hp⟩ y
      have hd : its[i]? = some its[i] := List.getElem?_eq_getElem hi
      obtain ⟨G4, m4, w4, dx⟩ := hY i its[i] _ G3 H3 x H4 hd m3 w3 y
      have n4 : G4 D = none := (m4.old D _ h3).trans n3
      have h4 : H4 D = some (.lst acc) := m4.kp D _ h3 nM
      refine Tg.wiped (hg i _ hd) (q.mono fun a o e => m4.gr a o (m3.gr a o (m.gr a o e))) dx w4.sub (wipe_idem σ vs) fun σ2 q2 e2 => ⟨e2, ?_⟩
      show te σ2 H4 _
      refine he i _ hd (r + k' * (its.length - (i + 1))) σ2 G4 H4 q2 (w4.eq ?_) _ fun v s G5 H5 m5 w5 hv hs => ?_
      · have e : its.length - i = (its.length - (i + 1)) + 1 := by omega
        rw [e, Nat.mul_add, Nat.mul_one, Nat.add_assoc]
      · obtain ⟨e, rfl, pe⟩ := hs
        have n5 : G5 D = none := (m5.old D _ h4).trans n4
        have h5 : H5 D = some (.lst acc) := m5.kp D _ h4 nM
        have da := dd.len
        refine ⟨acc, h5, Nat.lt_of_lt_of_le (show acc.length < 100001 by omega) (by decide), G5, acc ++ [v], ds ++ [e], (m3.trans (m4.trans m5)).loc nD n5, n5, upd_same, w5.loc n5 nM, (dd.mono fun a o z => m5.gr a o (m4.gr a o z)).snoc hv, by rw [List.length_append, el]; rfl, fun j d' hj => ?_⟩
        by_cases hj2 : j < ds.length
        · rw [List.getElem?_append_left hj2] at hj
          exact hp j d' hj
        · rw [List.getElem?_append_right (by omega)] at hj
          have : j - ds.length = 0 := by
            cases h : j - ds.length with
            | zero => rfl
            | succ n =>
              rw [h] at hj
              simp at hj
          rw [this] at hj
          cases hj
          have ej : j = i := by omega
          rw [ej]
          exact pe
    · rintro H3 ⟨G3, acc, ds, m3, n3, h3, w3, dd, el, hp⟩
      exact hQ (.ref D) (.dat (.list ds)) (upd G3 D (.lst acc)) H3 (m.trans (m3.know nD n3 h3)) ((w3.know h3 nM).eq (by rw [Nat.sub_self]; rfl)) (DD.lst upd_same (dd.mono fun a o e => by
        rw [upd_ne (ne_of_none e n3)]
        exact e)) ⟨ds, rfl, el, hp⟩
theorem d_lc {wi : TI} {g : TG} {vs : List Nat} {its : List PyData} {δg : PyData → List SD} {f : PyData → PyData} (hi : EvI K S wi δ 0 its) (hg : ∀ (j : Nat) (d : PyData), its[j]? = some d → Tg K g d (wipeD δ vs) (δg d) vs)
    (he : ∀ (j : Nat) (d : PyData), its[j]? = some d → Dt K S te (δg d) (.dat (f d))) (hn : its.length ≤ 100000) : Dt K S (tLc wi g tYes te vs) δ (.dat (.list (its.map f))) :=
  ((e_lc (k' := 0) (Ψ := fun j e => ∃ d, its[j]? = some d ∧ e = f d) hi hg (fun j d hd => (he j d hd).mono fun s hs => ⟨f d, hs, d, hd, rfl⟩) hn).mono fun s ⟨ds, e, el, hp⟩ => by
    rw [e]
    congr 2
    refine List.ext_getElem? fun j => ?_
    rw [List.getElem?_map]
    by_cases hj : j < ds.length
    · obtain ⟨d, h1, h2⟩ := hp j _ (List.getElem?_eq_getElem hj)
      rw [List.getElem?_eq_getElem hj, h1, h2]
      rfl
    · rw [List.getElem?_eq_none (by omega), List.getElem?_eq_none (by omega)]
      rfl).up (by omega)
end
section
variable {K : PySem.W.Frag} {S : MS} {δ : List SD}
theorem atI_dd {G : Hp} {ds : List PyData} {vs : List V} {i : Int} {d : PyData} (t : DDs K G vs ds) (h : atI ds i = some d) : ∃ v, atI vs i = some v ∧ DD K G v d := by
  unfold atI at h ⊢
  rw [t.len]
  cases e : ixN ds.length i with
  | none =>
    rw [e] at h
    cases h
  | some j =>
    rw [e] at h
    exact t.got h
theorem rv_ixL {ds : List PyData} {i : Int} {d : PyData} (h : atI ds i = some d) : RV K (rIxL K) (.dat (.list ds)) (.i i) (fun z => z = .dat d) := fun x y G H hx hy hs Q hQ => by
  cases hy
  cases hx with
  | @lst a xs _ hl t =>
    obtain ⟨v, hv, dv⟩ := atI_dd t h
    exact ⟨a, xs, i, v, rfl, rfl, .inl (.inl (hs _ _ hl)), hv, hQ v (.dat d) G H (Mv.refl hs) dv rfl⟩
theorem rv_ixT {ds : List PyData} {i : Int} {d : PyData} (h : atI ds i = some d) : RV K (rIxT K) (.dat (.tuple ds)) (.i i) (fun z => z = .dat d) := fun x y G H hx hy hs Q hQ => by
  cases hy
  cases hx with
  | @tup a xs _ hl t =>
    obtain ⟨v, hv, dv⟩ := atI_dd t h
    exact ⟨a, xs, i, v, rfl, rfl, (sqm hs hl), hv, hQ v (.dat d) G H (Mv.refl hs) dv rfl⟩
theorem rv_cat {ds es : List PyData} (h : ds.length + es.length ≤ 100000) : RV K rCat (.dat (.list ds)) (.dat (.list es)) (fun z => z = .dat (.list (ds ++ es))) := fun x y G H hx hy hs Q hQ => by
  cases hx with
  | @lst a xs _ hl t =>
    cases hy with
    | @lst b ys _ hl2 t2 =>
      refine ⟨a, b, xs, ys, rfl, rfl, hs _ _ hl, hs _ _ hl2, Nat.le_trans (by rw [t.len, t2.len]; exact h) (by decide), fun p np => hQ _ (.dat (.list (ds ++ es))) _ _ (Mv.new hs np) (DD.lst upd_same ((t.append t2).mono (Mv.new (M := fun _ => False) hs np).gr)) rfl⟩
theorem rv_eqD {d e : PyData} (h1 : SeqAt.shaped d = true) (h2 : SeqAt.shaped e = true) : RV K (rEqD K) (.dat d) (.dat e) (fun z => z = .b (PyData.eqv d e)) := fun x y G H hx hy hs Q hQ =>
  ⟨d, e, ((show DD K G x d from hx).mono hs).dp (PyData.hasDict_of_canLay _ (SeqAt.canLay_of_shaped h1)), ((show DD K G y e from hy).mono hs).dp (PyData.hasDict_of_canLay _ (SeqAt.canLay_of_shaped h2)), h1, h2, hQ _ (.b _) G H (Mv.refl hs) (DD.bl _) rfl⟩
theorem rv_neD {d e : PyData} (h1 : SeqAt.shaped d = true) (h2 : SeqAt.shaped e = true) : RV K (rNeD K) (.dat d) (.dat e) (fun z => z = .b (!PyData.eqv d e)) := fun x y G H hx hy hs Q hQ =>
  ⟨d, e, ((show DD K G x d from hx).mono hs).dp (PyData.hasDict_of_canLay _ (SeqAt.canLay_of_shaped h1)), ((show DD K G y e from hy).mono hs).dp (PyData.hasDict_of_canLay _ (SeqAt.canLay_of_shaped h2)), h1, h2, hQ _ (.b _) G H (Mv.refl hs) (DD.bl _) rfl⟩
theorem rv_eqI {i j : Int} : RV K rEq (.i i) (.i j) (fun z => z = .b (decide (i = j))) := fun x y G H hx hy hs Q hQ => by
  cases hx
  cases hy
  refine ⟨rfl, hQ _ (.b (decide (i = j))) G H (Mv.refl hs) ?_ rfl⟩
  rw [show decide (V.int i = V.int j) = decide (i = j) from by
    by_cases h : i = j
    · subst h
      simp
    · rw [decide_eq_false h, decide_eq_false fun z => h (V.int.inj z)]]
  exact DD.bl _
theorem rv_neI {i j : Int} : RV K rNe (.i i) (.i j) (fun z => z = .b (!decide (i = j))) := fun x y G H hx hy hs Q hQ => by
  cases hx
  cases hy
  refine ⟨rfl, hQ _ (.b (!decide (i = j))) G H (Mv.refl hs) ?_ rfl⟩
  rw [show decide (V.int i = V.int j) = decide (i = j) from by
    by_cases h : i = j
    · subst h
      simp
    · rw [decide_eq_false h, decide_eq_false fun z => h (V.int.inj z)]]
  exact DD.bl _
theorem rv_eqB {i j : Bool} : RV K rEq (.b i) (.b j) (fun z => z = .b (i == j)) := fun x y G H hx hy hs Q hQ => by
  cases hx
  cases hy
  refine ⟨rfl, hQ _ (.b (i == j)) G H (Mv.refl hs) ?_ rfl⟩
  rw [dec_bl]
  exact DD.bl _
theorem rv_neB {i j : Bool} : RV K rNe (.b i) (.b j) (fun z => z = .b (!(i == j))) := fun x y G H hx hy hs Q hQ => by
  cases hx
  cases hy
  refine ⟨rfl, hQ _ (.b (!(i == j))) G H (Mv.refl hs) ?_ rfl⟩
  rw [dec_bl]
  exact DD.bl _
theorem vds1 {G : Hp} {vs : List V} {s : SD} (h : VDs K G vs [s]) : ∃ v, vs = [v] ∧ VD K G v s := by
  cases h with
  | cons a b =>
    cases b
    exact ⟨_, rfl, a⟩
theorem vds2 {G : Hp} {vs : List V} {s t : SD} (h : VDs K G vs [s, t]) : ∃ v u, vs = [v, u] ∧ VD K G v s ∧ VD K G u t := by
  cases h with
  | cons a b =>
    cases b with
    | cons c d =>
      cases d
      exact ⟨_, _, rfl, a, c⟩
theorem rc_lenL {ds : List PyData} : RC K (fun xs H Q => ∃ p ys, xs = [.ref p] ∧ (SqL K H p ys ∨ SqT K H p ys) ∧ Q (.int ys.length) H) [.dat (.list ds)] (fun z => z = .i ds.length) := fun vs G H hv hs Q hQ => by
  obtain ⟨v, rfl, hx⟩ := vds1 hv
  cases hx with
  | @lst a xs _ hl t => exact ⟨a, xs, rfl, .inl (.inl (.inl (hs _ _ hl))), hQ _ (.i ds.length) G H (Mv.refl hs) (by rw [t.len]; exact DD.int _) rfl⟩
theorem rc_lenT {ds : List PyData} : RC K (fun xs H Q => ∃ p ys, xs = [.ref p] ∧ (SqL K H p ys ∨ SqT K H p ys) ∧ Q (.int ys.length) H) [.dat (.tuple ds)] (fun z => z = .i ds.length) := fun vs G H hv hs Q hQ => by
  obtain ⟨v, rfl, hx⟩ := vds1 hv
  cases hx with
  | @tup a xs _ hl t => exact ⟨a, xs, rfl, .inr ((sqm hs hl)), hQ _ (.i ds.length) G H (Mv.refl hs) (by rw [t.len]; exact DD.int _) rfl⟩
theorem rc_listL {ds : List PyData} : RC K (fun xs H Q => ∃ p ys, xs = [.ref p] ∧ (SqL K H p ys ∨ SqT K H p ys) ∧ ∀ l, H l = none → Q (.ref l) (upd H l (.lst ys))) [.dat (.list ds)] (fun z => z = .dat (.list ds)) := fun vs G H hv hs Q hQ => by
  obtain ⟨v, rfl, hx⟩ := vds1 hv
  cases hx with
  | @lst a xs _ hl t => exact ⟨a, xs, rfl, .inl (.inl (.inl (hs _ _ hl))), fun l hn => hQ _ (.dat (.list ds)) _ _ (Mv.new hs hn) (DD.lst upd_same (t.mono (Mv.new (M := fun _ => False) hs hn).gr)) rfl⟩
theorem rc_listT {ds : List PyData} : RC K (fun xs H Q => ∃ p ys, xs = [.ref p] ∧ (SqL K H p ys ∨ SqT K H p ys) ∧ ∀ l, H l = none → Q (.ref l) (upd H l (.lst ys))) [.dat (.tuple ds)] (fun z => z = .dat (.list ds)) := fun vs G H hv hs Q hQ => by
  obtain ⟨v, rfl, hx⟩ := vds1 hv
  cases hx with
  | @tup a xs _ hl t => exact ⟨a, xs, rfl, .inr ((sqm hs hl)), fun l hn => hQ _ (.dat (.list ds)) _ _ (Mv.new hs hn) (DD.lst upd_same (t.mono (Mv.new (M := fun _ => False) hs hn).gr)) rfl⟩
theorem rc_tupL {ds : List PyData} : RC K (fun xs H Q => ∃ p ys, xs = [.ref p] ∧ ((SqL K H p ys ∧ ∀ l, H l = none → Q (.ref l) (upd H l (.tup ys))) ∨ (SqT K H p ys ∧ Q (.ref p) H))) [.dat (.list ds)] (fun z => z = .dat (.tuple ds)) := fun vs G H hv hs Q hQ => by
  obtain ⟨v, rfl, hx⟩ := vds1 hv
  cases hx with
  | @lst a xs _ hl t => exact ⟨a, xs, rfl, .inl ⟨.inl (.inl (hs _ _ hl)), fun l hn => hQ _ (.dat (.tuple ds)) _ _ (Mv.new hs hn) (DD.tup (.inl (.inl upd_same)) (t.mono (Mv.new (M := fun _ => False) hs hn).gr)) rfl⟩⟩
theorem rc_tupT {ds : List PyData} : RC K (fun xs H Q => ∃ p ys, xs = [.ref p] ∧ ((SqL K H p ys ∧ ∀ l, H l = none → Q (.ref l) (upd H l (.tup ys))) ∨ (SqT K H p ys ∧ Q (.ref p) H))) [.dat (.tuple ds)] (fun z => z = .dat (.tuple ds)) := fun vs G H hv hs Q hQ => by
  obtain ⟨v, rfl, hx⟩ := vds1 hv
  cases hx with
  | @tup a xs _ hl t => exact ⟨a, xs, rfl, .inr ⟨(sqm hs hl), hQ _ (.dat (.tuple ds)) G H (Mv.refl hs) (.tup hl t) rfl⟩⟩
theorem rc_abs {i : Int} : RC K (fun xs H Q => ∃ i, xs = [.int i] ∧ Q (.int (if i < 0 then -i else i)) H) [.i i] (fun z => z = .i (if i < 0 then -i else i)) := fun vs G H hv hs Q hQ => by
  obtain ⟨v, rfl, hx⟩ := vds1 hv
  cases hx
  exact ⟨i, rfl, hQ _ (.i _) G H (Mv.refl hs) (DD.int _) rfl⟩
theorem rc_max {i j : Int} : RC K (fun xs H Q => ∃ i j, xs = [.int i, .int j] ∧ Q (.int (if j > i then j else i)) H) [.i i, .i j] (fun z => z = .i (if j > i then j else i)) := fun vs G H hv hs Q hQ => by
  obtain ⟨v, u, rfl, hx, hy⟩ := vds2 hv
  cases hx
  cases hy
  exact ⟨i, j, rfl, hQ _ (.i _) G H (Mv.refl hs) (DD.int _) rfl⟩
theorem rc_min {i j : Int} : RC K (fun xs H Q => ∃ i j, xs = [.int i, .int j] ∧ Q (.int (if j < i then j else i)) H) [.i i, .i j] (fun z => z = .i (if j < i then j else i)) := fun vs G H hv hs Q hQ => by
  obtain ⟨v, u, rfl, hx, hy⟩ := vds2 hv
  cases hx
  cases hy
  exact ⟨i, j, rfl, hQ _ (.i _) G H (Mv.refl hs) (DD.int _) rfl⟩
theorem rc_all {bs : List Bool} : RC K (rAll K) [.dat (.list (bs.map .bool))] (fun z => z = .b (bs.all id)) := fun vs G H hv hs Q hQ => by
  obtain ⟨v, rfl, hx⟩ := vds1 hv
  cases hx with
  | @lst a xs _ hl t =>
    have e := t.bls
    subst e
    exact ⟨a, bs, rfl, .inl (.inl (hs _ _ hl)), hQ _ (.b _) G H (Mv.refl hs) (DD.bl _) rfl⟩
def tyD : PyData → String
  | .none => "NoneType"
  | .bool _ => "bool"
  | .int _ => "int"
  | .str _ => "str"
  | .list _ => "list"
  | .tuple _ => "tuple"
  | .dict _ => "dict"
def isOb : PyData → Bool
  | .dict ((.none, _) :: _) => true
  | _ => false
theorem DD.tbl {K : PySem.W.Frag} {G : Hp} {a C dx : Addr} {fs : List (Str × V)} {ds : List PyData} (h : G a = some (.ins C dx fs)) (hC : TbC K C) (hn : fs.map (·.1) = tbN) (t : DDs K G (fs.map (·.2)) ds) : DD K G (.ref a) (.dict [(.none, .list ds)]) := .obj h (.tb hC hn) t
def tyN (n : String) : Bool := n == "int" || n == "bool" || n == "str" || n == "list" || n == "tuple"
theorem tyX {G H : Hp} {v : V} {d : PyData} (h : DD K G v d) (hs : ∀ a o, G a = some o → H a = some o) : ∃ t, DX.TyY K H v t ∧ ∀ n r, tyN n = true → kitB (tyD d) n = some r → PySem.W.kitOne K t (.type n) = some r := by
  cases h with
  | non => exact ⟨_, .inl (.base .non), fun _ _ _ h => kit_ty h⟩
  | bl c => exact ⟨_, .inl (.base (.bl c)), fun _ _ _ h => kit_ty h⟩
  | int i => exact ⟨_, .inl (.base (.int i)), fun _ _ _ h => kit_ty h⟩
  | str x => exact ⟨_, .inl (.base (.str x)), fun _ _ _ h => kit_ty h⟩
  | lst h t => exact ⟨_, .inl (.base (.lst (hs _ _ h))), fun _ _ _ h => kit_ty h⟩
  | tup h t =>
    refine ⟨.type "tuple", ?_, fun _ _ _ h => kit_ty h⟩
    rcases h with (h | ⟨o, h⟩) | ⟨o, _, _, h1, h2, _⟩
    · exact .inl (.base (.tup (hs _ _ h)))
    · exact .inl (.fTuple (hs _ _ h))
    · exact .inl (.kTuple h1 h2)
  | dct h c k e n t => exact ⟨_, .inr (.inl ⟨_, _, _, rfl, hs _ _ h, c, rfl⟩), fun _ _ _ h => kit_ty h⟩
  | obj h oc t =>
    cases oc with
    | tb c n =>
      refine ⟨_, .inl (.base (.ins (hs _ _ h) c.cl c.ha c.hn c.htk c.hm)), fun m r hm hk => ?_⟩
      simp only [tyN, Bool.or_eq_true, beq_iff_eq] at hm
      rcases hm with (((rfl | rfl) | rfl) | rfl) | rfl
      · rw [show r = false from (Option.some.inj (hk.symm.trans (by decide +kernel : kitB "dict" "int" = some false)))]
        exact c.kI
      · rw [show r = false from (Option.some.inj (hk.symm.trans (by decide +kernel : kitB "dict" "bool" = some false)))]
        exact c.kB
      · rw [show r = false from (Option.some.inj (hk.symm.trans (by decide +kernel : kitB "dict" "str" = some false)))]
        exact c.kS
      · rw [show r = false from (Option.some.inj (hk.symm.trans (by decide +kernel : kitB "dict" "list" = some false)))]
        exact c.kL
      · rw [show r = false from (Option.some.inj (hk.symm.trans (by decide +kernel : kitB "dict" "tuple" = some false)))]
        exact c.kT
    | cl c n =>
      refine ⟨_, .inl (.base (.ins (hs _ _ h) c.cl c.ha c.hn c.htk c.hm)), fun m r hm hk => ?_⟩
      simp only [tyN, Bool.or_eq_true, beq_iff_eq] at hm
      rcases hm with (((rfl | rfl) | rfl) | rfl) | rfl
      · rw [show r = false from (Option.some.inj (hk.symm.trans (by decide +kernel : kitB "dict" "int" = some false)))]
        exact c.kI
      · rw [show r = false from (Option.some.inj (hk.symm.trans (by decide +kernel : kitB "dict" "bool" = some false)))]
        exact c.kB
      · rw [show r = false from (Option.some.inj (hk.symm.trans (by decide +kernel : kitB "dict" "str" = some false)))]
        exact c.kS
      · rw [show r = false from (Option.some.inj (hk.symm.trans (by decide +kernel : kitB "dict" "list" = some false)))]
        exact c.kL
      · rw [show r = false from (Option.some.inj (hk.symm.trans (by decide +kernel : kitB "dict" "tuple" = some false)))]
        exact c.kT
    | dk => exact ⟨_, .inl (.base (.dK (hs _ _ h))), fun _ _ _ h => kit_ty h⟩
    | er c hd n =>
      refine ⟨_, .inr (.inr ⟨_, _, _, rfl, ⟨_, hs _ _ h, hs _ _ hd⟩, c.xd, rfl⟩), fun m r hm hk => ?_⟩
      simp only [tyN, Bool.or_eq_true, beq_iff_eq] at hm
      rcases hm with (((rfl | rfl) | rfl) | rfl) | rfl
      · rw [show r = false from (Option.some.inj (hk.symm.trans (by decide +kernel : kitB "dict" "int" = some false)))]
        exact c.kI
      · rw [show r = false from (Option.some.inj (hk.symm.trans (by decide +kernel : kitB "dict" "bool" = some false)))]
        exact c.kB
      · rw [show r = false from (Option.some.inj (hk.symm.trans (by decide +kernel : kitB "dict" "str" = some false)))]
        exact c.kS
      · rw [show r = false from (Option.some.inj (hk.symm.trans (by decide +kernel : kitB "dict" "list" = some false)))]
        exact c.kL
      · rw [show r = false from (Option.some.inj (hk.symm.trans (by decide +kernel : kitB "dict" "tuple" = some false)))]
        exact c.kT
end
end DL
namespace ZX
open PySem PySem.Spec PyProof.Rows L2
def SqX (K : PySem.W.Frag) (c : Bool) (H : Hp) (a : Addr) (xs : List V) : Prop := if c = true then SqT K H a xs else SqL K H a xs
def IterX (h : Heap) (c : Bool) (it l : Addr) (i : Nat) : Prop := if c = true then h.IsTupleIter it l i else h.IsListIter it l i
def HasX (h : Heap) (c : Bool) (l : Addr) (items : Array Value) : Prop := if c = true then h.IsTuple l items else h.IsList l items
def nmX (c : Bool) : String := if c = true then "tuple_iterator" else "list_iterator"
theorem drawsX {prog : Program} {w : World} {A : Around} (hh : A.handled = none) (c : Bool) (it l : Addr) (hne : l ≠ it) (items : Array Value) :
    Draws prog w A it [it, l] items.size (fun i v => items[i]? = some v) (fun i h => IterX h c it l i ∧ HasX h c l items) := by
  cases c
  · exact Draws.list hh it l hne items
  · exact Draws.tuple hh it l hne items
theorem IterX.obj {h : Heap} {c : Bool} {it l : Addr} {i : Nat} (x : IterX h c it l i) : ∃ o, h.get? it = some o ∧ ∀ v, o.data ≠ .cell v := by
  cases c
  · obtain ⟨o, e, _, d⟩ := (show h.IsListIter it l i from x)
    exact ⟨o, e, fun v q => by rw [d] at q; cases q⟩
  · obtain ⟨o, e, _, d⟩ := (show h.IsTupleIter it l i from x)
    exact ⟨o, e, fun v q => by rw [d] at q; cases q⟩
theorem IterX.keep {h h' : Heap} {c : Bool} {it l : Addr} {i : Nat} (x : IterX h c it l i) (k : ∀ o, h.get? it = some o → h'.get? it = some o) : IterX h' c it l i := by
  cases c
  · exact (show h.IsListIter it l i from x).at k
  · exact (show h.IsTupleIter it l i from x).at k
theorem hasX {X : Cx} {pins : List (Addr × Obj)} {σ : L2.St} {H : Hp} {s : Shared} {c : Bool} {a : Addr} {xs : List V} (I : Inv X pins σ H s) (h : SqX X.K c H a xs) : ∃ its : List Value, Vals xs its ∧ HasX s.heap c a its.toArray ∧ a < s.heap.objs.size := by
  cases c
  · obtain ⟨its, r, p, _⟩ := I.list (show SqL X.K H a xs from h)
    exact ⟨its, r, p.isList, p.lt⟩
  · obtain ⟨its, r, p, _⟩ := I.tuple (show SqT X.K H a xs from h)
    have p' := p
    obtain ⟨o, ho, _⟩ := p'
    exact ⟨its, r, p, Heap.lt_size ho⟩
theorem injX {X : Cx} {pins : List (Addr × Obj)} {σ : L2.St} {H : Hp} {s : Shared} {c : Bool} {a : Addr} {xs ys : List V} (I : Inv X pins σ H s) (h : SqX X.K c H a xs) (h' : SqX X.K c H a ys) : xs = ys := by
  cases c
  · exact I.list_inj h h'
  · exact I.tuple_inj h h'
theorem HasX.push {h : Heap} {c : Bool} {l : Addr} {its : Array Value} (x : HasX h c l its) (o : Obj) : HasX (h.push o) c l its := by
  cases c
  · exact Heap.IsList.push (show h.IsList l its from x) o
  · exact Heap.IsTuple.push (show h.IsTuple l its from x) o
theorem iterX {prog : Program} {w : World} {A : Around} {E : Value → Shared → Prop} {s : Shared} {c : Bool} {l : Addr} {items : Array Value} {Q : Value → Shared → Prop} (hl : HasX s.heap c l items)
    (hQ : Q (.ref s.heap.objs.size) { s with heap := s.heap.push { cls := .type (nmX c), data := .fields #[.ref l, .int 0 0] } }) : wpAny (model prog w) A (pyIter (.ref l)) Q E s := by
  cases c
  · exact wpAny_pyIter_list (show s.heap.IsList l items from hl) hQ
  · exact wpAny_pyIter_tuple (show s.heap.IsTuple l items from hl) hQ
abbrev hA (h : Heap) (c : Bool) (l : Addr) : Heap := h.push { cls := .type (nmX c), data := .fields #[.ref l, .int 0 0] }
abbrev hB (h : Heap) (c e : Bool) (l m : Addr) : Heap := hA (hA h c l) e m
abbrev hC (h : Heap) (c e : Bool) (l m : Addr) : Heap := (hB h c e l m).push { cls := .type "tuple", data := .seq #[.ref h.objs.size, .ref (hA h c l).objs.size] }
abbrev hD (h : Heap) (c e : Bool) (l m : Addr) : Heap := (hC h c e l m).push { cls := .type "tuple", data := .seq #[.none, .none] }
abbrev hE (h : Heap) (c e : Bool) (l m : Addr) : Heap := (hD h c e l m).push { cls := .type "zip", data := .fields #[.none, .bool false, .bool false, .ref (hB h c e l m).objs.size, .ref (hC h c e l m).objs.size] }
theorem meetsX (c e : Bool) (l m : Addr) (xs ys : Array Value) :
    Meets (Builtin.«zip.__new__» ⟨[.type "zip", .ref l, .ref m], []⟩) (fun _ R s => HasX s.heap c l xs ∧ HasX s.heap e m ys ∧ R (.ok (.ret (.ref (hD s.heap c e l m).objs.size))) { s with heap := hE s.heap c e l m }) :=
  .of_wp fun prog w A R s hy => by
    obtain ⟨hp, g, d, tk, os⟩ := s
    obtain ⟨h1, h2, hy⟩ := hy
    have sub := sub_zip
    have L1 : HasX (Shared.heap ⟨hp, g, d, tk, os⟩) c l xs := h1
    have L2 : HasX (Shared.heap ⟨hA hp c l, g, d, tk, os⟩) e m ys := HasX.push h2 _
    wp_walk using iterX L1, iterX L2
    exact ⟨_, rfl, hy⟩
theorem iter0 {h : Heap} {c : Bool} {it l : Addr} (e : h.get? it = some { cls := .type (nmX c), data := .fields #[.ref l, .int 0 0] }) : IterX h c it l 0 := by
  cases c
  · exact ⟨_, e, rfl, rfl⟩
  · exact ⟨_, e, rfl, rfl⟩
section
variable {prog : Program} {w : World} {A : Around} {E : Value → Shared → Prop} {s : Shared}
theorem callX {c e : Bool} {l m : Addr} {xs ys : Array Value} {Q : Value → Shared → Prop} (h1 : HasX s.heap c l xs) (h2 : HasX s.heap e m ys)
    (h : ∀ g, IsZip g (s.heap.objs.size + 4) (s.heap.objs.size + 2) (s.heap.objs.size + 3) .none → IsPair g (s.heap.objs.size + 2) (.ref s.heap.objs.size) (.ref (s.heap.objs.size + 1)) →
      IsPair g (s.heap.objs.size + 3) .none .none → IterX g c s.heap.objs.size l 0 → IterX g e (s.heap.objs.size + 1) m 0 → (∀ b o, s.heap.get? b = some o → g.get? b = some o) → Q (.ref (s.heap.objs.size + 4)) { s with heap := g }) :
    wpAny (model prog w) A (call (.type "zip") [.ref l, .ref m]) Q E s := by
  refine callType_new F.called_zip (by decide) (F.typeCall_zip_2 _ _) (F.newCall_zip_2 _ _) (fun o => F.args_object_init_3 o _ _) F.entry_zip_new (meetsX c e l m xs ys) ⟨h1, h2, ?_⟩
  have n1 : (hA s.heap c l).objs.size = s.heap.objs.size + 1 := Heap.size_push ..
  have n2 : (hB s.heap c e l m).objs.size = s.heap.objs.size + 2 := by rw [Heap.size_push, n1]
  have n3 : (hC s.heap c e l m).objs.size = s.heap.objs.size + 3 := by rw [Heap.size_push, n2]
  have n4 : (hD s.heap c e l m).objs.size = s.heap.objs.size + 4 := by rw [Heap.size_push, n3]
  have q5 : (hE s.heap c e l m).get? (hD s.heap c e l m).objs.size = some _ := Heap.get?_push_size _ rfl
  have q4 : (hE s.heap c e l m).get? (hC s.heap c e l m).objs.size = some _ := Heap.get?_push_of_some _ (Heap.get?_push_size _ rfl)
  have q3 : (hE s.heap c e l m).get? (hB s.heap c e l m).objs.size = some _ := Heap.get?_push_of_some _ (Heap.get?_push_of_some _ (Heap.get?_push_size _ rfl))
  have q2 : (hE s.heap c e l m).get? (hA s.heap c l).objs.size = some _ := Heap.get?_push_of_some _ (Heap.get?_push_of_some _ (Heap.get?_push_of_some _ (Heap.get?_push_size _ rfl)))
  have q1 : (hE s.heap c e l m).get? s.heap.objs.size = some _ := Heap.get?_push_of_some _ (Heap.get?_push_of_some _ (Heap.get?_push_of_some _ (Heap.get?_push_of_some _ (Heap.get?_push_size _ rfl))))
  show _ ∧ _
  rw [n2, n3, n4] at q5
  rw [n1, n2] at q3
  rw [n3] at q4
  rw [n1] at q2
  rw [n4]
  exact ⟨⟨_, q5, rfl⟩, h _ q5 q3 q4 (iter0 q1) (iter0 q2) fun b o x => Heap.get?_push_of_some _ (Heap.get?_push_of_some _ (Heap.get?_push_of_some _ (Heap.get?_push_of_some _ (Heap.get?_push_of_some _ x))))⟩
end
def ItX (K : PySem.W.Frag) (c e : Bool) (a b : Addr) : It :=
  ⟨fun i H => ∃ (xs ys : List V) (x y : V), SqX K c H a xs ∧ SqX K e H b ys ∧ xs[i]? = some x ∧ ys[i]? = some y,
    fun i H v H' => ∃ T x y, v = .ref T ∧ H T = none ∧ H' = upd H T (.tup [x, y]) ∧ (∀ xs, SqX K c H a xs → xs[i]? = some x) ∧ ∀ ys, SqX K e H b ys → ys[i]? = some y,
    fun i H => ∃ xs ys : List V, SqX K c H a xs ∧ SqX K e H b ys ∧ i ≤ xs.length ∧ i ≤ ys.length ∧ (xs.length = i ∨ ys.length = i)⟩
theorem sep {z TI TO i1 i2 a b : Addr} (D : ZipApart z TI TO i1 i2 a b) (h1 : b ≠ i1) (h2 : a ≠ i2) : ZipSep2 z TI TO i1 i2 [i1, a] [i2, b] where
  TIz := D.TIz
  TOz := D.TOz
  TITO := D.TITO
  TIi1 := D.TIi1
  mem1 := by simp
  zf1 := by simp [D.i1z.symm, D.l1z.symm]
  Tf1 := by simp [D.TOi1, D.l1TO.symm]
  TIi2 := D.TIi2
  mem2 := by simp
  zf2 := by simp [D.i2z.symm, D.l2z.symm]
  Tf2 := by simp [D.TOi2, D.l2TO.symm]
  sep1_2 := by simp [D.i12, h1.symm]
  sep2_1 := by simp [D.i12.symm, h2.symm]
theorem turnX {P : Program} {w : World} {K : PySem.W.Frag} {elts : List Expr} {kk : Nat} {tpos : Pos} {c e : Bool} {a b z TI TO i1 i2 : Addr} (D : ZipApart z TI TO i1 i2 a b) :
    Turn P w K (.Tuple elts kk tpos) (ItX K c e a b) [z, TI, TO, i1, i2] z (fun i h => IsZip h z TI TO .none ∧ IsPair h TI (.ref i1) (.ref i2) ∧ (∃ x y, IsPair h TO x y) ∧ IterX h c i1 a i ∧ IterX h e i2 b i) where
  mem := by simp
  obj := fun i h st k hk => by
    obtain ⟨hz, hTI, ⟨x, y, hTO⟩, h1, h2⟩ := st
    have cs : k = z ∨ k = TI ∨ k = TO ∨ k = i1 ∨ k = i2 := by simpa using hk
    rcases cs with rfl | rfl | rfl | rfl | rfl
    · exact ⟨_, hz, fun v q => nomatch q⟩
    · exact ⟨_, hTI, fun v q => nomatch q⟩
    · exact ⟨_, hTO, fun v q => nomatch q⟩
    · exact h1.obj
    · exact h2.obj
  keep := fun i h h' st k => by
    obtain ⟨hz, hTI, ⟨x, y, hTO⟩, h1, h2⟩ := st
    exact ⟨k z (by simp) _ hz, k TI (by simp) _ hTI, ⟨x, y, k TO (by simp) _ hTO⟩, h1.keep fun o q => k i1 (by simp) o q, h2.keep fun o q => k i2 (by simp) o q⟩
  item := by
    intro X hP hw hK hc i pins s σ H E I hf st hg
    subst hP hw hK
    obtain ⟨hz, hTI, ⟨x0, y0, hTO⟩, h1, h2⟩ := st
    obtain ⟨xs, ys, x, y, hqx, hqy, hx, hy⟩ := hg
    obtain ⟨its, rv, p, _⟩ := hasX I hqx
    obtain ⟨jts, rv2, p2, _⟩ := hasX I hqy
    have lx : i < xs.length := (List.getElem?_eq_some_iff.mp hx).1
    have ly : i < ys.length := (List.getElem?_eq_some_iff.mp hy).1
    have hh : X.A.in1.handled = none := I.ok.hd hc
    have hzl : z < s.heap.objs.size := Heap.lt_size hz
    refine wpAny_pyNext_zipD2_item (sep D D.l2i1 D.l1i2) (drawsX hh c i1 a D.l1i1 its.toArray) (drawsX hh e i2 b D.l2i2 jts.toArray) hz hTI hTO ⟨h1, p⟩ ⟨h2, p2⟩ (by rw [List.size_toArray, ← rv.length]; exact lx) (by rw [List.size_toArray, ← rv2.length]; exact ly)
      fun u u2 h' tk hu hu2 z' TO' n1 n2 hT hsz hk => ?_
    obtain ⟨v1, e1, r1⟩ := rv.get hx
    obtain ⟨v2, e2, r2⟩ := rv2.get hy
    have eu : v1 = u := Option.some.inj (e1.symm.trans (by simpa using hu))
    have eu2 : v2 = u2 := Option.some.inj (e2.symm.trans (by simpa using hu2))
    subst eu eu2
    refine ⟨_, rfl, wpAny_letOwnedTupleGo_zip (s := { s with heap := h', toks := tk }) z' fun h'' z'' sb => ?_⟩
    have hT2 : h''.get? s.heap.objs.size = some { cls := .type "tuple", data := .seq #[v1, v2] } := (sb.2 _ (Nat.ne_of_gt hzl)).trans hT
    have new : ObjOk X.prog X.w (upd H s.heap.objs.size (.tup [x, y])) h'' s.heap.objs.size (.tup [x, y]) := ⟨by show 2 ≤ sizeLine; decide, [v1, v2], .cons r1 (.cons r2 .nil), ⟨_, hT2, rfl, _, rfl⟩⟩
    have I1 : Inv X pins σ (upd H s.heap.objs.size (.tup [x, y])) { s with heap := h'', toks := tk } :=
      I.turnedNew (t' := tk) (ch := [z, TI, TO, i1, i2]) (fun k o hb q => (sb.2 k (fun n => hb (by simp [n]))).trans (hk k o (fun n => hb (by simp [n])) (fun n => hb (by simp [n])) (fun n => hb (by simp [n])) (fun n => hb (by simp [n])) q)) hf (Nat.le_refl _) new
    refine ⟨.ref s.heap.objs.size, _, I1, rfl, ⟨_, x, y, rfl, I.hok.fresh (Nat.le_refl _), rfl, fun l hl => by rw [injX I hl hqx]; exact hx, fun l hl => by rw [injX I hl hqy]; exact hy⟩, ⟨z'', ?_, ⟨v1, v2, ?_⟩, ?_, ?_⟩, fun k hkm => ?_⟩
    · exact (sb.2 _ D.TIz).trans (hk _ _ D.TIz D.TITO D.TIi1 D.TIi2 hTI)
    · exact (sb.2 _ D.TOz).trans TO'
    · exact n1.1.keep fun o q => (sb.2 _ D.i1z).trans q
    · exact n2.1.keep fun o q => (sb.2 _ D.i2z).trans q
    · have lt : k < s.heap.objs.size := by
        have cs : k = z ∨ k = TI ∨ k = TO ∨ k = i1 ∨ k = i2 := by simpa using hkm
        rcases cs with rfl | rfl | rfl | rfl | rfl
        · exact hzl
        · exact Heap.lt_size hTI
        · exact Heap.lt_size hTO
        · obtain ⟨_, q, _⟩ := h1.obj
          exact Heap.lt_size q
        · obtain ⟨_, q, _⟩ := h2.obj
          exact Heap.lt_size q
      rw [upd_ne (Nat.ne_of_lt lt)]
      exact (hf k hkm).1
  done := by
    intro X hP hw hK hc i pins s σ H E I hf st hg
    subst hP hw hK
    obtain ⟨hz, hTI, ⟨x0, y0, hTO⟩, h1, h2⟩ := st
    obtain ⟨xs, ys, hqx, hqy, l1, l2, hend⟩ := hg
    obtain ⟨its, rv, p, _⟩ := hasX I hqx
    obtain ⟨jts, rv2, p2, _⟩ := hasX I hqy
    have hh : X.A.in1.handled = none := I.ok.hd hc
    have m1 : its.toArray.size = xs.length := by rw [List.size_toArray, rv.length]
    have m2 : jts.toArray.size = ys.length := by rw [List.size_toArray, rv2.length]
    exact wpAny_pyNext_zipD2_end (sep D D.l2i1 D.l1i2) (drawsX hh c i1 a D.l1i1 its.toArray) (drawsX hh e i2 b D.l2i2 jts.toArray) hz hTI hTO ⟨h1, p⟩ ⟨h2, p2⟩ (by omega) (by omega) (by omega)
      fun h' tk hk => ⟨rfl, I.turnedL (t' := tk) (ch := [z, TI, TO, i1, i2]) (fun k o hb q => hk k o (fun n => hb (by simp [n])) (fun n => hb (by simp [n])) (fun n => hb (by simp [n])) (fun n => hb (by simp [n])) q) hf⟩
  self := fun A i s Q E st h => wpAny_pyIter_zip st.1 h
def iZipX (K : PySem.W.Frag) (ta : TA) : TI := fun σ H R => ta σ H fun vs H1 => ∃ c e a b xs ys, vs = [.ref a, .ref b] ∧ SqX K c H1 a xs ∧ SqX K e H1 b ys ∧ R (ItX K c e a b) H1
theorem pi_zipX {X : Cx} {e e2 : Expr} {ta : TA} {p pos tpos : Pos} {elts : List Expr} {kk : Nat} (hg : Gl X "zip") (hm : X.mg "zip" = none) (ha : PA X [e, e2] ta)
    (hs : starEach [e, e2] X.env = (false, eval e X.env) :: starEach [e2] X.env := by rfl) (hpl : (backTo pos (starEach [e2] X.env)).any (·.1) = false := by rfl) :
    PI X (.Tuple elts kk tpos) (.Call (.Name "zip" p) [e, e2] [] pos) (iZipX X.K ta) := by
  refine ⟨fun pins s σ H R I h => ?_⟩
  refine Call_ (ld_blt I hg hm PyProof.Rows.boot_zip (PyProof.Rows.callWith_type1 (thn (ha.run pos pins s σ H _ I h) fun us s1 ⟨vs, H1, I1, r1, q1⟩ => ?_) hs hpl))
  obtain ⟨c, d, a, b, xs, ys, rfl, hqx, hqy, q⟩ := q1
  obtain ⟨u1, u2, rfl, r1, r2⟩ := vals2 r1
  cases (show u1 = Value.ref a from r1)
  cases (show u2 = Value.ref b from r2)
  obtain ⟨its, rv, p1, la⟩ := hasX I1 hqx
  obtain ⟨jts, rv2, p2, lb⟩ := hasX I1 hqy
  refine callX p1 p2 fun h' hz hTI hTO h1 h2 hk => wpAny_pyIter_zip hz ?_
  have I2 : Inv X pins σ H1 { s1 with heap := h' } := I1.kept (t' := s1.toks) hk
  refine ⟨s1.heap.objs.size + 4, [s1.heap.objs.size + 4, s1.heap.objs.size + 2, s1.heap.objs.size + 3, s1.heap.objs.size, s1.heap.objs.size + 1], _, _, H1, rfl, I2, turnX (PySem.W.ktu_apart s1.heap.objs.size a b la lb), ⟨hz, hTI, ⟨_, _, hTO⟩, h1, h2⟩, fun k hkm => ?_, q⟩
  have cs : k = s1.heap.objs.size + 4 ∨ k = s1.heap.objs.size + 2 ∨ k = s1.heap.objs.size + 3 ∨ k = s1.heap.objs.size ∨ k = s1.heap.objs.size + 1 := by simpa using hkm
  have hle : s1.heap.objs.size ≤ k := by
    rcases cs with z | z | z | z | z
    · rw [z]; exact Nat.le_add_right _ _
    · rw [z]; exact Nat.le_add_right _ _
    · rw [z]; exact Nat.le_add_right _ _
    · rw [z]; exact Nat.le_refl _
    · rw [z]; exact Nat.le_add_right _ _
  exact I1.fpOk hle (I1.hok.fresh hle)
theorem walkX {K : PySem.W.Frag} {c e : Bool} {a b : Addr} {xs ys : List V} {n : Nat} (hn : n = min xs.length ys.length) : Walk (ItX K c e a b) n (fun H => SqX K c H a xs ∧ SqX K e H b ys) (YPair (fun i => xs[i]?) (fun i => ys[i]?)) := by
  subst hn
  refine ⟨fun i _ hi q => ?_, fun _ q => ⟨xs, ys, q.1, q.2, by omega, by omega, by omega⟩, fun i H v H' _ q y => ?_⟩
  · have h1 : i < xs.length := by omega
    have h2 : i < ys.length := by omega
    exact ⟨xs, ys, xs[i], ys[i], q.1, q.2, List.getElem?_eq_getElem h1, List.getElem?_eq_getElem h2⟩
  · obtain ⟨T, x, z, h1, h2, h3, h4, h5⟩ := y
    exact ⟨T, x, z, h1, h2, h3, h4 xs q.1, h5 ys q.2⟩
end ZX
namespace ZX
open PySem PySem.Spec PyProof.Rows L2
section
variable {prog : Program} {w : World} {A : Around} {E : Value → Shared → Prop} {s : Shared}
end
structure Ap3 (z TI TO i1 i2 i3 a b d : Addr) : Prop where
  TIz : TI ≠ z
  TOz : TO ≠ z
  TITO : TI ≠ TO
  i1z : i1 ≠ z
  i2z : i2 ≠ z
  i3z : i3 ≠ z
  TIi1 : TI ≠ i1
  TIi2 : TI ≠ i2
  TIi3 : TI ≠ i3
  TOi1 : TO ≠ i1
  TOi2 : TO ≠ i2
  TOi3 : TO ≠ i3
  i12 : i1 ≠ i2
  i13 : i1 ≠ i3
  i23 : i2 ≠ i3
  az : a ≠ z
  aT : a ≠ TO
  a1 : a ≠ i1
  a2 : a ≠ i2
  a3 : a ≠ i3
  bz : b ≠ z
  bT : b ≠ TO
  b1 : b ≠ i1
  b2 : b ≠ i2
  b3 : b ≠ i3
  dz : d ≠ z
  dT : d ≠ TO
  d1 : d ≠ i1
  d2 : d ≠ i2
  d3 : d ≠ i3
end ZX
namespace ZX
open PySem PySem.Spec PyProof.Rows L2
section
variable {prog : Program} {w : World} {A : Around} {E : Value → Shared → Prop} {s : Shared}
end
end ZX
namespace ZX
open PySem PySem.Spec PyProof.Rows L2
theorem mulOne (l : Addr) (its : Array Value) (n : Nat) (dd : Option Addr) (sl : Array (Option Value)) (u : Tok) :
    Meets (Builtin.«tuple.__mul__» ⟨[.ref l, .int 1 u], []⟩) (fun _ R s => s.heap.get? l = some { cls := .type "tuple", dict := dd, data := .seq its n, slots := sl } ∧ R (.ok (.ret (Value.ref l))) s) :=
  .of_wp fun prog w A R s hy => by
    obtain ⟨hp, g, d, tk, os⟩ := s
    obtain ⟨hl, hy⟩ := hy
    have f1 := AutoSeq1.idx_int
    have c1 : (its.isEmpty || (1 : Int) == 1) = true := by simp
    wp_walk using wpAny_loadPart' hl
    all_goals first
      | exact ⟨_, rfl, hy⟩
      | (refine wpAny_ite_true (decide_eq_true c1) ?_; wp_walk using wpAny_loadPart' hl; exact ⟨_, rfl, hy⟩)
def rRepX (K : PySem.W.Frag) : R2 := fun x y H Q => ∃ l k xs, x = .ref l ∧ y = .int k ∧ SqT K H l xs ∧ xs ≠ [] ∧ 1 ≤ k ∧ k ≤ 1000 ∧ xs.length ≤ 1000 ∧ (k = 1 → Q (.ref l) H) ∧ (2 ≤ k → ∀ p, H p = none → Q (.ref p) (upd H p (.tup (List.replicate k.toNat xs).flatten)))
theorem op_repX {X : Cx} : OpR X (binaryOp .Mult) (rRepX X.K) := by
  intro pins s σ H x y v u Q I rx ry h
  obtain ⟨l, k, xs, rfl, rfl, hT, hne, h1, h2, hz, q1, q2⟩ := h
  by_cases hk : k = 1
  · subst hk
    cases rx
    obtain ⟨t, rfl⟩ := ry
    obtain ⟨its, r, ⟨⟨cls, dd, data, sl⟩, ho, hc, n, hd⟩, hs⟩ := I.tuple hT
    simp only at hc hd
    subst hc hd
    refine wpAny_binaryOp_repeat_ref (T := "tuple") (U := "int") (by decide) ⟨_, ho, rfl⟩ (fun s' => typeIs_int s' 1 t) noFill_tuple_mul F.fills_int_mul F.slot_int_rmul repeat_tuple F.slot_int_index.lookup
      (call_meets F.slot_int_rmul (typeIs_int s 1 t) F.entry_int_rmul (F.args_int_rmul_2 _ _) (int_rmul_tuple 1 t l its.toArray n dd sl)
        ⟨ho, rfl, ⟨_, ho, rfl⟩, call_meets F.slot_tuple_mul ⟨_, ho, rfl⟩ F.entry_tuple_mul (F.args_tuple_mul_2 _ _) (mulOne l its.toArray n dd sl t) ⟨ho, ?_⟩⟩)
    exact ⟨.ref l, H, I, rfl, q1 rfl⟩
  · exact op_repT pins s σ H _ _ v u Q I rx ry ⟨l, k, xs, rfl, rfl, hT, hne, by omega, h2, hz, q2 (by omega)⟩
end ZX
namespace ZX
open PySem PySem.Spec PyProof.Rows L2
theorem mulZero (l : Addr) (its : Array Value) (n : Nat) (dd : Option Addr) (sl : Array (Option Value)) (u : Tok) (hi : its.isEmpty = false) :
    Meets (Builtin.«tuple.__mul__» ⟨[.ref l, .int 0 u], []⟩) (fun _ R s => s.heap.get? l = some { cls := .type "tuple", dict := dd, data := .seq its n, slots := sl } ∧ R (.ok (.ret (Value.ref s.heap.objs.size))) { s with heap := s.heap.push { cls := Value.type "tuple", data := Data.seq #[] }, toks := s.toks }) :=
  .of_wp fun prog w A R s hy => by
    obtain ⟨hp, g, d, tk, os⟩ := s
    obtain ⟨hl, hy⟩ := hy
    have f1 := AutoSeq1.idx_int
    have c1 : (its.isEmpty || (0 : Int) == 1) = false := by rw [hi]; rfl
    have c2 : (decide ((0 : Int) ≤ 0) || its.isEmpty) = true := by rw [hi]; rfl
    wp_walk using wpAny_loadPart' hl
    repeat (first
      | (refine wpAny_ite_false (decide_eq_false (by rw [c1]; exact Bool.false_ne_true)) ?_; wp_walk using wpAny_loadPart' hl)
      | (refine wpAny_ite_true (decide_eq_true c2) ?_; wp_walk using wpAny_loadPart' hl))
    exact ⟨_, rfl, hy⟩
def rRepZ (K : PySem.W.Frag) : R2 := fun x y H Q => ∃ l k xs, x = .ref l ∧ y = .int k ∧ SqT K H l xs ∧ xs ≠ [] ∧ 0 ≤ k ∧ k ≤ 1000 ∧ xs.length ≤ 1000 ∧ (k = 1 → Q (.ref l) H) ∧ (k ≠ 1 → ∀ p, H p = none → Q (.ref p) (upd H p (.tup (List.replicate k.toNat xs).flatten)))
theorem op_repZ {X : Cx} : OpR X (binaryOp .Mult) (rRepZ X.K) := by
  intro pins s σ H x y v u Q I rx ry h
  obtain ⟨l, k, xs, rfl, rfl, hT, hne, h1, h2, hz, q1, q2⟩ := h
  by_cases hk : k = 0
  · subst hk
    cases rx
    obtain ⟨t, rfl⟩ := ry
    obtain ⟨its, r, ⟨⟨cls, dd, data, sl⟩, ho, hc, n, hd⟩, hs⟩ := I.tuple hT
    simp only at hc hd
    subst hc hd
    have hle : its.length = xs.length := r.length.symm
    have hi : its.toArray.isEmpty = false := by
      cases its with
      | nil => exact absurd (List.eq_nil_of_length_eq_zero hle.symm) hne
      | cons a b => rfl
    refine wpAny_binaryOp_repeat_ref (T := "tuple") (U := "int") (by decide) ⟨_, ho, rfl⟩ (fun s' => typeIs_int s' 0 t) noFill_tuple_mul F.fills_int_mul F.slot_int_rmul repeat_tuple F.slot_int_index.lookup
      (call_meets F.slot_int_rmul (typeIs_int s 0 t) F.entry_int_rmul (F.args_int_rmul_2 _ _) (int_rmul_tuple 0 t l its.toArray n dd sl)
        ⟨ho, rfl, ⟨_, ho, rfl⟩, call_meets F.slot_tuple_mul ⟨_, ho, rfl⟩ F.entry_tuple_mul (F.args_tuple_mul_2 _ _) (mulZero l its.toArray n dd sl t hi) ⟨ho, ?_⟩⟩)
    refine ⟨.ref s.heap.objs.size, _, I.laid (t' := s.toks) (o := .tup (List.replicate (0 : Int).toNat xs).flatten) (fun b ob q => Heap.get?_push_of_some _ q) (Nat.le_refl _) ?_, rfl, q2 (by decide) _ (I.hok.fresh (Nat.le_refl _))⟩
    exact ⟨by rw [PyProof.Rows.lm_len_rep_flat, sizeLine_eq]; simp, _, r.rep (0 : Int).toNat, IsTup.new _ _⟩
  · exact op_repX pins s σ H _ _ v u Q I rx ry ⟨l, k, xs, rfl, rfl, hT, hne, by omega, h2, hz, q1, fun h => q2 (by omega)⟩
end ZX
namespace ZX
open PySem PySem.Spec PyProof.Rows L2
end ZX
namespace DL
open PySem PySem.Spec PyProof.Rows L2 ZX
section
variable {K : PySem.W.Frag} {S : MS} {te ta tb : TE} {δ : List SD} {k k' : Nat} {Φ Ψ : SD → Prop} {d : PyData}
theorem e_isi {n : String} {r : Bool} (h : Dt K S te δ (.dat d)) (hk : kitB (tyD d) n = some r) (hn : tyN n = true := by rfl) : Dt K S (tCB (DX.rIsiY K) (tCons te (tCons (tC (.ty n)) tNil))) δ (.b r) := fun q σ G H hq w Q hQ => h q σ G H hq w _ fun v s G2 H2 m w2 hv hs => by
  subst hs
  obtain ⟨t, h1, h2⟩ := tyX (show DD K G2 v d from hv) w2.sub
  exact ⟨v, .ty n, _, _, r, rfl, .ty n, h1, h2 n r hn hk, hQ _ (.b r) G2 H2 m w2 (DD.bl r) rfl⟩
theorem e_isiT {n1 n2 : String} {r1 r2 : Bool} (h : Dt K S te δ (.dat d)) (h1 : kitB (tyD d) n1 = some r1) (h2 : kitB (tyD d) n2 = some r2) (hn1 : tyN n1 = true := by rfl) (hn2 : tyN n2 = true := by rfl) :
    Dt K S (tCB (DX.rIsiTY K) (tCons te (tCons (tTup (tCons (tC (.ty n1)) (tCons (tC (.ty n2)) tNil))) tNil))) δ (.b (r1 || r2)) := fun q σ G H hq w Q hQ => h q σ G H hq w _ fun v s G2 H2 m w2 hv hs => by
  subst hs
  refine ⟨by show 2 ≤ sizeLine; decide, fun p np => ?_⟩
  have nG : G2 p = none := by
    cases e : G2 p with
    | none => rfl
    | some o =>
      rw [w2.sub p o e] at np
      cases np
  have nM : ¬ S.M p := fun z => by
    obtain ⟨o, e⟩ := S.dom w2.inv z
    rw [e] at np
    cases np
  have w3 := Wd.loc (o := .tup [V.ty n1, V.ty n2]) w2 nG nM
  obtain ⟨t, y1, y2⟩ := tyX (show DD K G2 v d from hv) w3.sub
  refine ⟨v, p, [.ty n1, .ty n2], _, [.type n1, .type n2], r1 || r2, rfl, upd_same, .cons (.ty n1) (.cons (.ty n2) .nil), y1, ?_, hQ _ (.b _) G2 _ (m.trans (w2.refl.loc np nG)) w3 (DD.bl _) rfl⟩
  refine kitAny_cons (y2 _ _ hn1 h1) (fun e => ?_) fun e => by rw [e]; rfl
  subst e
  refine kitAny_cons (r := false || r2) (y2 _ _ hn2 h2) (fun e => ?_) fun e => by rw [e]; rfl
  subst e
  rfl
def isI : PyData → Bool
  | .int _ => true
  | .bool _ => true
  | _ => false
def isB : PyData → Bool
  | .bool _ => true
  | _ => false
def isT : PyData → Bool
  | .tuple _ => true
  | _ => false
def isL : PyData → Bool
  | .list _ => true
  | _ => false
def isS : PyData → Bool
  | .str _ => true
  | _ => false
theorem kb_int : ∀ d : PyData, kitB (tyD d) "int" = some (isI d)
  | .none  => show kitB "NoneType" "int" = some false by decide +kernel
  | .bool _ => show kitB "bool" "int" = some true by decide +kernel
  | .int _ => show kitB "int" "int" = some true by decide +kernel
  | .str _ => show kitB "str" "int" = some false by decide +kernel
  | .list _ => show kitB "list" "int" = some false by decide +kernel
  | .tuple _ => show kitB "tuple" "int" = some false by decide +kernel
  | .dict _ => show kitB "dict" "int" = some false by decide +kernel
theorem kb_bool : ∀ d : PyData, kitB (tyD d) "bool" = some (isB d)
  | .none  => show kitB "NoneType" "bool" = some false by decide +kernel
  | .bool _ => show kitB "bool" "bool" = some true by decide +kernel
  | .int _ => show kitB "int" "bool" = some false by decide +kernel
  | .str _ => show kitB "str" "bool" = some false by decide +kernel
  | .list _ => show kitB "list" "bool" = some false by decide +kernel
  | .tuple _ => show kitB "tuple" "bool" = some false by decide +kernel
  | .dict _ => show kitB "dict" "bool" = some false by decide +kernel
theorem kb_tup : ∀ d : PyData, kitB (tyD d) "tuple" = some (isT d)
  | .none  => show kitB "NoneType" "tuple" = some false by decide +kernel
  | .bool _ => show kitB "bool" "tuple" = some false by decide +kernel
  | .int _ => show kitB "int" "tuple" = some false by decide +kernel
  | .str _ => show kitB "str" "tuple" = some false by decide +kernel
  | .list _ => show kitB "list" "tuple" = some false by decide +kernel
  | .tuple _ => show kitB "tuple" "tuple" = some true by decide +kernel
  | .dict _ => show kitB "dict" "tuple" = some false by decide +kernel
theorem kb_list : ∀ d : PyData, kitB (tyD d) "list" = some (isL d)
  | .none  => show kitB "NoneType" "list" = some false by decide +kernel
  | .bool _ => show kitB "bool" "list" = some false by decide +kernel
  | .int _ => show kitB "int" "list" = some false by decide +kernel
  | .str _ => show kitB "str" "list" = some false by decide +kernel
  | .list _ => show kitB "list" "list" = some true by decide +kernel
  | .tuple _ => show kitB "tuple" "list" = some false by decide +kernel
  | .dict _ => show kitB "dict" "list" = some false by decide +kernel
theorem kb_str : ∀ d : PyData, kitB (tyD d) "str" = some (isS d)
  | .none  => show kitB "NoneType" "str" = some false by decide +kernel
  | .bool _ => show kitB "bool" "str" = some false by decide +kernel
  | .int _ => show kitB "int" "str" = some false by decide +kernel
  | .str _ => show kitB "str" "str" = some true by decide +kernel
  | .list _ => show kitB "list" "str" = some false by decide +kernel
  | .tuple _ => show kitB "tuple" "str" = some false by decide +kernel
  | .dict _ => show kitB "dict" "str" = some false by decide +kernel
theorem rv_isN {s : SD} {dd : PyData} : RV K (fun x y H Q => y = .non ∧ Q (.bl (decide (x = .non))) H) (.dat dd) (.dat .none) (fun z => z = .b (match dd with | .none => true | _ => false)) := fun x y G H hx hy hs Q hQ => by
  cases hy
  refine ⟨rfl, hQ _ (.b _) G H (Mv.refl hs) ?_ rfl⟩
  cases hx <;> exact DD.bl _
def spP (K : PySem.W.Frag) (P : List PyData → PyData → Prop) : Sp := fun vs H Q _ => ∃ G ds d, (∀ a o, G a = some o → H a = some o) ∧ DDs K G vs ds ∧ P ds d ∧ ∀ v G2 H2, Mv (fun _ => False) G H G2 H2 → DD K G2 v d → Q v H2
theorem dats_map : ∀ ds : List PyData, dats (ds.map SD.dat) ds
  | [] => trivial
  | _ :: l => ⟨rfl, dats_map l⟩
theorem e_call {P : List PyData → PyData → Prop} {t : TA} {Φ : List SD → Prop} {E : XK} (ha : EvA K S t δ k Φ) (h : ∀ ss, Φ ss → ∃ ds d, dats ss ds ∧ P ds d ∧ Ψ (.dat d)) : Ev K S (tCall (spP K P) [] E t) δ k Ψ :=
  fun r σ G H q w Q hQ => ha r σ G H q w _ fun vs ss G2 H2 m w2 hv hs => by
    obtain ⟨ds, d, hd, hp, hy⟩ := h ss hs
    rw [List.append_nil]
    exact ⟨G2, ds, d, w2.sub, dats_dd hv hd, hp, fun v G3 H3 m3 dv => hQ v (.dat d) G3 H3 (m.trans (m3.weak fun _ f => f.elim)) (w2.pure m3) dv hy⟩
theorem d_call {P : List PyData → PyData → Prop} {t : TA} {ds : List PyData} {E : XK} (ha : EvA K S t δ 0 (fun l => l = ds.map SD.dat)) (h : P ds d) : Dt K S (tCall (spP K P) [] E t) δ (.dat d) :=
  e_call ha fun ss e => ⟨ds, d, e ▸ dats_map ds, h, rfl⟩
theorem VDs.len {G : Hp} : ∀ {vs : List V} {ss : List SD}, VDs K G vs ss → vs.length = ss.length
  | _, _, .nil => rfl
  | _, _, .cons _ b => congrArg Nat.succ (VDs.len b)
def zipD (ds es : List PyData) : List PyData := List.zipWith (fun a b => .tuple [a, b]) ds es
def IsSeq (d : PyData) (ds : List PyData) : Prop := d = .list ds ∨ d = .tuple ds
theorem sqX_of {G H : Hp} {v : V} {ds : List PyData} (h : DD K G v d) (hs : IsSeq d ds) : ∃ c a xs, v = .ref a ∧ DDs K G xs ds ∧ ∀ H : Hp, (∀ a o, G a = some o → H a = some o) → SqX K c H a xs := by
  rcases hs with rfl | rfl
  · cases h with
    | @lst a xs _ hl t => exact ⟨false, a, xs, rfl, t, fun H hs => .inl (.inl (hs _ _ hl))⟩
  · cases h with
    | @tup a xs _ hl t => exact ⟨true, a, xs, rfl, t, fun H hs => (sqm hs hl)⟩
theorem i_zip {t : TA} {d1 d2 : PyData} {ds es : List PyData} (ha : EvA K S t δ 0 (fun l => l = [.dat d1, .dat d2])) (h1 : IsSeq d1 ds) (h2 : IsSeq d2 es) : EvI K S (iZipX K t) δ 0 (zipD ds es) := fun r σ G H q w R hR => ha r σ G H q w _ fun vs ss G2 H2 m w2 hv hs => by
  subst hs
  obtain ⟨v, u, rfl, hx, hy⟩ := vds2 hv
  obtain ⟨c, a, xs, rfl, t1, q1⟩ := sqX_of (H := H2) (show DD K G2 v d1 from hx) h1
  obtain ⟨e, b, ys, rfl, t2, q2⟩ := sqX_of (H := H2) (show DD K G2 u d2 from hy) h2
  refine ⟨c, e, a, b, xs, ys, rfl, q1 H2 w2.sub, q2 H2 w2.sub, hR _ G2 H2 m w2 ⟨fun H => SqX K c H a xs ∧ SqX K e H b ys, _, walkX (by rw [t1.len, t2.len]; simp [zipD]), fun G3 H3 m3 => ⟨q1 H3 fun a o z => m3.sub _ _ (m3.gr _ _ z), q2 H3 fun a o z => m3.sub _ _ (m3.gr _ _ z)⟩, fun i d' n G3 H3 x H4 hd m3 w3 y => ?_⟩⟩
  obtain ⟨T, x1, x2, rfl, nT, rfl, e1, e2⟩ := y
  obtain ⟨f1, g1, k1⟩ := t1.get e1
  obtain ⟨f2, g2, k2⟩ := t2.get e2
  have ed : d' = .tuple [f1, f2] := by
    unfold zipD at hd
    rw [List.getElem?_zipWith, g1, g2] at hd
    exact (Option.some.inj hd).symm
  subst ed
  have mm : Mv S.M G3 H3 (upd G3 T (.tup [x1, x2])) (upd H3 T (.tup [x1, x2])) := Mv.new w3.sub nT
  exact ⟨_, mm, w3.new nT, DD.tup (.inl (.inl upd_same)) (.cons (k1.mono fun a o z => mm.gr _ _ (m3.gr _ _ z)) (.cons (k2.mono fun a o z => mm.gr _ _ (m3.gr _ _ z)) .nil))⟩
end
def startD (N : List Str) (ds : List PyData) : List SD := ds.map SD.dat ++ List.replicate (N.length - ds.length) SD.unk
theorem start_slots {K : PySem.W.Frag} {G : Hp} {N : List Str} {ds : List PyData} {vs : List V} (h : DDs K G vs ds) : SlD K G (L2.start N vs) (startD N ds) := by
  have e := h.len
  refine ⟨by simp [L2.start, startD, e], fun i s hs => ?_⟩
  by_cases hi : i < ds.length
  · unfold startD at hs
    rw [List.getElem?_append_left (by simpa using hi), List.getElem?_map] at hs
    obtain ⟨d, hd, rfl⟩ := Option.map_eq_some_iff.mp hs
    obtain ⟨v, hv, dv⟩ := h.got hd
    refine .inr ⟨v, ?_, dv⟩
    unfold L2.start
    rw [List.getElem?_append_left (by rw [List.length_map]; omega), List.getElem?_map, hv]
    rfl
  · unfold startD at hs
    rw [List.getElem?_append_right (by simpa using Nat.not_lt.mp hi)] at hs
    rw [List.getElem?_replicate] at hs
    split at hs
    · exact .inl (Option.some.inj hs).symm
    · cases hs
theorem wd_pu {G H : Hp} (h : ∀ a o, G a = some o → H a = some o) : Wd pu 0 G H := ⟨h, fun _ z => z.elim, trivial⟩
section
variable {P : Program} {w : World} {K : PySem.W.Frag} {mg : Str → Option Value} {base : Heap}
theorem fn_pure {x qual : Str} {st : Stmt} {f : Addr} {fd : FuncData} {N ps : List Str} {k : Nat} {R : List PyData → PyData → Prop} (F : Fun K x qual st f fd) (Sc : FnScope N ps (defScope st)) (len : ∀ ds d, R ds d → ds.length = ps.length)
    (body : ∀ (cdv : Value) (A : Around) (outer : List Env) (s : Shared) (H : Hp) (E : XK), Room k (A.deeper (envOfC qual (defScope st) s.heap.objs.size f cdv)) →
      ∃ t, PSs (cxOf CX0 P w K mg base N qual (defScope st) f cdv A outer s H E).nox (defBody st) t ∧ ∀ ds d, R ds d → EvS K pu t (startD N ds) 0 { rt := fun z => z = .dat d }) : FnOk P w K mg base CX0 (k + 1) f fd ps (spP K R) := by
  refine F.ok Sc (fun vs H Q E h => ?_) (fun cdv A outer s H vs Q E hr h => ?_)
  · obtain ⟨G, ds, d, _, dd, hp, _⟩ := h
    rw [dd.len]
    exact len ds d hp
  · obtain ⟨G, ds, d, hs, dd, hp, q⟩ := h
    obtain ⟨t, ht, hb⟩ := body cdv A outer s H E hr
    refine ⟨t, ht, hb ds d hp 0 _ G H (start_slots dd) (wd_pu hs) _ (fun _ _ _ _ _ _ _ z => z.elim) (fun v z G2 H2 m _ hv hz => ?_) (fun _ _ _ _ _ _ _ z => z.elim) (fun _ _ _ _ _ _ _ z => z.elim)⟩
    subst hz
    exact q v G2 H2 m hv
end
section
variable {X : Cx} {CX : CXT} {k n : Nat} {f : Addr} {fd : FuncData} {ps ks : List Str} {sp : Sp} {E : XK} {x : Str} {p pos : Pos} {kws : List Keyword} {tk : TA} {g : List Value → List Value → List Value} {gV : List V → List V → List V}
theorem pe_callN0 (F : FnOk X.prog X.w X.K X.mg X.base CX k f fd ps sp) (hr : Room k X.A) (hg : Gl X x) (hm : X.mg x = some (.ref f)) (hk : PySem.W.keepIn X.K (.ref f) = true) (hb : KBn X.K fd ps 0 ks g gV) (hx : Passes CX X E)
    (hkw : PK X kws tk) (hall : (backToKw pos (keywordEach kws X.env)).all (·.1.isSome) = true := by rfl) (hks : (backToKw pos (keywordEach kws X.env)).filterMap (·.1) = ks := by rfl)
    (hdb : (x == ("__debug__" : Str)) = false := by decide) (hpl : ((backTo pos (starEach [] X.env)).any (·.1) || (backToKw pos (keywordEach kws X.env)).any (·.1.isNone)) = false := by rfl) :
    PE X (.Call (.Name x p) [] kws pos) (tCallN 0 ks.length sp gV E tNil tk) := by
  refine ⟨fun pins s σ H Q I h => ?_⟩
  refine wpAny_Call_Name_kw (ld_glob I hg hm ?_ hdb)
  refine PySem.W.callWith_KW0 (h₀ := X.base) I.ok.mod.kin hk hall (thn (hkw.run pos pins s σ H _ I h) fun ws s2 ⟨zs, H2, I2, rz, l1, l2, q2⟩ => ⟨I2.kIn, ?_⟩) hpl
  rw [hks]
  exact run_fnN (us := []) F hr hb hx I2 .nil rz l1 l2 q2
end
section
variable {K : PySem.W.Frag}
theorem kb_of {x qual : Str} {st : Stmt} {f : Addr} {fd : FuncData} {ps ks : List Str} {n : Nat} {g : List Value → List Value → List Value} {gV : List V → List V → List V} (F : Fun K x qual st f fd)
    (h : ∀ (kV doc pm : Value) (an : Option Addr) (cdv ct : Value) (us ws : List Value), us.length = n → ws.length = ks.length → bindArgs (PySem.W.fnOf x qual (defArgs st) (defBody st) (defScope st) .none kV doc pm an cdv ct) ⟨us, ks.zip ws⟩ = pure (ps.zip (g us ws)))
    (hr : ∀ {vs : List V} {us : List Value} {zs : List V} {ws : List Value}, Vals vs us → Vals zs ws → Vals (gV vs zs) (g us ws)) : KBn K fd ps n ks g gV := by
  obtain ⟨oc, od, kV, doc, pm, an, cdv, ct, osl, rfl, lk, hcd⟩ := F.ex
  exact ⟨fun s us ws _ l1 l2 => .of_eq (h kV doc pm an cdv ct us ws l1 l2), hr⟩
end
end DL
namespace DL
open PySem PySem.Spec PyProof.Rows L2 ZX
structure Cl (P : Program) (w : World) (K : PySem.W.Frag) (mg : Str → Option Value) (base : Heap) (k : Nat) (x : Str) (st : Stmt) (ps : List Str) (sp : Sp) : Prop where
  ex : ∃ (f : Addr) (fd : FuncData), Fun K x x st f fd ∧ FnOk P w K mg base CX0 k f fd ps sp ∧ mg x = some (.ref f) ∧ Binds K fd ps []
section
variable {X : Cx} {k j n : Nat} {x : Str} {st : Stmt} {ps ks : List Str} {sp : Sp} {p pos : Pos} {e : Expr} {es : List Expr} {kws : List Keyword} {t tk : TA} {g : List Value → List Value → List Value} {gV : List V → List V → List V}
theorem pe_cl (c : Cl X.prog X.w X.K X.mg X.base k x st ps sp) (hr : Room j X.A) (hk : k ≤ j) (hg : Gl X x) (ha : PA X (e :: es) t)
    (hdb : (x == ("__debug__" : Str)) = false := by decide) (he : starEach (e :: es) X.env = (false, eval e X.env) :: starEach es X.env := by rfl) (hpl : (backTo pos (starEach es X.env)).any (·.1) = false := by rfl) :
    PE X (.Call (.Name x p) (e :: es) [] pos) (tCall sp [] E0 t) := by
  obtain ⟨f, fd, F, G, hm, b⟩ := c.ex
  exact pe_call G (hr.mono hk) hg hm F.kp b .nil pass0 ha hdb he hpl
theorem pe_clk0 (c : Cl X.prog X.w X.K X.mg X.base k x st ps sp) (hr : Room j X.A) (hk : k ≤ j) (hg : Gl X x) (hb : ∀ f fd, Fun X.K x x st f fd → KBn X.K fd ps 0 ks g gV) (hkw : PK X kws tk)
    (hall : (backToKw pos (keywordEach kws X.env)).all (·.1.isSome) = true := by rfl) (hks : (backToKw pos (keywordEach kws X.env)).filterMap (·.1) = ks := by rfl)
    (hdb : (x == ("__debug__" : Str)) = false := by decide) (hpl : ((backTo pos (starEach [] X.env)).any (·.1) || (backToKw pos (keywordEach kws X.env)).any (·.1.isNone)) = false := by rfl) :
    PE X (.Call (.Name x p) [] kws pos) (tCallN 0 ks.length sp gV E0 tNil tk) := by
  obtain ⟨f, fd, F, G, hm, b⟩ := c.ex
  exact pe_callN0 G (hr.mono hk) hg hm F.kp (hb f fd F) pass0 hkw hall hks hdb hpl
end
section
variable {K : PySem.W.Frag} {S : MS} {δ : List SD} {k : Nat}
theorem e_all {te : TE} {its : List PyData} {g : PyData → Bool} (h : Dt K S te δ (.dat (.list (its.map fun d => .bool (g d))))) : Dt K S (tCB (rAll K) (tCons te tNil)) δ (.b (its.all g)) := by
  have e : its.map (fun d => PyData.bool (g d)) = (its.map g).map PyData.bool := by rw [List.map_map]; rfl
  rw [e] at h
  refine (d_cb (da_cons h a_nil) rc_all).mono fun s hs => ?_
  rw [hs, List.all_map]
  rfl
end
def bx (b : Addr) : MS where
  M := fun a => a = b
  inv := fun r _ H => ∃ c0 c1 c2 : Int, H b = some (.lst [.int c0, .int c1, .int c2]) ∧ 0 ≤ c0 ∧ 0 ≤ c1 ∧ c1 < 2 ^ 33 ∧ 0 ≤ c2 ∧ c2 + r ≤ 2 ^ 40
  dom := fun ⟨_, _, _, h, _⟩ e => by
    subst e
    exact ⟨_, h⟩
  fr := fun ⟨c0, c1, c2, h, q⟩ _ k => ⟨c0, c1, c2, k _ _ rfl h, q⟩
  dn := fun ⟨c0, c1, c2, h, a, b, c, d, e⟩ => ⟨c0, c1, c2, h, a, b, c, d, by omega⟩
def spB (K : PySem.W.Frag) (P : List PyData → Nat → (PyData → Prop) → Prop) : Sp := fun vs H Q _ => ∃ b vs' G ds r c Φ, vs = .ref b :: vs' ∧ DDs K G vs' ds ∧ Wd (bx b) (r + c) G H ∧ P ds c Φ ∧ ∀ v d G2 H2, Mv (bx b).M G H G2 H2 → Wd (bx b) r G2 H2 → DD K G2 v d → Φ d → Q v H2
section
variable {K : PySem.W.Frag} {b : Addr} {δ : List SD} {k c : Nat} {Ψ : SD → Prop}
end
def startB (N : List Str) (b : Addr) (ds : List PyData) : List SD := .ref b :: (ds.map SD.dat ++ List.replicate (N.length - (ds.length + 1)) SD.unk)
theorem start_box {K : PySem.W.Frag} {G : Hp} {N : List Str} {b : Addr} {ds : List PyData} {vs : List V} (h : DDs K G vs ds) : SlD K G (L2.start N (.ref b :: vs)) (startB N b ds) := by
  have e := h.len
  refine ⟨by simp [L2.start, startB, e], fun i s hs => ?_⟩
  cases i with
  | zero =>
    cases hs
    exact .inr ⟨_, rfl, rfl⟩
  | succ i =>
    by_cases hi : i < ds.length
    · unfold startB at hs
      rw [List.getElem?_cons_succ, List.getElem?_append_left (by simpa using hi), List.getElem?_map] at hs
      obtain ⟨d, hd, rfl⟩ := Option.map_eq_some_iff.mp hs
      obtain ⟨v, hv, dv⟩ := h.got hd
      refine .inr ⟨v, ?_, dv⟩
      unfold L2.start
      rw [List.map_cons, List.cons_append, List.getElem?_cons_succ, List.getElem?_append_left (by rw [List.length_map]; omega), List.getElem?_map, hv]
      rfl
    · unfold startB at hs
      rw [List.getElem?_cons_succ, List.getElem?_append_right (by simpa using Nat.not_lt.mp hi), List.getElem?_replicate] at hs
      split at hs
      · exact .inl (Option.some.inj hs).symm
      · cases hs
section
variable {P : Program} {w : World} {K : PySem.W.Frag} {mg : Str → Option Value} {base : Heap}
end
def Rtake : List PyData → Nat → (PyData → Prop) → Prop := fun ds c Φ => ∃ m : Int, ds = [.int m] ∧ 1 ≤ m ∧ m < 2 ^ 42 ∧ c = 1 ∧ Φ = fun d => ∃ i, d = .int i ∧ 0 ≤ i ∧ i < m
section
variable {K : PySem.W.Frag} {S : MS} {b : Addr} {δ : List SD} {k : Nat} {te : TE} {E : XK} {i : Nat}
theorem s_end {t u : TS} {O : Out} (h : EvS K S t δ k { O with nx := fun _ => False }) : EvS K S (tSeq t u) δ k O := (s_seq (N := fun _ => False) (k' := 0) h fun _ z => z.elim).up (by omega)
theorem ints_of {p : Int → Prop} : ∀ {ds : List PyData}, (∀ d ∈ ds, ∃ i, d = .int i ∧ p i) → ∃ ns : List Int, ds = ns.map .int ∧ ∀ n ∈ ns, p n
  | [], _ => ⟨[], rfl, fun n h => by cases h⟩
  | d :: ds, h => by
    obtain ⟨i, rfl, hp⟩ := h d (List.mem_cons_self ..)
    obtain ⟨ns, rfl, hn⟩ := ints_of fun e he => h e (List.mem_cons_of_mem _ he)
    refine ⟨i :: ns, rfl, fun n hm => ?_⟩
    rcases List.mem_cons.mp hm with rfl | hm
    · exact hp
    · exact hn n hm
end
section
variable {X : Cx} {K : PySem.W.Frag}
end
theorem RV.mono {K : PySem.W.Frag} {r : R2} {s s' : SD} {Ψ Ψ' : SD → Prop} (h : RV K r s s' Ψ) (i : ∀ z, Ψ z → Ψ' z) : RV K r s s' Ψ' := fun x y G H hx hy hs Q hQ => h x y G H hx hy hs Q fun v z G2 H2 m hv hz => hQ v z G2 H2 m hv (i z hz)
theorem RC.mono {K : PySem.W.Frag} {r : List V → Hp → VK → Prop} {ss : List SD} {Ψ Ψ' : SD → Prop} (h : RC K r ss Ψ) (i : ∀ z, Ψ z → Ψ' z) : RC K r ss Ψ' := fun vs G H hv hs Q hQ => h vs G H hv hs Q fun v z G2 H2 m hv hz => hQ v z G2 H2 m hv (i z hz)
section
variable {K : PySem.W.Frag} {S : MS} {δ : List SD} {k k' : Nat} {tt tu : TT} {t u : TS} {O : Out}
end
section
variable {K : PySem.W.Frag} {S : MS} {δ : List SD} {k k' : Nat}
theorem SlD.ref {G : Hp} {σ : L2.St} {i : Nat} {b : Addr} (q : SlD K G σ δ) (h : δ[i]? = some (.ref b)) : σ[i]? = some (some (.ref b)) := by
  rcases q.2 i _ h with z | ⟨v, e, hv⟩
  · cases z
  · cases (show v = V.ref b from hv)
    exact e
theorem SlD.int {G : Hp} {σ : L2.St} {i : Nat} {n : Int} (q : SlD K G σ δ) (h : δ[i]? = some (.i n)) : σ[i]? = some (some (.int n)) := by
  rcases q.2 i _ h with z | ⟨v, e, hv⟩
  · cases z
  · cases hv
    exact e
theorem SlD.dat {G : Hp} {σ : L2.St} {i : Nat} {d : PyData} (q : SlD K G σ δ) (h : δ[i]? = some (.dat d)) : ∃ v, σ[i]? = some (some v) ∧ DD K G v d := by
  rcases q.2 i _ h with z | ⟨v, e, hv⟩
  · cases z
  · exact ⟨v, e, hv⟩
end
section
variable {K : PySem.W.Frag} {S : MS} {δ : List SD} {k : Nat} {te : TE}
end
section
variable {K : PySem.W.Frag} {S : MS} {δ : List SD} {k : Nat} {ta : TE} {tr : TA} {s : SD} {Φ : List SD → Prop}
end
section
variable {K : PySem.W.Frag} {S : MS} {δ : List SD} {k : Nat} {O : Out}
end
end DL
namespace DL
open PySem PySem.Spec PyProof.Rows L2 ZX RT
section
variable {K : PySem.W.Frag} {S : MS} {te ta tb : TE} {δ : List SD} {k k' : Nat} {O : Out} {d : PyData}
theorem rv_catA {ds es : List PyData} (h : ds.length + es.length ≤ 100000) : RV K (rCatA K) (.dat (.tuple ds)) (.dat (.tuple es)) (fun z => z = .dat (.tuple (ds ++ es))) := fun x y G H hx hy hs Q hQ => by
  cases hx with
  | @tup a xs _ hl t =>
    cases hy with
    | @tup b ys _ hl2 t2 =>
      have e1 := t.len
      have e2 := t2.len
      refine ⟨a, b, xs, ys, rfl, rfl, (sqm hs hl), (sqm hs hl2), Nat.le_trans (by rw [e1, e2]; exact h) (by decide), fun z => ?_, fun _ z => ?_, fun _ _ p np => hQ _ (.dat (.tuple (ds ++ es))) _ _ (Mv.new hs np) (DD.tup (.inl (.inl upd_same)) ((t.append t2).mono (Mv.new (M := fun _ => False) hs np).gr)) rfl⟩
      · subst z
        have : ds = [] := List.eq_nil_of_length_eq_zero e1.symm
        subst this
        exact hQ _ (.dat (.tuple es)) G H (Mv.refl hs) (.tup hl2 t2) rfl
      · subst z
        have : es = [] := List.eq_nil_of_length_eq_zero e2.symm
        subst this
        exact hQ _ (.dat (.tuple ds)) G H (Mv.refl hs) (.tup hl t) (by rw [List.append_nil])
theorem ki_catA {X : Cx} (h : X.K = K) : OpR X (binaryOp .Add) (rCatA K) := by
  subst h
  exact op_catA
theorem dds_rg {G : Hp} : ∀ (n : Nat) (f : Nat → Int), DDs K G ((List.range n).map fun i => V.int (f i)) ((List.range n).map fun i => PyData.int (f i)) := fun n f => by
  have e1 : ((List.range n).map fun i => V.int (f i)) = ((List.range n).map f).map V.int := by rw [List.map_map]; rfl
  have e2 : ((List.range n).map fun i => PyData.int (f i)) = ((List.range n).map f).map PyData.int := by rw [List.map_map]; rfl
  rw [e1, e2]
  exact DDs.ofInts _
end
def iSeqX (K : PySem.W.Frag) (tl : TE) : TI := fun σ H R => tl σ H fun x H1 => ∃ a xs, x = .ref a ∧ ((SqL K H1 a xs ∧ R (Itl K a) H1) ∨ (SqT K H1 a xs ∧ R (Itt K a) H1))
theorem pi_seqX {X : Cx} {tg l : Expr} {tl : TE} (hl : PE X l tl) : PI X tg l (iSeqX X.K tl) := by
  refine ⟨fun pins s σ H R I h => ?_⟩
  refine thn (hl.run pins s σ H _ I h) fun v s1 ⟨x, H1, I1, r1, q1⟩ => ?_
  obtain ⟨a, xs, e, q | q⟩ := q1
  · obtain ⟨hq, q⟩ := q
    subst e
    cases r1
    obtain ⟨its, rv, p, hz⟩ := I1.list hq
    refine wpAny_pyIter_list p.isList ?_
    refine ⟨s1.heap.objs.size, [s1.heap.objs.size], _, _, H1, rfl, I1.kept (t' := s1.toks) fun b o e => Heap.get?_push_of_some _ e, turn_list a _, ⟨_, Heap.get?_push_size _ rfl, rfl, rfl⟩, fun b hb => ?_, q⟩
    have e : b = s1.heap.objs.size := by simpa using hb
    subst e
    exact I1.fpOk (Nat.le_refl _) (I1.hok.fresh (Nat.le_refl _))
  · obtain ⟨hq, q⟩ := q
    subst e
    cases r1
    obtain ⟨its, rv, p, hz⟩ := I1.tuple hq
    refine wpAny_pyIter_tuple (show s1.heap.IsTuple a its.toArray from p) ?_
    refine ⟨s1.heap.objs.size, [s1.heap.objs.size], _, _, H1, rfl, I1.kept (t' := s1.toks) fun b o e => Heap.get?_push_of_some _ e, turn_tuple a _, ⟨_, Heap.get?_push_size _ rfl, rfl, rfl⟩, fun b hb => ?_, q⟩
    have e : b = s1.heap.objs.size := by simpa using hb
    subst e
    exact I1.fpOk (Nat.le_refl _) (I1.hok.fresh (Nat.le_refl _))
end DL
namespace RT
open PySem PySem.Spec PyProof.Rows L2 HT
section
variable {prog : Program} {w : World} {A : Around} {E : Value → Shared → Prop} {s : Shared}
end
end RT
namespace RT
open PySem PySem.Spec PyProof.Rows L2 HT
end RT
namespace DL
open PySem PySem.Spec PyProof.Rows L2 ZX RT
inductive OC where
  | lst (ds : List PyData)
  | tab (C : Addr) (ds : List PyData)
  | dct (a : Addr) (kvs : List (List Int × PyData))
def DcR (K : PySem.W.Frag) (G : Hp) (a : Addr) (x : HO) (kvs : List (List Int × PyData)) : Prop := ∃ o L, x = DX.xdO a o ∧ DX.DcO o L ∧ DX.Keys K G L ∧ kvs.map (·.1) = L.map (·.1) ∧ DDs K G (L.map (·.2.2)) (kvs.map (·.2))
def OC.ok (K : PySem.W.Frag) (G : Hp) (o : HO) : OC → Prop
  | .lst ds => ∃ xs, o = .lst xs ∧ DDs K G xs ds
  | .tab C ds => ∃ dx fs, o = .ins C dx fs ∧ TbC K C ∧ fs.map (·.1) = tbN ∧ DDs K G (fs.map (·.2)) ds
  | .dct a kvs => DcR K G a o kvs
theorem OC.ok.mono {K : PySem.W.Frag} {G G' : Hp} {o : HO} {c : OC} (h : c.ok K G o) (g : ∀ a u, G a = some u → G' a = some u) : c.ok K G' o := by
  cases c with
  | lst ds =>
    obtain ⟨xs, e, d⟩ := h
    exact ⟨xs, e, d.mono g⟩
  | tab C ds =>
    obtain ⟨dx, fs, e, c, n, d⟩ := h
    exact ⟨dx, fs, e, c, n, d.mono g⟩
  | dct a kvs =>
    obtain ⟨o', L, e, c, k, n, d⟩ := h
    exact ⟨o', L, e, c, keys_mono g k, n, d.mono g⟩
abbrev Own := List (Addr × OC)
def Own.has (W : Own) (l : Addr) : Prop := ∃ c, (l, c) ∈ W
def ows (K : PySem.W.Frag) (S : MS) (W : Own) : MS where
  M := fun a => S.M a ∨ W.has a
  inv := fun r G H => S.inv r G H ∧ (W.map (·.1)).Nodup ∧ ∀ l c, (l, c) ∈ W → ¬ S.M l ∧ ∃ o, H l = some o ∧ c.ok K G o
  dom := fun ⟨h, _, hw⟩ m => by
    rcases m with m | ⟨c, m⟩
    · exact S.dom h m
    · obtain ⟨_, o, e, _⟩ := hw _ c m
      exact ⟨o, e⟩
  fr := fun ⟨h, nd, hw⟩ g k => ⟨S.fr h g fun a o m e => k a o (.inl m) e, nd, fun l c m => by
    obtain ⟨n, o, e, q⟩ := hw l c m
    exact ⟨n, o, k l o (.inr ⟨c, m⟩) e, q.mono g⟩⟩
  dn := fun ⟨h, hw⟩ => ⟨S.dn h, hw⟩
structure Ms (M : Addr → Prop) (W W' : Own) (G H G1 H1 : Hp) : Prop where
  gr : ∀ a o, G a = some o → G1 a = some o
  sub : ∀ a o, G1 a = some o → H1 a = some o
  old : ∀ a o, H a = some o → ¬ W.has a → G1 a = G a
  kp : ∀ a o, H a = some o → ¬ M a → ¬ W.has a → H1 a = some o
  dom : ∀ a o, H a = some o → ∃ u, H1 a = some u
  nw : ∀ a, W'.has a → W.has a ∨ H a = none
section
variable {K : PySem.W.Frag} {S : MS} {M : Addr → Prop} {W W1 W2 : Own} {G H G1 H1 G2 H2 : Hp}
theorem Ms.trans (x : Ms M W W1 G H G1 H1) (y : Ms M W1 W2 G1 H1 G2 H2) : Ms M W W2 G H G2 H2 := by
  have key : ∀ a o, H a = some o → ¬ W.has a → ¬ W1.has a := fun a o e n z => by
    rcases x.nw a z with q | q
    · exact n q
    · rw [e] at q
      cases q
  refine ⟨fun a o e => y.gr a o (x.gr a o e), y.sub, fun a o e n => ?_, fun a o e n1 n2 => ?_, fun a o e => ?_, fun a h => ?_⟩
  · obtain ⟨u, eu⟩ := x.dom a o e
    rw [y.old a u eu (key a o e n), x.old a o e n]
  · exact y.kp a o (x.kp a o e n1 n2) n1 (key a o e n2)
  · obtain ⟨u, eu⟩ := x.dom a o e
    exact y.dom a u eu
  · rcases y.nw a h with q | q
    · exact x.nw a q
    · refine .inr ?_
      cases e : H a with
      | none => rfl
      | some o =>
        obtain ⟨u, eu⟩ := x.dom a o e
        rw [eu] at q
        cases q
theorem Ms.ofMv (m : Mv (ows K S W).M G H G1 H1) : Ms S.M W W G H G1 H1 := ⟨m.gr, m.sub, fun a o e _ => m.old a o e, fun a o e n1 n2 => m.kp a o e fun z => z.elim n1 n2, m.dom, fun _ h => .inl h⟩
theorem Ms.toMv (m : Ms M [] W1 G H G1 H1) : Mv M G H G1 H1 := ⟨m.gr, m.sub, fun a o e => m.old a o e (fun ⟨_, z⟩ => nomatch z), fun a o e n => m.kp a o e n (fun ⟨_, z⟩ => nomatch z), m.dom⟩
end
structure OutW where
  nx : List SD → Own → Prop := fun _ _ => False
  rt : SD → Prop := fun _ => False
  bk : List SD → Own → Prop := fun _ _ => False
  ct : List SD → Own → Prop := fun _ _ => False
  E : XK := fun _ _ _ => True
  ex : Value → Option (List (Str × PyData)) → Prop := fun _ _ => False
def FV (K : PySem.W.Frag) (G : Hp) (fs : List (Str × V)) (l : List (Str × PyData)) : Prop := fs.map (·.1) = l.map (·.1) ∧ DDs K G (fs.map (·.2)) (l.map (·.2))
def Thr (K : PySem.W.Frag) (S : MS) (W : Own) (G H : Hp) (r : Nat) (E : XK) (ex : Value → Option (List (Str × PyData)) → Prop) : Prop := ∀ cls fd W' G2 H2, Ms S.M W W' G H G2 H2 → Wd (ows K S W') r G2 H2 → ex cls fd →
  (fd = none → E cls none H2) ∧ ∀ l, fd = some l → ∀ dd fs, H2 dd = none → FV K G2 fs l → E cls (some dd) (upd H2 dd (.xd fs))
theorem Thr.at {K : PySem.W.Frag} {S : MS} {W W1 : Own} {G H G1 H1 : Hp} {r : Nat} {E : XK} {ex : Value → Option (List (Str × PyData)) → Prop} (x : Thr K S W G H r E ex) (m : Ms S.M W W1 G H G1 H1) : Thr K S W1 G1 H1 r E ex := fun cls fd W' G2 H2 m2 w e => x cls fd W' G2 H2 (m.trans m2) w e
theorem Thr.up {K : PySem.W.Frag} {S : MS} {W : Own} {G H : Hp} {r j : Nat} {E : XK} {ex : Value → Option (List (Str × PyData)) → Prop} (x : Thr K S W G H r E ex) : Thr K S W G H (r + j) E ex := fun cls fd W' G2 H2 m2 w e => x cls fd W' G2 H2 m2 (Wd.dn (j := j) w) e
theorem Thr.no {K : PySem.W.Frag} {S : MS} {W : Own} {G H : Hp} {r : Nat} {E : XK} : Thr K S W G H r E (fun _ _ => False) := fun _ _ _ _ _ _ _ z => z.elim
def EvW (K : PySem.W.Frag) (S : MS) (t : TS) (δ : List SD) (W : Own) (k : Nat) (O : OutW) : Prop :=
  ∀ r σ G H, SlD K G σ δ → Wd (ows K S W) (r + k) G H → ∀ D : Ends,
    (∀ σ' δ' W' G2 H2, Ms S.M W W' G H G2 H2 → Wd (ows K S W') r G2 H2 → SlD K G2 σ' δ' → O.nx δ' W' → D.nx σ' H2) →
    (∀ v s W' G2 H2, Ms S.M W W' G H G2 H2 → Wd (ows K S W') r G2 H2 → VD K G2 v s → O.rt s → D.rt v H2) →
    (∀ σ' δ' W' G2 H2, Ms S.M W W' G H G2 H2 → Wd (ows K S W') r G2 H2 → SlD K G2 σ' δ' → O.bk δ' W' → D.bk σ' H2) →
    (∀ σ' δ' W' G2 H2, Ms S.M W W' G H G2 H2 → Wd (ows K S W') r G2 H2 → SlD K G2 σ' δ' → O.ct δ' W' → D.ct σ' H2) → Thr K S W G H r O.E O.ex → t D σ H
section
variable {K : PySem.W.Frag} {S : MS} {te ta tb : TE} {tt : TT} {t u : TS} {δ : List SD} {W : Own} {k k' : Nat} {O : OutW} {Φ : SD → Prop} {s : SD}
theorem EvW.up (h : EvW K S t δ W k O) (hk : k ≤ k') : EvW K S t δ W k' O := fun r σ G H q w D => h r σ G H q (Wd.dn (j := k' - k) (w.eq (by omega))) D
end
end DL
namespace DL
open PySem PySem.Spec PyProof.Rows L2 ZX RT
theorem DDs.setAt {K : PySem.W.Frag} {G : Hp} {v : V} {d : PyData} (hv : DD K G v d) : ∀ {ds : List PyData} {vs : List V} {m : Nat}, DDs K G vs ds → DDs K G (vs.set m v) (ds.set m d)
  | _, _, _, .nil => .nil
  | _, _, 0, .cons _ t => .cons hv t
  | _, _, _ + 1, .cons h t => .cons h (DDs.setAt hv t)
section
variable {K : PySem.W.Frag} {S : MS} {te ta tb ti : TE} {tt : TT} {t u : TS} {δ : List SD} {W : Own} {k k' r : Nat} {O : OutW} {Φ : SD → Prop} {s : SD} {G H : Hp} {l : Addr} {ds : List PyData} {d : PyData} {j i : Nat}
theorem own_at {c : OC} (w : Wd (ows K S W) r G H) (hW : W[j]? = some (l, c)) : ¬ S.M l ∧ G l = none ∧ ∃ o, H l = some o ∧ c.ok K G o := by
  have hm := List.mem_of_getElem? hW
  obtain ⟨n, o, e, q⟩ := w.inv.2.2 l c hm
  exact ⟨n, w.no l (.inr ⟨c, hm⟩), o, e, q⟩
theorem own_lst (w : Wd (ows K S W) r G H) (hW : W[j]? = some (l, .lst ds)) : ¬ S.M l ∧ G l = none ∧ ∃ xs, H l = some (.lst xs) ∧ DDs K G xs ds := by
  obtain ⟨n, g, o, e, xs, rfl, q⟩ := own_at w hW
  exact ⟨n, g, xs, e, q⟩
theorem own_dct {kvs : List (List Int × PyData)} (w : Wd (ows K S W) r G H) (hW : W[j]? = some (l, .dct l kvs)) : ¬ S.M l ∧ G l = none ∧ ∃ o L, H l = some (DX.xdO l o) ∧ DX.DcO o L ∧ DX.Keys K G L ∧ kvs.map (·.1) = L.map (·.1) ∧ DDs K G (L.map (·.2.2)) (kvs.map (·.2)) := by
  obtain ⟨nM, nG, o, e, q⟩ := own_at w hW
  obtain ⟨o', L, rfl, a, b, c, d⟩ := q
  exact ⟨nM, nG, o', L, e, a, b, c, d⟩
theorem own_put {c c' : OC} {o' : HO} (w : Wd (ows K S W) r G H) (hW : W[j]? = some (l, c)) (ho : c'.ok K G o') : Wd (ows K S (W.set j (l, c'))) r G (upd H l o') := by
  obtain ⟨nM, nG, o, e, q⟩ := own_at w hW
  obtain ⟨h1, nd, h2⟩ := w.inv
  have hj : j < W.length := (List.getElem?_eq_some_iff.mp hW).1
  have em : (W.set j (l, c')).map (·.1) = W.map (·.1) := by
    rw [List.map_set]
    refine List.ext_getElem? fun i => ?_
    by_cases hi : j = i
    · subst hi
      rw [List.getElem?_set_self (by rw [List.length_map]; exact hj), List.getElem?_map, hW]
      rfl
    · rw [List.getElem?_set_ne hi]
  have other : ∀ l' c2, (l', c2) ∈ W.set j (l, c') → (l' = l ∧ c2 = c') ∨ (l' ≠ l ∧ (l', c2) ∈ W) := fun l' c2 hm => by
    obtain ⟨i, hi⟩ := List.mem_iff_getElem?.mp hm
    by_cases hij : j = i
    · subst hij
      rw [List.getElem?_set_self hj] at hi
      cases hi
      exact .inl ⟨rfl, rfl⟩
    · rw [List.getElem?_set_ne hij] at hi
      refine .inr ⟨fun z => ?_, List.mem_of_getElem? hi⟩
      subst z
      have hi' : i < W.length := (List.getElem?_eq_some_iff.mp hi).1
      have e1 : (W.map (·.1))[i]'(by rw [List.length_map]; exact hi') = l' := by
        rw [List.getElem_map, (List.getElem?_eq_some_iff.mp hi).2]
      have e2 : (W.map (·.1))[j]'(by rw [List.length_map]; exact hj) = l' := by
        rw [List.getElem_map, (List.getElem?_eq_some_iff.mp hW).2]
      exact hij ((List.getElem_inj nd).mp (e2.trans e1.symm))
  refine ⟨fun a o e => ?_, fun a m => ?_, S.fr h1 (fun _ _ e => e) fun a o m e => ?_, by rw [em]; exact nd, fun l' c2 hm => ?_⟩
  · rw [upd_ne (ne_of_none e nG)]
    exact w.sub a o e
  · rcases m with m | ⟨c2, m⟩
    · exact w.no a (.inl m)
    · rcases other a c2 m with ⟨rfl, _⟩ | ⟨_, m⟩
      · exact nG
      · exact w.no a (.inr ⟨c2, m⟩)
  · rw [upd_ne (show a ≠ l from fun z => nM (z ▸ m))]
    exact e
  · rcases other l' c2 hm with ⟨rfl, rfl⟩ | ⟨ne, m⟩
    · exact ⟨nM, o', upd_same, ho⟩
    · obtain ⟨n, o2, e2, q2⟩ := h2 l' c2 m
      exact ⟨n, o2, by rw [upd_ne ne]; exact e2, q2⟩
theorem own_putL {c : OC} {es : List PyData} {o' : HO} (w : Wd (ows K S W) r G H) (hW : W[j]? = some (l, c)) (ho : ∃ xs, o' = .lst xs ∧ DDs K G xs es) : Wd (ows K S (W.set j (l, .lst es))) r G (upd H l o') := own_put (c' := .lst es) w hW ho
theorem has_set {c c' : OC} (hW : W[j]? = some (l, c)) {a : Addr} (h : Own.has (W.set j (l, c')) a) : W.has a := by
  obtain ⟨c2, hm⟩ := h
  obtain ⟨i, hi⟩ := List.mem_iff_getElem?.mp hm
  have hj : j < W.length := (List.getElem?_eq_some_iff.mp hW).1
  by_cases hij : j = i
  · subst hij
    rw [List.getElem?_set_self hj] at hi
    cases hi
    exact ⟨c, List.mem_of_getElem? hW⟩
  · rw [List.getElem?_set_ne hij] at hi
    exact ⟨c2, List.mem_of_getElem? hi⟩
theorem ms_put {c c' : OC} {o' : HO} (w : Wd (ows K S W) r G H) (hW : W[j]? = some (l, c)) : Ms S.M W (W.set j (l, c')) G H G (upd H l o') := by
  obtain ⟨nM, nG, o, e, q⟩ := own_at w hW
  have hl : W.has l := ⟨c, List.mem_of_getElem? hW⟩
  refine ⟨fun _ _ e => e, fun a o e => ?_, fun _ _ _ _ => rfl, fun a o e _ n => ?_, fun a o e => ?_, fun a h => .inl (has_set hW h)⟩
  · rw [upd_ne (ne_of_none e nG)]
    exact w.sub a o e
  · rw [upd_ne (show a ≠ l from fun z => n (z ▸ hl))]
    exact e
  · by_cases ea : a = l
    · exact ⟨o', by rw [ea]; exact upd_same⟩
    · exact ⟨o, by rw [upd_ne ea]; exact e⟩
theorem own_new {o : HO} {c : OC} {p : Addr} (w : Wd (ows K S W) r G H) (np : H p = none) (ho : c.ok K G o) : Wd (ows K S ((p, c) :: W)) r G (upd H p o) ∧ Ms S.M W ((p, c) :: W) G H G (upd H p o) := by
  have nG : G p = none := by
    cases e : G p with
    | none => rfl
    | some o =>
      rw [w.sub p o e] at np
      cases np
  have nM : ¬ S.M p := fun z => by
    obtain ⟨o, e⟩ := S.dom w.inv.1 z
    rw [e] at np
    cases np
  have sub : ∀ a u, G a = some u → upd H p o a = some u := fun a u e => by
    rw [upd_ne (ne_of_none e nG)]
    exact w.sub a u e
  obtain ⟨h1, nd, h2⟩ := w.inv
  refine ⟨⟨sub, fun a m => ?_, S.fr h1 (fun _ _ e => e) fun a u _ e => ?_, ?_, fun l' c2 hm => ?_⟩, ⟨fun _ _ e => e, sub, fun _ _ _ _ => rfl, fun a u e _ _ => ?_, fun a u e => ⟨u, ?_⟩, fun a ⟨c2, hm⟩ => ?_⟩⟩
  · rcases m with m | ⟨c2, m⟩
    · exact w.no a (.inl m)
    · rcases List.mem_cons.mp m with e | m
      · cases e
        exact nG
      · exact w.no a (.inr ⟨c2, m⟩)
  · rw [upd_ne (ne_of_none e np)]
    exact e
  · rw [List.map_cons, List.nodup_cons]
    refine ⟨fun hm => ?_, nd⟩
    obtain ⟨⟨a, c2⟩, hm2, ea⟩ := List.mem_map.mp hm
    obtain ⟨_, o2, e2, _⟩ := h2 a c2 hm2
    rw [show a = p from ea, np] at e2
    cases e2
  · rcases List.mem_cons.mp hm with e | m
    · cases e
      exact ⟨nM, o, upd_same, ho⟩
    · obtain ⟨n, o2, e2, q2⟩ := h2 l' c2 m
      exact ⟨n, o2, by rw [upd_ne (ne_of_none e2 np)]; exact e2, q2⟩
  · rw [upd_ne (ne_of_none e np)]
    exact e
  · rw [upd_ne (ne_of_none e np)]
    exact e
  · rcases List.mem_cons.mp hm with e | m
    · cases e
      exact .inr np
    · exact .inl ⟨c2, m⟩
theorem set_same_get {σ : L2.St} {i : Nat} {v : Option V} (h : σ[i]? = some v) : σ.set i v = σ := by
  obtain ⟨hi, e⟩ := List.getElem?_eq_some_iff.mp h
  rw [← e]
  exact List.set_getElem_self hi
end
end DL
namespace DL
open PySem PySem.Spec PyProof.Rows L2 ZX RT
def EvK (K : PySem.W.Frag) (S : MS) (wi : TI) (δ : List SD) (k : Nat) (its : List PyData) : Prop :=
  ∀ r σ G H, SlD K G σ δ → Wd S (r + k) G H → ∀ R : It → Hp → Prop,
    (∀ J G2 H2, Mv S.M G H G2 H2 → Wd S r G2 H2 → (∃ (A : Hp → Prop) (Y : Nat → Hp → V → Hp → Prop), Walk J its.length A Y ∧ (∀ H3, (∀ a o, G2 a = some o → H3 a = some o) → A H3) ∧
      ∀ i d G3 H3 x H4, its[i]? = some d → (∀ a o, G2 a = some o → G3 a = some o) → (∀ a o, G3 a = some o → H3 a = some o) → Y i H3 x H4 → ∃ G4, Mv (fun _ => False) G3 H3 G4 H4 ∧ DD K G4 x d) → R J H2) → wi σ H R
section
variable {K : PySem.W.Frag} {S : MS} {te tl : TE} {δ : List SD} {k k' : Nat} {d : PyData} {ds es : List PyData}
theorem EvK.evI {wi : TI} {its : List PyData} (h : EvK K S wi δ k its) : EvI K S wi δ k its := fun r σ G H q w R hR => h r σ G H q w R fun J G2 H2 m w2 ⟨A, Y, wk, hA, hY⟩ => hR J G2 H2 m w2 ⟨A, Y, wk, fun G3 H3 m3 => hA H3 fun a o e => m3.sub a o (m3.gr a o e), fun i d q G3 H3 x H4 hd m3 w3 y => by
  obtain ⟨G4, m4, dx⟩ := hY i d G3 H3 x H4 hd m3.gr w3.sub y
  exact ⟨G4, m4.weak fun _ f => f.elim, w3.pure m4, dx⟩⟩
end
section
variable {K : PySem.W.Frag} {S : MS} {te ta tb ti : TE} {tt : TT} {t u : TS} {δ : List SD} {W : Own} {k k' : Nat} {O : OutW} {Φ : SD → Prop} {s : SD} {l : Addr} {ds : List PyData} {d : PyData} {j i : Nat}
end
end DL
namespace DL
open PySem PySem.Spec PyProof.Rows L2 ZX RT
section
variable {K : PySem.W.Frag} {S : MS} {te ta tb ti : TE} {tt : TT} {t u : TS} {δ : List SD} {W : Own} {k k' : Nat} {O : OutW} {Φ Ψ : SD → Prop} {s : SD} {l : Addr} {ds : List PyData} {d : PyData} {j i : Nat}
end
section
variable {K : PySem.W.Frag} {b : Addr} {δ : List SD} {W : Own} {k c : Nat} {Ψ : SD → Prop}
end
theorem ows_nil {K : PySem.W.Frag} {S : MS} {r : Nat} {G H : Hp} (w : Wd S r G H) : Wd (ows K S []) r G H := by
  refine ⟨w.sub, fun a m => ?_, w.inv, List.nodup_nil, fun l c m => (nomatch m)⟩
  rcases m with m | ⟨c, m⟩
  · exact w.no a m
  · exact (nomatch m)
section
variable {P : Program} {w : World} {K : PySem.W.Frag} {mg : Str → Option Value} {base : Heap}
end
end DL
namespace DL
open PySem PySem.Spec PyProof.Rows L2 ZX RT
section
variable {K : PySem.W.Frag} {S : MS} {te ta tb tl : TE} {tt : TT} {δ : List SD} {k k' : Nat} {d : PyData} {ds : List PyData}
theorem rv_ixS {z : Str} {i : Int} {c : Nat} (hz : z.length ≤ 1000000) (h : atI z.cps.toList i = some c) : RV K rIxS (.dat (.str z)) (.i i) (fun y => y = .dat (.str ⟨#[c]⟩)) := fun x y G H hx hy hs Q hQ => by
  cases hx
  cases hy
  exact ⟨z, i, c, rfl, rfl, Nat.le_trans hz (by decide), h, hQ _ (.dat (.str _)) G H (Mv.refl hs) (DD.str _) rfl⟩
end
section
variable {K : PySem.W.Frag} {S : MS} {te ti : TE} {t u : TS} {δ : List SD} {W : Own} {k k' : Nat} {O : OutW} {l : Addr} {ds : List PyData} {d : PyData} {j i : Nat}
end
section
variable {X : Cx} {K : PySem.W.Frag}
end
end DL
namespace DL
open PySem PySem.Spec PyProof.Rows L2 ZX RT
def spX (K : PySem.W.Frag) (dom : List PyData → Prop) (R : List PyData → PyData → Prop) (Xr : List PyData → Value → Option (List (Str × PyData)) → Prop) : Sp := fun vs H Q E => ∃ G ds, (∀ a o, G a = some o → H a = some o) ∧ DDs K G vs ds ∧ dom ds ∧
  (∀ d v G2 H2, R ds d → Mv (fun _ => False) G H G2 H2 → DD K G2 v d → Q v H2) ∧
  (∀ cls fd G2 H2, Xr ds cls fd → Mv (fun _ => False) G H G2 H2 → (fd = none → E cls none H2) ∧ ∀ l, fd = some l → ∀ dd fs, H2 dd = none → FV K G2 fs l → E cls (some dd) (upd H2 dd (.xd fs)))
section
variable {P : Program} {w : World} {K : PySem.W.Frag} {mg : Str → Option Value} {base : Heap}
theorem fn_calmX {f : Addr} {fd : FuncData} {k : Nat} {ps : List Str} {dom : List PyData → Prop} {R : List PyData → PyData → Prop} {Xr : List PyData → Value → Option (List (Str × PyData)) → Prop} (F : FnOk P w K mg base (L2.CX P w) k f fd ps (spX K dom R Xr)) :
    FnOk P w K mg base CX0 k f fd ps (spP K fun ds d => dom ds ∧ (∀ e, R ds e → e = d) ∧ ∀ cls fl, ¬ Xr ds cls fl) :=
  have h : ∀ vs H Q E, spP K (fun ds d => dom ds ∧ (∀ e, R ds e → e = d) ∧ ∀ cls fl, ¬ Xr ds cls fl) vs H Q E → spX K dom R Xr vs H Q (fun _ _ _ => False) := fun vs H Q E ⟨G, ds, d, sub, dd, ⟨h1, h2, h3⟩, q⟩ =>
    ⟨G, ds, sub, dd, h1, fun e v G2 H2 hr m dv => q v G2 H2 m (h2 e hr ▸ dv), fun cls fl G2 H2 hx _ => absurd hx (h3 cls fl)⟩
  ⟨fun vs H Q E q => F.len vs H Q _ (h vs H Q E q), fun A outer s H args us vs Q E hr he hb hv hs => codeAny_mono (F.run A outer s H args us vs Q (fun _ _ _ => False) hr he hb hv (h vs H Q E hs)) fun r s' hr => by
    cases r with
    | error e =>
      obtain ⟨_, _, _, _, _, _, _, _, _, _, _, _, z⟩ := hr
      exact z.elim
    | ok fl => cases fl <;> exact hr⟩
end
end DL
namespace SS0
open PySem PySem.Spec PyProof.Rows L2
section
variable {P : Program} {w : World} {A : Around} {E : Value → Shared → Prop} {s : Shared}
end
variable {X : Cx}
def gSl0 (to ti : TE) : TG := fun v σ H Q => to σ H fun o H1 => tPart ti σ H1 fun c H2 => ∃ l b xs ys k, c = some k ∧ o = .ref l ∧ v = .ref b ∧ l ≠ b ∧ H2 l = some (.lst xs) ∧ H2 b = some (.lst ys) ∧ 0 ≤ k ∧ k ≤ xs.length ∧ xs.length + ys.length ≤ sizeLine ∧ Q σ (upd H2 l (.lst (ys ++ xs.drop k.toNat)))
end SS0
namespace SS0
open PySem PySem.Spec PyProof.Rows L2
variable {X : Cx}
def tIfT (c a b : TT) : TT := fun σ H Q => c σ H fun q H1 => if q = true then a σ H1 Q else b σ H1 Q
theorem pt_ifE {c a b : Expr} {tc ta tb : TT} {pos : Pos} (hc : PT X c tc) (ha : PT X a ta) (hb : PT X b tb) : PT X (.IfExp c a b pos) (tIfT tc ta tb) := by
  refine ⟨fun pins s σ H Q I h => ?_⟩
  show wpAny (model X.prog X.w) X.A (isTrue c X.env (eval c X.env) >>= fun q => if q = true then isTrue a X.env (eval a X.env) else isTrue b X.env (eval b X.env)) _ X.xe s
  refine wpAny_bind (thn (hc.run pins s σ H _ I h) fun d s1 ⟨H1, I1, q1⟩ => ?_)
  cases d with
  | true => exact ha.run pins s1 σ H1 Q I1 q1
  | false => exact hb.run pins s1 σ H1 Q I1 q1
def gSeq (K : PySem.W.Frag) (n : Nat) (t : TGs) : TG := fun v σ H Q => gTup K n t v σ H Q ∨ gUnl K n t v σ H Q
theorem pg_seq {es : List Expr} {k : Nat} {t : TGs} {n : Nat} {pos : Pos} (hc : X.calm = true) (h : PGs X es t)
    (hn : (assignEach es X.env).length = n := by rfl) (hst : (assignEach es X.env).findIdx? (·.1) = none := by rfl) : PG X (.Tuple es k pos) (gSeq X.K n t) :=
  ⟨fun pins s σ H v u Q I r hw => hw.elim ((pg_tup hc h hn hst).run pins s σ H v u Q I r) ((pg_unl hc h hn hst).run pins s σ H v u Q I r)⟩
end SS0
namespace DP
open PySem PySem.Spec PyProof.Rows L2 ZX DL RT
inductive Dr (α : Type) where
  | ret (a : α)
  | bad
  | draw (m : Int) (k : Int → Dr α)
namespace Dr
variable {α β γ : Type}
def bind : Dr α → (α → Dr β) → Dr β
  | ret a, f => f a
  | bad, _ => bad
  | draw m k, f => draw m fun j => bind (k j) f
def ok : Dr α → Nat → (α → Nat → Prop) → Prop
  | ret a, n, Φ => Φ a n
  | bad, _, _ => False
  | draw m k, n, Φ => ∃ n', n = n' + 1 ∧ 1 ≤ m ∧ m < 2 ^ 42 ∧ ∀ j, 0 ≤ j → j < m → ok (k j) n' Φ
theorem ok_bind {f : α → Dr β} {Φ : β → Nat → Prop} : ∀ {t : Dr α} {n : Nat}, (t.bind f).ok n Φ ↔ t.ok n fun a n' => (f a).ok n' Φ
  | ret a, n => Iff.rfl
  | bad, n => Iff.rfl
  | draw m k, n => by
    constructor
    · rintro ⟨n', e, h1, h2, h⟩
      exact ⟨n', e, h1, h2, fun j a b => (ok_bind (t := k j)).mp (h j a b)⟩
    · rintro ⟨n', e, h1, h2, h⟩
      exact ⟨n', e, h1, h2, fun j a b => (ok_bind (t := k j)).mpr (h j a b)⟩
theorem ok_mono {Φ Ψ : α → Nat → Prop} (h : ∀ a n, Φ a n → Ψ a n) : ∀ {t : Dr α} {n : Nat}, t.ok n Φ → t.ok n Ψ
  | ret a, n, q => h a n q
  | bad, n, q => q
  | draw m k, n, ⟨n', e, h1, h2, q⟩ => ⟨n', e, h1, h2, fun j a b => ok_mono h (q j a b)⟩
theorem bind_assoc {f : α → Dr β} {g : β → Dr γ} : ∀ t : Dr α, (t.bind f).bind g = t.bind fun a => (f a).bind g
  | ret a => rfl
  | bad => rfl
  | draw m k => congrArg (draw m) (funext fun j => bind_assoc (k j))
def pur : Dr α → Dr α
  | ret a => ret a
  | _ => bad
theorem ok_pur {t : Dr α} {n : Nat} {Φ : α → Nat → Prop} (h : t.pur.ok n Φ) : ∃ a, t = ret a ∧ Φ a n := by
  cases t with
  | ret a => exact ⟨a, rfl, h⟩
  | bad => exact h.elim
  | draw m k => exact h.elim
def opt : Option α → Dr α
  | some a => ret a
  | none => bad
theorem ok_opt {o : Option α} {n : Nat} {Φ : α → Nat → Prop} (h : (opt o).ok n Φ) : ∃ a, o = some a ∧ Φ a n := by
  cases o with
  | none => exact h.elim
  | some a => exact ⟨a, rfl, h⟩
end Dr
inductive Sl where
  | unk
  | dat (d : PyData)
  | own (ds : List PyData)
  | bx (o : Option (List PyData))
  | tab (ds : List PyData)
  | dct (kvs : List (List Int × PyData))
abbrev Sl.box : Sl := .bx none
abbrev En := List Sl
structure Cn where
  v : V
  d : PyData
  ok : ∀ K G, DD K G v d
structure O2 where
  rel : PySem.W.Frag → R2
  f : PyData → PyData → Option PyData
  ok : ∀ K d e z, f d e = some z → RV K (rel K) (.dat d) (.dat e) (fun s => s = .dat z)
structure O1 where
  rel : PySem.W.Frag → V → Hp → VK → Prop
  f : PyData → Option PyData
  ok : ∀ K d z, f d = some z → ∀ x G H, DD K G x d → (∀ a o, G a = some o → H a = some o) → ∀ Q : VK, (∀ v G2 H2, Mv (fun _ => False) G H G2 H2 → DD K G2 v z → Q v H2) → rel K x H Q
structure OB where
  rel : PySem.W.Frag → List V → Hp → VK → Prop
  f : List PyData → Option PyData
  ok : ∀ K ds z, f ds = some z → RC K (rel K) (ds.map SD.dat) (fun s => s = .dat z)
structure OS where
  rel : PySem.W.Frag → V → Option Int → Option Int → Hp → VK → Prop
  f : PyData → Option Int → Option Int → Option PyData
  ok : ∀ K d l h z, f d l h = some z → ∀ x G H, DD K G x d → (∀ a o, G a = some o → H a = some o) → ∀ Q : VK, (∀ v G2 H2, Mv (fun _ => False) G H G2 H2 → DD K G2 v z → Q v H2) → rel K x l h H Q
structure OT where
  rel : PySem.W.Frag → V → Hp → (Bool → Hp → Prop) → Prop
  f : PyData → Option Bool
  ok : ∀ K d z, f d = some z → ∀ x G H, DD K G x d → (∀ a o, G a = some o → H a = some o) → ∀ Q : Bool → Hp → Prop, Q z H → rel K x H Q
def Wk (K : PySem.W.Frag) (G : Hp) (J : It) (its : List PyData) : Prop := ∃ (A : Hp → Prop) (Y : Nat → Hp → V → Hp → Prop), Walk J its.length A Y ∧ (∀ H3, (∀ a o, G a = some o → H3 a = some o) → A H3) ∧
      ∀ i d G3 H3 x H4, its[i]? = some d → (∀ a o, G a = some o → G3 a = some o) → (∀ a o, G3 a = some o → H3 a = some o) → Y i H3 x H4 → ∃ G4, Mv (fun _ => False) G3 H3 G4 H4 ∧ DD K G4 x d
structure OI where
  rel : PySem.W.Frag → V → Hp → (It → Hp → Prop) → Prop
  f : PyData → Option (List PyData)
  ok : ∀ K d its, f d = some its → ∀ x G H, DD K G x d → (∀ a o, G a = some o → H a = some o) → ∀ R : It → Hp → Prop, (∀ J, Wk K G J its → R J H) → rel K x H R
structure OIs where
  rel : PySem.W.Frag → List V → Hp → (It → Hp → Prop) → Prop
  f : List PyData → Option (List PyData)
  ok : ∀ K ds its, f ds = some its → ∀ xs G H, DDs K G xs ds → (∀ a o, G a = some o → H a = some o) → ∀ R : It → Hp → Prop, (∀ J, Wk K G J its → R J H) → rel K xs H R
structure OM where
  ty : String
  rel : PySem.W.Frag → V → List V → Hp → VK → Prop
  td : PyData → Bool
  f : PyData → List PyData → Option PyData
  ty_ok : ∀ K d, td d = true → ∀ x G H, DD K G x d → (∀ a o, G a = some o → H a = some o) → tyV K ty x H
  ok : ∀ K d ds z, f d ds = some z → ∀ x vs G H, DD K G x d → DDs K G vs ds → (∀ a o, G a = some o → H a = some o) → ∀ Q : VK, (∀ v G2 H2, Mv (fun _ => False) G H G2 H2 → DD K G2 v z → Q v H2) → rel K x vs H Q
structure OF2 where
  rel : PySem.W.Frag → R2
  f : PyData → PyData → Option (List PyData)
  ok : ∀ K d e zs, f d e = some zs → ∀ x y G H, DD K G x d → DD K G y e → (∀ a o, G a = some o → H a = some o) → ∀ Q : VK, (∀ xs l, DDs K G xs zs → H l = none → Q (.ref l) (upd H l (.lst xs))) → rel K x y H Q
structure OFB where
  rel : PySem.W.Frag → List V → Hp → VK → Prop
  f : List PyData → Option (List PyData)
  ok : ∀ K ds zs, f ds = some zs → ∀ vs G H, DDs K G vs ds → (∀ a o, G a = some o → H a = some o) → ∀ Q : VK, (∀ xs l, DDs K G xs zs → H l = none → Q (.ref l) (upd H l (.lst xs))) → rel K vs H Q
structure OF1 where
  rel : PySem.W.Frag → V → Hp → VK → Prop
  f : PyData → Option (List PyData)
  ok : ∀ K d zs, f d = some zs → ∀ x G H, DD K G x d → (∀ a o, G a = some o → H a = some o) → ∀ Q : VK, (∀ xs l, DDs K G xs zs → H l = none → Q (.ref l) (upd H l (.lst xs))) → rel K x H Q
structure OTy where
  n : String
  kb : PyData → Bool
  ok : ∀ d, kitB (tyD d) n = some (kb d)
  ty : tyN n = true
structure KP where
  n : Nat
  m : Nat
  gV : List V → List V → List V
  gD : List PyData → List PyData → List PyData
  ok : ∀ K G vs us ds es, DDs K G vs ds → DDs K G us es → ds.length = n → es.length = m → DDs K G (gV vs us) (gD ds es)
mutual
inductive Tt where
  | nm (i : Nat)
  | tp (ts : Ts)
inductive Ts where
  | nil
  | cons (t : Tt) (r : Ts)
end
abbrev Fs := List PyData → Dr PyData
inductive Ou where
  | val (d : PyData)
  | exc (c : Nat) (fs : List (Str × PyData))
abbrev FsX := List PyData → Dr Ou
def exN : Nat → Str
  | 0 => "BadGap"
  | 1 => "NoPlace"
  | 2 => "TooMany"
  | 3 => "BadRooms"
  | 4 => "Unlike"
  | 5 => "TooLong"
  | 6 => "NoBellows"
  | 7 => "NoGap"
  | 8 => "Sealed"
  | 9 => "Open"
  | 10 => "NoRow"
  | 11 => "Known"
  | 12 => "BadText"
  | 13 => "BadRow"
  | _ => "BadDeed"
def excD (c : Nat) (fs : List (Str × PyData)) : PyData := .dict [(.list [.str (exN c)], .list (fs.map (·.2)))]
inductive Xc where
  | one (c : Nat)
  | two (c c' : Nat)
  | base (n : String)
def isxV (r : Nat) (nm : Str) : Xc → Option PyData
  | .one c => some (.bool (decide (r = c)))
  | .two c c' => some (.bool (decide (r = c) || decide (r = c')))
  | .base n => if n = erB nm then some (.bool true) else none
def isxF (r : Nat) (c : Xc) : PyData → Option PyData
  | .dict [(.list [.str nm], .list _)] => if nm = exN r then isxV r nm c else none
  | _ => none
def xfdF (r : Nat) : PyData → Option PyData
  | .dict [(.list [.str nm], .list [x])] => if nm = exN r ∧ (erF nm).length = 1 then some x else none
  | _ => none
abbrev Ms' := List PyData → Fs
abbrev Is' := List PyData → Dr (List PyData)
mutual
inductive E : Type
  | var (i : Nat)
  | con (c : Cn)
  | op (o : O2) (a b : E)
  | un (o : O1) (a : E)
  | cb (o : OB) (as : A)
  | sl (o : OS) (e : E) (l h : P)
  | call (f : Fs) (as : A)
  | callN (f : Fs) (p : KP) (as ks : A)
  | callB (f : Fs) (i : Nat) (as : A)
  | lst (as : A)
  | tup (as : A)
  | ite (c : T) (a b : E)
  | and (a b : E)
  | or (a b : E)
  | chain (o o' : O2) (a b c : E)
  | lc (it : I) (g : Tt) (vs : List Nat) (c : T) (e : E)
  | lc2 (it : I) (g : Tt) (vs : List Nat) (it1 : I) (g1 : Tt) (vs1 : List Nat) (e : E)
  | gd (i : Nat) (e : E)
  | gin (i : Nat) (e : E)
  | bm (o : OM) (e : E) (as : A)
  | bm0 (o : OM) (e : E)
  | olen (i : Nat)
  | oix (i : Nat) (e : E)
  | osl (i : Nat) (l h : P)
  | otup (i : Nat)
  | olst (i : Nat)
  | brw (i : Nat) (e : E)
  | isi (o : OTy) (e : E)
  | fldB (i k : Nat)
  | mcall (k : Nat) (f : Ms') (i : Nat) (as : A)
  | tmp (k : Nat) (f : Ms') (ini : Is') (as bs : A)
  | meth (k : Nat) (f : Fs) (e : E) (as : A)
  | mk (f : Fs) (as : A)
  | mkD (f : Fs) (as : A)
  | isT (e : E)
  | isx (r : Nat) (c : Xc) (e : E)
  | xfd (r : Nat) (e : E)
  | methC (c k : Nat) (f : Fs) (e : E) (as : A)
  | callO (f : PyData → List PyData → PyData → Dr PyData) (a b c : E)
  | eqT (no : Bool) (f : Fs) (a b : E)
  | dIn (neg : Bool) (i : Nat) (e : E)
  | dIx (i : Nat) (e : E)
inductive A : Type
  | nil
  | cons (e : E) (r : A)
inductive P : Type
  | no
  | at (e : E)
inductive T : Type
  | tru (o : OT) (e : E)
  | not (t : T)
  | and (t u : T)
  | or (t u : T)
  | yes
  | otru (i : Nat)
  | ite (c a b : T)
inductive I : Type
  | one (o : OI) (e : E)
  | many (o : OIs) (as : A)
  | gl (i : Nat)
  | rrg (e : E)
end
inductive FE : Type
  | lst (as : A)
  | op (o : OF2) (a b : E)
  | cb (o : OFB) (as : A)
  | un (o : OF1) (e : E)
  | call (f : Fs) (as : A)
  | callN (f : Fs) (p : KP) (as ks : A)
  | ite (c : T) (a b : FE)
  | lc (it : I) (g : Tt) (vs : List Nat) (c : T) (e : E)
inductive B : Type
  | nil
  | consE (e : E) (r : B)
  | consF (f : FE) (r : B)
  | consD0 (r : B)
  | consD1 (k v : E) (r : B)
def qY : T := .yes
inductive S : Type
  | next
  | seq (a b : S)
  | asg (g : Tt) (e : E)
  | asg2 (i j : Nat) (e : E)
  | par (i j : Nat) (as : A)
  | par3 (i j k : Nat) (as : A)
  | aug (i : Nat) (o : O2) (e : E)
  | newO (i : Nat) (as : A)
  | newL (i : Nat) (e : E)
  | app (i : Nat) (e : E)
  | setix (i : Nat) (ix e : E)
  | augix (i : Nat) (ix : E) (o : O2) (e : E)
  | rev (i : Nat)
  | setsl (i : Nat) (ix e : E)
  | ext (i : Nat) (e : E)
  | clr (i : Nat)
  | pop (i : Nat)
  | popA (g : Tt) (i : Nat) (e : E)
  | ali (k : Nat) (t : T) (i j f : Nat)
  | ins (i : Nat) (ix e : E)
  | newE (i : Nat) (e : FE)
  | par2B (i j : Nat) (b : B)
  | par2T (i j : Nat) (b : B)
  | par3B (i j k : Nat) (b : B)
  | retO (i : Nat)
  | retF (e : FE)
  | frz (i : Nat) (s : S)
  | newT (i : Nat) (f : Fs) (as : A)
  | newTD (i : Nat) (f : Fs) (as : A)
  | newM (i k : Nat) (f : Fs) (e : E) (as : A)
  | setF (i k : Nat) (e : E)
  | frzT (i : Nat) (s : S)
  | newD0 (i : Nat)
  | putD (i : Nat) (k e : E)
  | putD2 (i j : Nat) (k1 k2 v1 v2 : E)
  | parN (is : List Nat) (b : B)
  | frzX (i : Nat) (s : S)
  | ret (e : E)
  | cond (c : T) (a b : S)
  | loop (it : I) (g : Tt) (b : S)
  | whil (m : Nat) (c : T) (b : S)
  | brk
  | cnt
  | drop (e : E)
  | raise (c : Nat) (f : Str) (as : A)
  | tryC (k : Option Nat) (f : FsX) (as : A) (r : Nat) (cs : List Nat) (i h : Nat)
  | stuck
mutual
def Tt.vs : Tt → List Nat
  | .nm i => [i]
  | .tp ts => ts.vs
def Ts.vs : Ts → List Nat
  | .nil => []
  | .cons t r => t.vs ++ r.vs
end
mutual
def Tt.put : Tt → En → PyData → Option En
  | .nm i, env, d => some (env.set i (.dat d))
  | .tp ts, env, .tuple ds => ts.puts env ds
  | .tp ts, env, .list ds => ts.puts env ds
  | .tp _, _, _ => none
def Ts.puts : Ts → En → List PyData → Option En
  | .nil, env, [] => some env
  | .cons t r, env, d :: ds => (t.put env d).bind fun env' => r.puts env' ds
  | _, _, _ => none
end
def wipeX (env : En) : List Nat → En
  | [] => env
  | v :: vs => (wipeX env vs).set v .unk
def slot (env : En) (i : Nat) : Dr PyData :=
  match env[i]? with
  | some (.dat d) => .ret d
  | _ => .bad
def aliOk (env : En) (k s f : Nat) : Bool := decide (k < env.length) && decide (k ≠ s) && decide (k ≠ f) && decide (s ≠ f)
def ownAt (env : En) (i : Nat) : Dr (List PyData) :=
  match env[i]? with
  | some (.own ds) => .ret ds
  | _ => .bad
def tabAt (env : En) (i : Nat) : Dr (List PyData) :=
  match env[i]? with
  | some (.tab ds) => .ret ds
  | _ => .bad
def dctAt (env : En) (i : Nat) : Dr (List (List Int × PyData)) :=
  match env[i]? with
  | some (.dct kvs) => .ret kvs
  | _ => .bad
def kInts : List PyData → Option (List Int)
  | [] => some []
  | .int i :: r => (kInts r).map (i :: ·)
  | _ :: _ => none
def keyD : PyData → Dr (List Int)
  | .tuple ds => .opt (kInts ds)
  | _ => .bad
def obT (ds : List PyData) : PyData := .dict [(.none, .list ds)]
def asTab : PyData → Dr (List PyData)
  | .dict [(.none, .list ds)] => .ret ds
  | _ => .bad
def boxAt (env : En) (i : Nat) : Dr Unit :=
  match env[i]? with
  | some (.bx none) => .ret ()
  | _ => .bad
def objAt (env : En) (i : Nat) : Dr (List PyData) :=
  match env[i]? with
  | some (.bx (some l)) => .ret l
  | _ => .bad
def compr (step : PyData → Dr (Option PyData)) : List PyData → Dr (List PyData)
  | [] => .ret []
  | d :: r => (step d).bind fun o => (compr step r).bind fun l => .ret (o.toList ++ l)
def compr2 (step : PyData → Dr (List PyData)) : List PyData → Dr (List PyData)
  | [] => .ret []
  | d :: r => (step d).bind fun a => (compr2 step r).bind fun l => .ret (a ++ l)
def gds : Nat → Str → Option PyData
  | 0, z => if z = "R+" then some (.int 0) else if z = "R-" then some (.int 1) else if z = "L+" then some (.int 2) else if z = "L-" then some (.int 3) else none
  | 1, z => if z = "L+" then some (.str "R+") else if z = "L-" then some (.str "R-") else if z = "R+" then some (.str "L+") else if z = "R-" then some (.str "L-") else none
  | 2, z => if z = "L+" then some (.str "L-") else if z = "L-" then some (.str "L+") else if z = "R+" then some (.str "R-") else if z = "R-" then some (.str "R+") else none
  | _, _ => none
def gdAt (i : Nat) : PyData → Dr PyData
  | .str z => .opt (gds i z)
  | _ => .bad
def gts : Nat → List Str
  | 0 => ["L+", "R+"]
  | 1 => ["L+", "L-", "R+", "R-"]
  | _ => []
def ginAt (i : Nat) : PyData → Dr PyData
  | .str z => .ret (.bool ((gts i).contains z))
  | .int _ => .ret (.bool false)
  | .none => .ret (.bool false)
  | .bool _ => .ret (.bool false)
  | _ => .bad
def revRg : PyData → Dr (List PyData)
  | .int n => if n < 2 ^ 62 ∧ -(2 ^ 62) ≤ n then .ret ((List.range n.toNat).reverse.map fun k => .int (k : Nat)) else .bad
  | _ => .bad
def slPut (ds : List PyData) : PyData → PyData → Dr (List PyData)
  | .list es, .int k => if 0 ≤ k ∧ k ≤ ds.length ∧ ds.length + es.length ≤ 100000 then .ret (es ++ ds.drop k.toNat) else .bad
  | _, _ => .bad
def exPut (ds : List PyData) : PyData → Dr (List PyData)
  | .list es => if ds.length + es.length ≤ 100000 then .ret (ds ++ es) else .bad
  | _ => .bad
def insPut (ds : List PyData) (x : PyData) : PyData → Dr (List PyData)
  | .int k => if 0 ≤ k ∧ k < 2 ^ 63 ∧ ds.length ≤ 100000 then .ret (ds.take k.toNat ++ [x] ++ ds.drop k.toNat) else .bad
  | _ => .bad
def flatR : PyData → Dr PyData
  | .int i => .ret (.int i)
  | .bool b => .ret (.bool b)
  | .str s => .ret (.str s)
  | .none => .ret .none
  | _ => .bad
def cutD (ds : List PyData) (lo hi : Option Int) : List PyData := (ds.drop (HT.sIx ds.length 0 lo)).take (HT.sIx ds.length ds.length hi - HT.sIx ds.length 0 lo)
def andB (t : Dr PyData) : PyData → Dr PyData
  | .bool true => t
  | .bool false => .ret (.bool false)
  | _ => .bad
def orB (t : Dr PyData) : PyData → Dr PyData
  | .bool false => t
  | .bool true => .ret (.bool true)
  | _ => .bad
def asInt : PyData → Dr (Option Int)
  | .int i => .ret (some i)
  | _ => .bad
def small (l : List PyData) (t : Dr PyData) : Dr PyData := if l.length ≤ 100000 then t else .bad
def within (us vs : List Nat) (t : Dr PyData) : Dr PyData := if us.all (vs.contains ·) = true then t else .bad
def cstep (c : En → Dr Bool) (e : En → Dr PyData) (g : Tt) (env : En) : PyData → Dr (Option PyData) := fun d => (Dr.opt (g.put env d)).bind fun env' => (c env').bind fun q => if q = true then (e env').bind fun v => .ret (some v) else .ret none
def cstep2 (ei : En → Dr (List PyData)) (e : En → Dr PyData) (g g1 : Tt) (vs1 : List Nat) (env : En) : PyData → Dr (List PyData) := fun d => (Dr.opt (g.put env d)).bind fun env' => (ei env').bind fun its => if its.length ≤ 4000 then compr (cstep (fun _ => .ret true) e g1 (wipeX env' vs1)) its else .bad
def isCl (c : Nat) : PyData → Bool
  | .dict [(.str nm, .list _)] => decide (c < 3) && decide (nm = clsN c)
  | _ => false
def seqD : PyData → Dr (List PyData)
  | .list ds => .ret ds
  | .tuple ds => .ret ds
  | _ => .bad
def eqB (no : Bool) : PyData → Dr PyData
  | .bool c => .ret (.bool (if no then !c else c))
  | _ => .bad
mutual
def evE : E → En → Dr PyData
  | .var i, env => slot env i
  | .con c, _ => .ret c.d
  | .op o a b, env => (evE a env).bind fun x => (evE b env).bind fun y => .opt (o.f x y)
  | .un o a, env => (evE a env).bind fun x => .opt (o.f x)
  | .cb o as, env => (evA as env).bind fun xs => .opt (o.f xs)
  | .sl o e l h, env => (evE e env).bind fun x => (evP l env).bind fun u => (evP h env).bind fun w => .opt (o.f x u w)
  | .call f as, env => (evA as env).bind fun xs => (f xs).pur
  | .callN f p as ks, env => (evA as env).bind fun xs => (evA ks env).bind fun ys => if xs.length = p.n ∧ ys.length = p.m then (f (p.gD xs ys)).pur else .bad
  | .callB f i as, env => (boxAt env i).bind fun _ => (evA as env).bind f
  | .lst as, env => (evA as env).bind fun xs => small xs (.ret (.list xs))
  | .tup as, env => (evA as env).bind fun xs => small xs (.ret (.tuple xs))
  | .ite c a b, env => (evT c env).bind fun q => if q = true then evE a env else evE b env
  | .and a b, env => (evE a env).bind fun x => andB (evE b env) x
  | .or a b, env => (evE a env).bind fun x => orB (evE b env) x
  | .chain o o' a b c, env => (evE a env).bind fun x => (evE b env).bind fun y => (Dr.opt (o.f x y)).bind fun q => andB ((evE c env).bind fun z => .opt (o'.f y z)) q
  | .lc it g vs c e, env => (evI it env).bind fun its => small its (within g.vs vs ((compr (cstep (evT c) (evE e) g (wipeX env vs)) its).bind fun l => .ret (.list l)))
  | .lc2 it g vs it1 g1 vs1 e, env => (evI it env).bind fun its => if its.length ≤ 4000 ∧ g.vs.all (vs.contains ·) = true ∧ g1.vs.all (vs1.contains ·) = true then (compr2 (cstep2 (evI it1) (evE e) g g1 vs1 (wipeX env vs)) its).bind fun l => .ret (.list l) else .bad
  | .gd i e, env => (evE e env).bind fun x => gdAt i x
  | .gin i e, env => (evE e env).bind fun x => ginAt i x
  | .bm o e as, env => (evE e env).bind fun x => if o.td x = true then (evA as env).bind fun xs => .opt (o.f x xs) else .bad
  | .bm0 o e, env => (evE e env).bind fun x => if o.td x = true then .opt (o.f x []) else .bad
  | .olen i, env => (ownAt env i).bind fun ds => .ret (.int ds.length)
  | .oix i e, env => (ownAt env i).bind fun ds => (evE e env).bind fun x => match x with
    | .int n => .opt (atI ds n)
    | _ => .bad
  | .osl i l h, env => (ownAt env i).bind fun ds => (evP l env).bind fun u => (evP h env).bind fun w => .ret (.list (cutD ds u w))
  | .otup i, env => (ownAt env i).bind fun ds => .ret (.tuple ds)
  | .olst i, env => (ownAt env i).bind fun ds => .ret (.list ds)
  | .brw i e, env => (ownAt env i).bind fun ds => (evE e (env.set i (.dat (.list ds)))).bind fun x => flatR x
  | .isi o e, env => (evE e env).bind fun x => .ret (.bool (o.kb x))
  | .fldB i k, env => (objAt env i).bind fun l => .opt l[k]?
  | .mcall _ f i as, env => (objAt env i).bind fun l => (evA as env).bind (f l)
  | .tmp _ f ini as bs, env => (evA as env).bind fun xs => ((ini xs).pur).bind fun l => (evA bs env).bind fun ys => (f l ys).pur
  | .meth _ f e as, env => (evE e env).bind fun x => if isOb x = true then (evA as env).bind fun xs => (f (x :: xs)).pur else .bad
  | .mk f as, env => (evA as env).bind fun xs => (f xs).pur
  | .mkD f as, env => (evA as env).bind fun xs => (f (xs ++ [.tuple []])).pur
  | .isT e, env => (evE e env).bind fun x => if isOb x = true then .ret (.bool true) else .bad
  | .isx r c e, env => (evE e env).bind fun x => .opt (isxF r c x)
  | .xfd r e, env => (evE e env).bind fun x => .opt (xfdF r x)
  | .methC c _ f e as, env => (evE e env).bind fun x => if isCl c x = true then (evA as env).bind fun xs => (f (x :: xs)).pur else .bad
  | .callO f a b c, env => (evE a env).bind fun x => (evE b env).bind fun y => (seqD y).bind fun ds => (evE c env).bind fun z => (f x ds z).pur
  | .eqT no f a b, env => (evE a env).bind fun x => (evE b env).bind fun y => if isOb x = true ∧ isOb y = true then ((f [x, y]).pur).bind fun d => eqB no d else .bad
  | .dIn neg i e, env => (evE e env).bind fun x => (keyD x).bind fun k => (dctAt env i).bind fun m => .ret (.bool (if neg = true then !(BF.dget m k).isSome else (BF.dget m k).isSome))
  | .dIx i e, env => (dctAt env i).bind fun m => (evE e env).bind fun x => (keyD x).bind fun k => .opt (BF.dget m k)
def evA : A → En → Dr (List PyData)
  | .nil, _ => .ret []
  | .cons e r, env => (evE e env).bind fun x => (evA r env).bind fun xs => .ret (x :: xs)
def evP : P → En → Dr (Option Int)
  | .no, _ => .ret none
  | .at e, env => (evE e env).bind fun x => asInt x
def evT : T → En → Dr Bool
  | .tru o e, env => (evE e env).bind fun x => .opt (o.f x)
  | .not t, env => (evT t env).bind fun q => .ret (!q)
  | .and t u, env => (evT t env).bind fun q => if q = true then evT u env else .ret false
  | .or t u, env => (evT t env).bind fun q => if q = true then .ret true else evT u env
  | .yes, _ => .ret true
  | .otru i, env => (ownAt env i).bind fun ds => .ret (!ds.isEmpty)
  | .ite c a b, env => (evT c env).bind fun q => if q = true then evT a env else evT b env
def evI : I → En → Dr (List PyData)
  | .one o e, env => (evE e env).bind fun x => .opt (o.f x)
  | .many o as, env => (evA as env).bind fun xs => .opt (o.f xs)
  | .gl i, _ => .ret ((gts i).map PyData.str)
  | .rrg e, env => (evE e env).bind fun x => revRg x
end
def asLst : PyData → Dr (List PyData)
  | .list ds => .ret ds
  | _ => .bad
def evF : FE → En → Dr (List PyData)
  | .lst as, env => (evA as env).bind fun xs => if xs.length ≤ 100000 then .ret xs else .bad
  | .op o a b, env => (evE a env).bind fun x => (evE b env).bind fun y => .opt (o.f x y)
  | .cb o as, env => (evA as env).bind fun xs => .opt (o.f xs)
  | .un o e, env => (evE e env).bind fun x => .opt (o.f x)
  | .call f as, env => (evA as env).bind fun xs => ((f xs).pur).bind asLst
  | .callN f p as ks, env => (evA as env).bind fun xs => (evA ks env).bind fun ys => if xs.length = p.n ∧ ys.length = p.m then ((f (p.gD xs ys)).pur).bind asLst else .bad
  | .ite c a b, env => (evT c env).bind fun q => if q = true then evF a env else evF b env
  | .lc it g vs c e, env => (evI it env).bind fun its => if its.length ≤ 100000 ∧ g.vs.all (vs.contains ·) = true then compr (cstep (evT c) (evE e) g (wipeX env vs)) its else .bad
def evB : B → En → Dr (List Sl)
  | .nil, _ => .ret []
  | .consE e r, env => (evE e env).bind fun x => (evB r env).bind fun xs => .ret (.dat x :: xs)
  | .consF f r, env => (evF f env).bind fun x => (evB r env).bind fun xs => .ret (.own x :: xs)
  | .consD0 r, env => (evB r env).bind fun xs => .ret (.dct [] :: xs)
  | .consD1 k v r, env => (evE k env).bind fun x => (evE v env).bind fun y => (keyD x).bind fun kk => (evB r env).bind fun xs => .ret (.dct [(kk, y)] :: xs)
def putN (env : En) : List Nat → List Sl → Dr En
  | [], [] => .ret env
  | i :: is, x :: xs => putN (env.set i x) is xs
  | _, _ => .bad
def put2 (env : En) (i j : Nat) : List Sl → Dr En
  | [x, y] => .ret ((env.set i x).set j y)
  | _ => .bad
def put3 (env : En) (i j k : Nat) : List Sl → Dr En
  | [x, y, z] => .ret (((env.set i x).set j y).set k z)
  | _ => .bad
inductive Fl where
  | nx (env : En)
  | rt (d : PyData)
  | rtO (ds : List PyData)
  | bk (env : En)
  | ct (env : En)
  | ex (c : Nat) (fs : List (Str × PyData))
def Fl.then (k : En → Dr Fl) : Fl → Dr Fl
  | .nx env => k env
  | f => .ret f
def forL (step : PyData → En → Dr Fl) : List PyData → En → Dr Fl
  | [], env => .ret (.nx env)
  | d :: r, env => (step d env).bind fun f => match f with
    | .nx env' => forL step r env'
    | .ct env' => forL step r env'
    | .bk env' => .ret (.nx env')
    | .rt v => .ret (.rt v)
    | .rtO v => .ret (.rtO v)
    | .ex c fs => .ret (.ex c fs)
def whileL (c : En → Dr Bool) (b : En → Dr Fl) : Nat → En → Dr Fl
  | 0, _ => .bad
  | m + 1, env => (c env).bind fun q => if q = true then (b env).bind fun f => match f with
      | .nx env' => whileL c b m env'
      | .ct env' => whileL c b m env'
      | .bk env' => .ret (.nx env')
      | .rt v => .ret (.rt v)
      | .rtO v => .ret (.rtO v)
      | .ex c fs => .ret (.ex c fs)
    else .ret (.nx env)
def asIx (n : Nat) : PyData → Dr Nat
  | .int i => .opt (ixN n i)
  | _ => .bad
def asSeq : PyData → Dr (List PyData)
  | .list ds => .ret ds
  | .tuple ds => .ret ds
  | _ => .bad
def lstep (b : En → Dr Fl) (g : Tt) : PyData → En → Dr Fl := fun d env => (Dr.opt (g.put env d)).bind b
def tryK (k : Option Nat) (r : Nat) (cs : List Nat) (i h : Nat) (env : En) : Ou → Dr Fl
  | .val d => match k with
    | some k => .ret (.nx (env.set k (.dat d)))
    | none => .ret (.nx env)
  | .exc c fs => if c = r ∧ r ∈ cs ∧ fs.map (·.1) = erF (exN r) ∧ i < env.length then .ret (.nx ((env.set h (.dat (excD r fs))).set i .unk)) else .bad
def evS : S → En → Dr Fl
  | .next, env => .ret (.nx env)
  | .seq a b, env => (evS a env).bind fun f => f.then fun env' => evS b env'
  | .asg g e, env => (evE e env).bind fun x => (Dr.opt (g.put env x)).bind fun env' => .ret (.nx env')
  | .asg2 i j e, env => (evE e env).bind fun x => .ret (.nx ((env.set i (.dat x)).set j (.dat x)))
  | .par i j as, env => (evA as env).bind fun xs => match xs with
    | [x, y] => .ret (.nx ((env.set i (.dat x)).set j (.dat y)))
    | _ => .bad
  | .par3 i j k as, env => (evA as env).bind fun xs => match xs with
    | [x, y, z] => .ret (.nx (((env.set i (.dat x)).set j (.dat y)).set k (.dat z)))
    | _ => .bad
  | .aug i o e, env => (slot env i).bind fun x => (evE e env).bind fun y => (Dr.opt (o.f x y)).bind fun z => .ret (.nx (env.set i (.dat z)))
  | .newO i as, env => (evA as env).bind fun xs => if xs.length ≤ 100000 then .ret (.nx (env.set i (.own xs))) else .bad
  | .newL i e, env => (evE e env).bind fun x => (asSeq x).bind fun xs => .ret (.nx (env.set i (.own xs)))
  | .app i e, env => (ownAt env i).bind fun ds => (evE e env).bind fun x => if ds.length ≤ 100000 then .ret (.nx (env.set i (.own (ds ++ [x])))) else .bad
  | .setix i ix e, env => (ownAt env i).bind fun ds => (evE e env).bind fun x => (evE ix env).bind fun y => (asIx ds.length y).bind fun m => .ret (.nx (env.set i (.own (ds.set m x))))
  | .augix i ix o e, env => (ownAt env i).bind fun ds => (evE ix env).bind fun y => (asIx ds.length y).bind fun m => (Dr.opt ds[m]?).bind fun x => (evE e env).bind fun u => (Dr.opt (o.f x u)).bind fun z => .ret (.nx (env.set i (.own (ds.set m z))))
  | .rev i, env => (ownAt env i).bind fun ds => .ret (.nx (env.set i (.own ds.reverse)))
  | .setsl i ix e, env => (ownAt env i).bind fun ds => (evE e env).bind fun x => (evE ix env).bind fun y => (slPut ds x y).bind fun zs => .ret (.nx (env.set i (.own zs)))
  | .ext i e, env => (ownAt env i).bind fun ds => (evE e env).bind fun x => (exPut ds x).bind fun zs => .ret (.nx (env.set i (.own zs)))
  | .clr i, env => (ownAt env i).bind fun _ => .ret (.nx (env.set i (.own [])))
  | .pop i, env => (ownAt env i).bind fun ds => if ds.isEmpty = true then .bad else .ret (.nx (env.set i (.own ds.dropLast)))
  | .popA g i e, env => (ownAt env i).bind fun ds => (evE e env).bind fun y => (asIx ds.length y).bind fun m => if ds.length ≤ 100000 then (Dr.opt ds[m]?).bind fun x => (Dr.opt (g.put (env.set i (.own (ds.eraseIdx m))) x)).bind fun env' => .ret (.nx env') else .bad
  | .ali k t i j f, env => (evT t env).bind fun b => (ownAt env f).bind fun fs => (ownAt env (if b = true then i else j)).bind fun ds => match ds with
    | y :: r => if decide (fs.length ≤ 100000) = true then if decide (r.length ≤ 100000) = true then if aliOk env k (if b = true then i else j) f = true then .ret (.nx (((env.set k .unk).set (if b = true then i else j) (.own r)).set f (.own (fs ++ [y])))) else .bad else .bad else .bad
    | [] => .bad
  | .ins i ix e, env => (ownAt env i).bind fun ds => (evE ix env).bind fun y => (evE e env).bind fun x => (insPut ds x y).bind fun zs => .ret (.nx (env.set i (.own zs)))
  | .newE i e, env => (evF e env).bind fun xs => .ret (.nx (env.set i (.own xs)))
  | .par2B i j b, env => (evB b env).bind fun xs => (put2 env i j xs).bind fun env' => .ret (.nx env')
  | .par2T i j b, env => (evB b env).bind fun xs => (put2 env i j xs).bind fun env' => .ret (.nx env')
  | .par3B i j k b, env => (evB b env).bind fun xs => (put3 env i j k xs).bind fun env' => .ret (.nx env')
  | .retO i, env => (ownAt env i).bind fun ds => .ret (.rtO ds)
  | .retF e, env => (evF e env).bind fun ds => .ret (.rtO ds)
  | .frz i s, env => (ownAt env i).bind fun ds => evS s (env.set i (.dat (.list ds)))
  | .newT i f as, env => (evA as env).bind fun xs => ((f xs).pur).bind fun d => (asTab d).bind fun ds => .ret (.nx (env.set i (.tab ds)))
  | .newTD i f as, env => (evA as env).bind fun xs => ((f (xs ++ [.tuple []])).pur).bind fun d => (asTab d).bind fun ds => .ret (.nx (env.set i (.tab ds)))
  | .newM i _ f e as, env => (evE e env).bind fun x => if isOb x = true then (evA as env).bind fun xs => ((f (x :: xs)).pur).bind fun d => (asTab d).bind fun ds => .ret (.nx (env.set i (.tab ds))) else .bad
  | .setF i k e, env => (tabAt env i).bind fun ds => (evE e env).bind fun x => if k < 6 then .ret (.nx (env.set i (.tab (ds.set k x)))) else .bad
  | .frzT i s, env => (tabAt env i).bind fun ds => evS s (env.set i (.dat (obT ds)))
  | .newD0 i, env => .ret (.nx (env.set i (.dct [])))
  | .putD i k e, env => (evE e env).bind fun v => (dctAt env i).bind fun m => (evE k env).bind fun x => (keyD x).bind fun kk => if m.length ≤ 100000 then .ret (.nx (env.set i (.dct (BF.dput m kk v)))) else .bad
  | .putD2 i j k1 k2 v1 v2, env => (evE v1 env).bind fun a => (evE v2 env).bind fun b => (dctAt env i).bind fun m => (evE k1 env).bind fun x => (keyD x).bind fun kk => if m.length ≤ 100000 then
      (dctAt (env.set i (.dct (BF.dput m kk a))) j).bind fun m2 => (evE k2 (env.set i (.dct (BF.dput m kk a)))).bind fun y => (keyD y).bind fun ll => if m2.length ≤ 100000 then .ret (.nx ((env.set i (.dct (BF.dput m kk a))).set j (.dct (BF.dput m2 ll b)))) else .bad
    else .bad
  | .parN is b, env => if is.length ≤ 16 then (evB b env).bind fun xs => (putN env is xs).bind fun env' => .ret (.nx env') else .bad
  | .frzX i s, env => (dctAt env i).bind fun m => evS s (env.set i (.dat (dctD m)))
  | .ret e, env => (evE e env).bind fun x => .ret (.rt x)
  | .cond c a b, env => (evT c env).bind fun q => if q = true then evS a env else evS b env
  | .loop it g b, env => (evI it env).bind fun its => forL (lstep (evS b) g) its env
  | .whil m c b, env => whileL (evT c) (evS b) m env
  | .brk, env => .ret (.bk env)
  | .cnt, env => .ret (.ct env)
  | .drop e, env => (evE e env).bind fun _ => .ret (.nx env)
  | .stuck, _ => .bad
  | .raise c f as, env => (evA as env).bind fun xs => match xs with
    | [x] => .ret (.ex c [(f, x)])
    | _ => .bad
  | .tryC k f as r cs i h, env => (evA as env).bind fun xs => (f xs).pur.bind fun o => tryK k r cs i h env o
def startE (N : Nat) (ds : List PyData) : En := ds.map Sl.dat ++ List.replicate (N - ds.length) Sl.unk
def startX (N : Nat) (ds : List PyData) : En := .box :: (ds.map Sl.dat ++ List.replicate (N - (ds.length + 1)) Sl.unk)
def told : Fl → Dr PyData
  | .rt d => .ret d
  | .rtO ds => .ret (.list ds)
  | _ => .bad
def run (N p : Nat) (b : S) : Fs := fun ds => if ds.length = p then (evS b (startE N ds)).bind told else .bad
def runB (N p : Nat) (b : S) : Fs := fun ds => if ds.length + 1 = p then (evS b (startX N ds)).bind told else .bad
def toldX : Fl → Dr Ou
  | .rt d => .ret (.val d)
  | .rtO ds => .ret (.val (.list ds))
  | .ex c fs => .ret (.exc c fs)
  | _ => .bad
def runX (N p : Nat) (b : S) : List PyData → Dr Ou := fun ds => if ds.length = p then (evS b (startE N ds)).bind toldX else .bad
end DP
namespace DP
open PySem PySem.Spec PyProof.Rows L2 ZX DL RT
structure Bo where
  a : Addr
  ms : MS
  fl : Option (List PyData)
abbrev Bo.law (b : Addr) : Bo := ⟨b, bx b, none⟩
structure Gq where
  K : PySem.W.Frag
  w : World
  da : Nat → Option Addr
  cls : Nat → Addr
  E : XK
  oC : Addr
  fam : Bo → Prop
  mn : Nat → Str
  fn : Nat → Str
  any : Bool
def mS : Option Bo → MS
  | none => pu
  | some b => b.ms
def spM (K : PySem.W.Frag) (fam : Bo → Prop) (f : Ms') : Sp := fun vs H Q _ => ∃ (b : Bo) (l : List PyData) (vs' : List V) (G : Hp) (ds : List PyData) (n : Nat) (Φ : PyData → Nat → Prop), vs = .ref b.a :: vs' ∧ fam b ∧ b.fl = some l ∧ DDs K G vs' ds ∧ Wd b.ms n G H ∧ (f l ds).ok n Φ ∧ ∀ v d n' G2 H2, Mv b.ms.M G H G2 H2 → Wd b.ms n' G2 H2 → DD K G2 v d → Φ d n' → Q v H2
def spI (K : PySem.W.Frag) (C : Addr) (fam : Bo → Prop) (ini : Is') : Sp := fun vs H Q _ => ∃ (x dx : Addr) (vs' : List V) (G H0 : Hp) (ds l : List PyData), vs = .ref x :: vs' ∧ H = upd (upd H0 dx (.own x)) x (.ins C dx []) ∧ H0 x = none ∧ H0 dx = none ∧ dx ≠ x ∧ (∀ a o, G a = some o → H0 a = some o) ∧ DDs K G vs' ds ∧ ini ds = .ret l ∧
  ∀ (b : Bo) G2 H2, b.a = x → fam b → b.fl = some l → Mv (fun _ => False) G H0 G2 H2 → (∀ n, Wd b.ms n G2 H2) → (∀ a, b.ms.M a → H0 a = none) → Q .non H2
def spD (K : PySem.W.Frag) (f : Fs) : Sp := fun vs H Q _ => ∃ b vs' G ds n Φ, vs = .ref b :: vs' ∧ DDs K G vs' ds ∧ Wd (bx b) n G H ∧ (f ds).ok n Φ ∧ ∀ v d n' G2 H2, Mv (bx b).M G H G2 H2 → Wd (bx b) n' G2 H2 → DD K G2 v d → Φ d n' → Q v H2
structure Mo (l : Addr) (G H G2 H2 : Hp) : Prop where
  gr : ∀ a o, G a = some o → G2 a = some o
  sub : ∀ a o, G2 a = some o → H2 a = some o
  old : ∀ a o, H a = some o → a ≠ l → G2 a = G a
  kp : ∀ a o, H a = some o → a ≠ l → H2 a = some o
  dom : ∀ a o, H a = some o → ∃ u, H2 a = some u
def spO (K : PySem.W.Frag) (f : PyData → List PyData → PyData → Dr PyData) : Sp := fun vs H Q _ => ∃ v0 l v2 G xs d0 ds d2 r, vs = [v0, .ref l, v2] ∧ (∀ a o, G a = some o → H a = some o) ∧ G l = none ∧ H l = some (.lst xs) ∧ DDs K G xs ds ∧ DD K G v0 d0 ∧ DD K G v2 d2 ∧ f d0 ds d2 = .ret r ∧ ∀ v G2 H2, Mo l G H G2 H2 → DD K G2 v r → Q v H2
abbrev spF (K : PySem.W.Frag) (f : Fs) : Sp := spP K fun ds d => f ds = .ret d
def clR : Nat → Nat → Str
  | 0, 0 => "breathe"
  | 0, 1 => "landing"
  | 0, 2 => "lies"
  | 0, 3 => "standing"
  | 0, 4 => "heard_at"
  | 0, 5 => "rooms"
  | 0, 6 => "is_sealed"
  | 0, 7 => "seal"
  | 0, 8 => "scrape"
  | 0, 9 => "sealed"
  | 0, 10 => "saw"
  | 0, 11 => "twin"
  | 0, _ => "lengthened"
  | 1, 0 => "found"
  | 1, 1 => "become"
  | 1, 2 => "go_back"
  | 1, 3 => "build"
  | 1, 4 => "raze"
  | 1, 5 => "breathe"
  | 1, 6 => "seal"
  | 1, 7 => "scrape"
  | 1, 8 => "saw"
  | 1, 9 => "lengthen"
  | 1, 10 => "undo"
  | 1, 11 => "do"
  | 1, 12 => "deed_done"
  | 1, 13 => "names"
  | 1, 14 => "row_of"
  | 1, 15 => "ins"
  | 1, 16 => "deeds"
  | 1, 17 => "marks"
  | 1, 18 => "is_open"
  | 1, _ => "twin"
  | _, _ => "do"
def tmC (q : Gq) (c k : Nat) (f : Fs) (te : TE) (ta : TA) : TE := match q.da (6 + c) with
  | some C => tMeth C (clR c k) (spF q.K f) [] E0 te ta
  | none => fun _ _ _ => True
abbrev rLen (K : PySem.W.Frag) : List V → Hp → VK → Prop := fun xs H Q => ∃ p ys, xs = [.ref p] ∧ (SqL K H p ys ∨ SqT K H p ys) ∧ Q (.int ys.length) H
abbrev rList (K : PySem.W.Frag) : List V → Hp → VK → Prop := fun xs H Q => ∃ p ys, xs = [.ref p] ∧ (SqL K H p ys ∨ SqT K H p ys) ∧ ∀ l, H l = none → Q (.ref l) (upd H l (.lst ys))
abbrev rTup (K : PySem.W.Frag) : List V → Hp → VK → Prop := fun xs H Q => ∃ p ys, xs = [.ref p] ∧ ((SqL K H p ys ∧ ∀ l, H l = none → Q (.ref l) (upd H l (.tup ys))) ∨ (SqT K H p ys ∧ Q (.ref p) H))
def gdT (q : Gq) (i : Nat) (te : TE) : TE := match q.da i with
  | some a => tOp (rIxD q.K q.w) (tC (.ref a)) te
  | none => fun _ _ _ => True
def KT (K : PySem.W.Frag) (a : Addr) (xs : List V) : Prop := ∃ (o : Obj) (its : Array Value) (n : Nat), K.lookup a = some o ∧ o.cls = .type "tuple" ∧ o.data = .seq its n ∧ its.size ≤ sizeLine ∧ Vals xs its.toList
structure HD (K : PySem.W.Frag) (w : World) (da : Nat → Option Addr) : Prop where
  d : ∀ i a z d, da i = some a → gds i z = some d → ∃ v, KDct K w a z v ∧ ∀ G, DD K G v d
  t : ∀ i a, i < 20 → da (10 + i) = some a → KT K a ((gts i).map V.str)
  c : ∀ C, da 5 = some C → TbC K C
  r : ∀ c C, c < 3 → da (6 + c) = some C → ClC K C (clsN c)
  xr : ∀ r D, r < 20 → da (30 + r) = some D → ErC K D (exN r)
  xk : ∀ r D c C, r < 20 → c < 20 → da (30 + r) = some D → da (50 + c) = some C → PySem.W.kitOne K (.ref D) (.ref C) = some (decide (r = c)) ∧ PySem.W.exmOne K (.ref D) (.ref C) = some (decide (r = c))
def ginT (q : Gq) (i : Nat) (te : TE) : TE := match decide (i < 20), q.da (10 + i) with
  | true, some a => tOp (rIn q.K false) te (tC (.ref a))
  | _, _ => fun _ _ _ => True
def glT (q : Gq) (i : Nat) : TI := match decide (i < 20), q.da (10 + i) with
  | true, some a => iSeqX q.K (tC (.ref a))
  | _, _ => fun _ _ _ => True
def isxT (q : Gq) (r : Nat) (c : Xc) (te : TE) : TE := match decide (r < 20), q.da (30 + r) with
  | true, some _ => (match c with
    | .base n => tCB (DX.rIsiY q.K) (tCons te (tCons (tC (.ty n)) tNil))
    | .one c => (match decide (c < 20), q.da (50 + c) with
      | true, some C => tCB (DX.rIsiY q.K) (tCons te (tCons (tC (.ref C)) tNil))
      | _, _ => fun _ _ _ => True)
    | .two c c' => (match decide (c < 20), q.da (50 + c), decide (c' < 20), q.da (50 + c') with
      | true, some C, true, some C' => tCB (DX.rIsiTY q.K) (tCons te (tCons (tTup (tCons (tC (.ref C)) (tCons (tC (.ref C')) tNil))) tNil))
      | _, _, _, _ => fun _ _ _ => True))
  | _, _ => fun _ _ _ => True
def xfdT (q : Gq) (r : Nat) (te : TE) : TE := match decide (r < 20), q.da (30 + r) with
  | true, some _ => XG.tFldX q.K ((erF (exN r)).getD 0 "") te
  | _, _ => fun _ _ _ => True
def tbM : Nat → Str
  | 0 => "leads"
  | 1 => "ahead_of"
  | 2 => "total"
  | 3 => "walls"
  | 4 => "shift"
  | 5 => "rooms"
  | 6 => "spot"
  | 7 => "then"
  | _ => "times"
theorem tbM_no (k : Nat) : ∀ x ∈ tbN, (x == tbM k) = false := by
  rcases k with _ | _ | _ | _ | _ | _ | _ | _ | k
  all_goals first | decide +kernel | (show ∀ x ∈ tbN, (x == ("times" : Str)) = false; decide +kernel)
theorem look_no {m : Str} : ∀ {fs : List (Str × V)} {ns : List Str}, fs.map (·.1) = ns → (∀ x ∈ ns, (x == m) = false) → fs.lookup m = none
  | [], _, _, _ => rfl
  | (n, v) :: fs, _, rfl, h => by
    have h1 := h n (by simp)
    have e : (m == n) = false := by
      rw [beq_eq_false_iff_ne] at h1 ⊢
      exact fun z => h1 z.symm
    rw [List.lookup_cons, e]
    exact look_no rfl fun x hx => h x (by simp at hx ⊢; exact .inr hx)
def spT (K : PySem.W.Frag) (C : Addr) (f : Fs) : Sp := fun vs H Q _ => ∃ (x dx : Addr) (vs' : List V) (G H0 : Hp) (ds : List PyData) (d : PyData), vs = .ref x :: vs' ∧ H = upd (upd H0 dx (.own x)) x (.ins C dx []) ∧ H0 x = none ∧ H0 dx = none ∧ dx ≠ x ∧ (∀ a o, G a = some o → H0 a = some o) ∧ DDs K G vs' ds ∧ f ds = .ret d ∧
  ∀ G2 H2, Mv (fun _ => False) G H0 G2 H2 → DD K G2 (.ref x) d → Q .non H2
def spTN (K : PySem.W.Frag) (C : Addr) (f : Fs) : Sp := fun vs H Q _ => ∃ (x dx : Addr) (vs' : List V) (G H0 : Hp) (ds zs : List PyData), vs = .ref x :: vs' ∧ H = upd (upd H0 dx (.own x)) x (.ins C dx []) ∧ H0 x = none ∧ H0 dx = none ∧ dx ≠ x ∧ (∀ a o, G a = some o → H0 a = some o) ∧ DDs K G vs' ds ∧ f ds = .ret (obT zs) ∧
  ∀ dx' fs G2 H2, Mv (fun _ => False) G H0 G2 H2 → G2 x = none → H2 x = some (.ins C dx' fs) → fs.map (·.1) = tbN → DDs K G2 (fs.map (·.2)) zs → Q .non H2
def spNT (K : PySem.W.Frag) (C : Addr) (f : Fs) : Sp := fun vs H Q _ => ∃ G ds zs, (∀ a o, G a = some o → H a = some o) ∧ DDs K G vs ds ∧ f ds = .ret (obT zs) ∧ ∀ l dx fs G2 H2, Mv (fun _ => False) G H G2 H2 → H l = none → G2 l = none → H2 l = some (.ins C dx fs) → fs.map (·.1) = tbN → DDs K G2 (fs.map (·.2)) zs → Q (.ref l) H2
def spN (K : PySem.W.Frag) (f : Fs) : Sp := fun vs H Q _ => ∃ G ds zs, (∀ a o, G a = some o → H a = some o) ∧ DDs K G vs ds ∧ f ds = .ret (.list zs) ∧ ∀ l xs G2 H2, Mv (fun _ => False) G H G2 H2 → H l = none → G2 l = none → H2 l = some (.lst xs) → DDs K G2 xs zs → Q (.ref l) H2
def rEqT (C : Addr) (no : Bool) (sp : Sp) : R2 := fun x y H Q => ∃ a dx fs b dy gs, x = .ref a ∧ y = .ref b ∧ H a = some (.ins C dx fs) ∧ H b = some (.ins C dy gs) ∧ sp [x, y] H (fun v H' => ∃ c, v = .bl c ∧ Q (.bl (if no then !c else c)) H') E0
theorem dv_dd {K : PySem.W.Frag} {w : World} {da : Nat → Option Addr} (hD : HD K w da) {dv : Addr} (h : da 12 = some dv) (G : Hp) : DD K G (.ref dv) (.tuple []) := .tup (.inr (hD.t 2 dv (by decide) h)) .nil
def Ts.len : Ts → Nat
  | .nil => 0
  | .cons _ r => r.len + 1
mutual
def tG (K : PySem.W.Frag) : Tt → TG
  | .nm i => gName i
  | .tp ts => SS0.gSeq K ts.len (tGs K ts)
def tGs (K : PySem.W.Frag) : Ts → TGs
  | .nil => gNil
  | .cons t r => gCons (tG K t) (tGs K r)
end
mutual
def tE (q : Gq) : E → TE
  | .var i => tVar i
  | .con c => tC c.v
  | .op o a b => tOp (o.rel q.K) (tE q a) (tE q b)
  | .un o a => tUn (o.rel q.K) (tE q a)
  | .cb o as => tCB (o.rel q.K) (tA q as)
  | .sl o e l h => L2.tSl (o.rel q.K) (tE q e) (tP q l) (tP q h)
  | .call f as => tCall (spF q.K f) [] E0 (tA q as)
  | .callN f p as ks => tCallN p.n p.m (spF q.K f) p.gV E0 (tA q as) (tA q ks)
  | .callB f i as => tCall (spD q.K f) [] E0 (tCons (tVar i) (tA q as))
  | .lst as => tLst (tA q as)
  | .tup as => tTup (tA q as)
  | .ite c a b => tIf (tT q c) (tE q a) (tE q b)
  | .and a b => tAndV (tE q a) (tE q b)
  | .or a b => tOrV (tE q a) (tE q b)
  | .chain o o' a b c => tChain (o.rel q.K) (o'.rel q.K) (tE q a) (tE q b) (tE q c)
  | .lc it g vs c e => tLc (tI q it) (tG q.K g) (tT q c) (tE q e) vs
  | .lc2 it g vs it1 g1 vs1 e => tLc2 (tI q it) (tG q.K g) tYes (tI q it1) (tG q.K g1) tYes (tE q e) vs vs1
  | .gd i e => gdT q i (tE q e)
  | .gin i e => ginT q i (tE q e)
  | .bm o e as => tBM q.K o.ty (o.rel q.K) (tE q e) (tA q as)
  | .bm0 o e => tBM0 q.K o.ty (o.rel q.K) (tE q e)
  | .olen i => tCB (rLen q.K) (tCons (tVar i) tNil)
  | .oix i e => tOp (rIxL q.K) (tVar i) (tE q e)
  | .osl i l h => L2.tSl (rSlL q.K) (tVar i) (tP q l) (tP q h)
  | .otup i => tCB (rTup q.K) (tCons (tVar i) tNil)
  | .olst i => tCB (rList q.K) (tCons (tVar i) tNil)
  | .brw i e => match q.any with
    | true => tE q e
    | false => fun _ _ _ => True
  | .isi o e => tCB (DX.rIsiY q.K) (tCons (tE q e) (tCons (tC (.ty o.n)) tNil))
  | .fldB i k => tFld q.K (tVar i) (q.fn k)
  | .mcall k f i as => tMeth q.oC (q.mn k) (spM q.K q.fam f) [] E0 (tVar i) (tA q as)
  | .tmp k f ini as bs => tMeth q.oC (q.mn k) (spM q.K q.fam f) [] E0 (tMake q.oC (spI q.K q.oC q.fam ini) [] E0 (tA q as)) (tA q bs)
  | .meth k f e as => match q.da 5 with
    | some C => tMeth C (tbM k) (spF q.K f) [] E0 (tE q e) (tA q as)
    | none => fun _ _ _ => True
  | .mk f as => match q.da 5 with
    | some C => tMake C (spT q.K C f) [] E0 (tA q as)
    | none => fun _ _ _ => True
  | .mkD f as => match q.da 5, q.da 12 with
    | some C, some dv => tMake C (spT q.K C f) [.ref dv] E0 (tA q as)
    | _, _ => fun _ _ _ => True
  | .isT e => match q.da 5 with
    | some C => tCB (DX.rIsiY q.K) (tCons (tE q e) (tCons (tC (.ref C)) tNil))
    | none => fun _ _ _ => True
  | .isx r c e => isxT q r c (tE q e)
  | .xfd r e => xfdT q r (tE q e)
  | .methC c k f e as => tmC q c k f (tE q e) (tA q as)
  | .callO f a b c => tCall (spO q.K f) [] E0 (tCons (tE q a) (tCons (tCB (rList q.K) (tCons (tE q b) tNil)) (tCons (tE q c) tNil)))
  | .eqT no f a b => match q.da 5 with
    | some C => tOp (rEqT C no (spF q.K f)) (tE q a) (tE q b)
    | none => fun _ _ _ => True
  | .dIn neg i e => tOp (DX.rDIn neg q.K) (tE q e) (tVar i)
  | .dIx i e => tOp (DX.rDIx q.K) (tVar i) (tE q e)
def tA (q : Gq) : A → TA
  | .nil => tNil
  | .cons e r => tCons (tE q e) (tA q r)
def tP (q : Gq) : P → TO
  | .no => tNoPart
  | .at e => tPart (tE q e)
def tT (q : Gq) : T → TT
  | .tru o e => fun σ H Q => tE q e σ H fun x H1 => o.rel q.K x H1 Q
  | .not t => tNot (tT q t)
  | .and t u => tAnd (tT q t) (tT q u)
  | .or t u => tOr (tT q t) (tT q u)
  | .yes => tYes
  | .otru i => fun σ H Q => tVar i σ H fun x H1 => ∃ k, TruV q.K x H1 k ∧ Q k H1
  | .ite c a b => SS0.tIfT (tT q c) (tT q a) (tT q b)
def tI (q : Gq) : I → TI
  | .one o e => fun σ H R => tE q e σ H fun x H1 => o.rel q.K x H1 R
  | .many o as => fun σ H R => tA q as σ H fun xs H1 => o.rel q.K xs H1 R
  | .gl i => glT q i
  | .rrg e => iRevR (tRg1 (tE q e))
end
def tF (q : Gq) : FE → TE
  | .lst as => tLst (tA q as)
  | .op o a b => tOp (o.rel q.K) (tE q a) (tE q b)
  | .cb o as => tCB (o.rel q.K) (tA q as)
  | .un o e => tUn (o.rel q.K) (tE q e)
  | .call f as => tCall (spN q.K f) [] E0 (tA q as)
  | .callN f p as ks => tCallN p.n p.m (spN q.K f) p.gV E0 (tA q as) (tA q ks)
  | .ite c a b => tIf (tT q c) (tF q a) (tF q b)
  | .lc it g vs c e => tLc (tI q it) (tG q.K g) (tT q c) (tE q e) vs
def tB (q : Gq) : B → TA
  | .nil => tNil
  | .consE e r => tCons (tE q e) (tB q r)
  | .consF f r => tCons (tF q f) (tB q r)
  | .consD0 r => tCons DX.tDNew (tB q r)
  | .consD1 k v r => tCons (DX.tDOne q.K (tE q k) (tE q v)) (tB q r)
def gNs : List Nat → TGs
  | [] => gNil
  | i :: r => gCons (gName i) (gNs r)
def isOwn : Sl → Bool
  | .own _ => true
  | .tab _ => true
  | .dct _ => true
  | _ => false
def okS : Sl → Addr → OC → Prop
  | .own ds, _, c => c = .lst ds
  | .tab ds, _, c => ∃ C, c = .tab C ds
  | .dct kvs, l, c => c = .dct l kvs
  | _, _, _ => False
structure Rp (ob : Option Bo) (env : En) (δ : List SD) (W : Own) : Prop where
  len : δ.length = env.length
  dat : ∀ (i : Nat) (d : PyData), env[i]? = some (.dat d) → δ[i]? = some (.dat d)
  box : ∀ (i : Nat) (o : Option (List PyData)), env[i]? = some (.bx o) → ∃ b, ob = some b ∧ b.fl = o ∧ δ[i]? = some (.ref b.a)
  cel : ∀ (i : Nat) (s : Sl), env[i]? = some s → isOwn s = true → ∃ l c, δ[i]? = some (.ref l) ∧ (l, c) ∈ W ∧ okS s l c
  injA : ∀ (i j : Nat) (s t : Sl) (l : Addr), env[i]? = some s → env[j]? = some t → isOwn s = true → isOwn t = true → δ[i]? = some (.ref l) → δ[j]? = some (.ref l) → i = j
section
variable {ob : Option Bo} {env : En} {δ : List SD} {W : Own} {i : Nat} {d : PyData} {ds es : List PyData} {l : Addr}
theorem Rp.own (r : Rp ob env δ W) (i : Nat) (ds : List PyData) (h : env[i]? = some (.own ds)) : ∃ l, δ[i]? = some (.ref l) ∧ (l, .lst ds) ∈ W := by
  obtain ⟨l, c, a, b, e⟩ := r.cel i _ h rfl
  cases (show c = .lst ds from e)
  exact ⟨l, a, b⟩
theorem Rp.tab (r : Rp ob env δ W) (i : Nat) (ds : List PyData) (h : env[i]? = some (.tab ds)) : ∃ l C, δ[i]? = some (.ref l) ∧ (l, .tab C ds) ∈ W := by
  obtain ⟨l, c, a, b, e⟩ := r.cel i _ h rfl
  obtain ⟨C, rfl⟩ := (show ∃ C, c = .tab C ds from e)
  exact ⟨l, C, a, b⟩
theorem Rp.dct (r : Rp ob env δ W) (i : Nat) (kvs : List (List Int × PyData)) (h : env[i]? = some (.dct kvs)) : ∃ l, δ[i]? = some (.ref l) ∧ (l, .dct l kvs) ∈ W := by
  obtain ⟨l, c, a, b, e⟩ := r.cel i _ h rfl
  cases (show c = .dct l kvs from e)
  exact ⟨l, a, b⟩
theorem Rp.inj (r : Rp ob env δ W) (i j : Nat) (ds es : List PyData) (l : Addr) (h1 : env[i]? = some (.own ds)) (h2 : env[j]? = some (.own es)) (h3 : δ[i]? = some (.ref l)) (h4 : δ[j]? = some (.ref l)) : i = j := r.injA i j _ _ l h1 h2 rfl rfl h3 h4
theorem Rp.start (len : δ.length = env.length) (dat : ∀ (i : Nat) (d : PyData), env[i]? = some (.dat d) → δ[i]? = some (.dat d))
    (box : ∀ (i : Nat) (o : Option (List PyData)), env[i]? = some (.bx o) → ∃ b, ob = some b ∧ b.fl = o ∧ δ[i]? = some (.ref b.a)) (no : ∀ (i : Nat) (s : Sl), env[i]? = some s → isOwn s = false) : Rp ob env δ W :=
  ⟨len, dat, box, fun i s h e => Bool.noConfusion ((no i s h).symm.trans e), fun i j s t l h _ e => Bool.noConfusion ((no i s h).symm.trans e)⟩
theorem set_of {α : Type} {xs : List α} {i j : Nat} {a b : α} (h : (xs.set i a)[j]? = some b) : (i = j ∧ b = a ∧ i < xs.length) ∨ (i ≠ j ∧ xs[j]? = some b) := by
  by_cases e : i = j
  · subst e
    by_cases hi : i < xs.length
    · rw [List.getElem?_set_self hi] at h
      exact .inl ⟨rfl, (Option.some.inj h).symm, hi⟩
    · rw [List.getElem?_eq_none (by rw [List.length_set]; omega)] at h
      cases h
  · rw [List.getElem?_set_ne e] at h
    exact .inr ⟨e, h⟩
theorem Rp.setN (r : Rp ob env δ W) (i : Nat) (s : Sl) (t : SD) (hs : isOwn s = false) (hd : ∀ d, s = .dat d → t = .dat d) (hb : ∀ o, s ≠ .bx o) : Rp ob (env.set i s) (δ.set i t) W := by
  refine ⟨by rw [List.length_set, List.length_set, r.len], fun j e h => ?_, fun j o h => ?_, fun j u h hu => ?_, fun j k u v l h1 h2 hu hv h3 h4 => ?_⟩
  · rcases set_of h with ⟨rfl, e1, hi⟩ | ⟨ne, h⟩
    · rw [List.getElem?_set_self (by rw [r.len]; exact hi), hd e e1.symm]
    · rw [List.getElem?_set_ne ne]
      exact r.dat j e h
  · rcases set_of h with ⟨rfl, e1, hi⟩ | ⟨ne, h⟩
    · exact absurd e1.symm (hb o)
    · rw [List.getElem?_set_ne ne]
      exact r.box j o h
  · rcases set_of h with ⟨rfl, e1, hi⟩ | ⟨ne, h⟩
    · rw [e1, hs] at hu
      cases hu
    · rw [List.getElem?_set_ne ne]
      exact r.cel j u h hu
  · rcases set_of h1 with ⟨rfl, e1, hi⟩ | ⟨n1, h1⟩
    · rw [e1, hs] at hu
      cases hu
    · rcases set_of h2 with ⟨rfl, e1, hi⟩ | ⟨n2, h2⟩
      · rw [e1, hs] at hv
        cases hv
      · rw [List.getElem?_set_ne n1] at h3
        rw [List.getElem?_set_ne n2] at h4
        exact r.injA j k u v l h1 h2 hu hv h3 h4
theorem Rp.setD (r : Rp ob env δ W) (i : Nat) (d : PyData) : Rp ob (env.set i (.dat d)) (δ.set i (.dat d)) W := r.setN i _ _ rfl (fun _ e => by cases e; rfl) (fun _ e => nomatch e)
theorem Rp.setU (r : Rp ob env δ W) (i : Nat) : Rp ob (env.set i .unk) (δ.set i .unk) W := r.setN i _ _ rfl (fun _ e => nomatch e) (fun _ e => nomatch e)
theorem Rp.wipe (r : Rp ob env δ W) : ∀ vs : List Nat, Rp ob (wipeX env vs) (wipeD δ vs) W
  | [] => r
  | v :: vs => (Rp.wipe r vs).setU v
theorem Rp.newS (r : Rp ob env δ W) (h : ∀ c, (l, c) ∉ W) (i : Nat) (s : Sl) (c : OC) (hs : isOwn s = true) (hc : okS s l c) : Rp ob (env.set i s) (δ.set i (.ref l)) ((l, c) :: W) := by
  have key : ∀ (j : Nat) (u : Sl) (l' : Addr), env[j]? = some u → isOwn u = true → δ[j]? = some (.ref l') → l' ≠ l := fun j u l' h1 hu h3 e => by
    obtain ⟨l2, c2, a, b, _⟩ := r.cel j u h1 hu
    rw [h3] at a
    cases a
    subst e
    exact h _ b
  refine ⟨by rw [List.length_set, List.length_set, r.len], fun j e h => ?_, fun j o h => ?_, fun j u h hu => ?_, fun j k u v l' h1 h2 hu hv h3 h4 => ?_⟩
  · rcases set_of h with ⟨rfl, e1, hi⟩ | ⟨ne, h⟩
    · rw [← e1] at hs
      cases hs
    · rw [List.getElem?_set_ne ne]
      exact r.dat j e h
  · rcases set_of h with ⟨rfl, e1, hi⟩ | ⟨ne, h⟩
    · rw [← e1] at hs
      cases hs
    · rw [List.getElem?_set_ne ne]
      exact r.box j o h
  · rcases set_of h with ⟨rfl, e1, hi⟩ | ⟨ne, h⟩
    · subst e1
      exact ⟨l, c, List.getElem?_set_self (by rw [r.len]; exact hi), List.mem_cons_self .., hc⟩
    · rw [List.getElem?_set_ne ne]
      obtain ⟨l', c', a, b, o⟩ := r.cel j u h hu
      exact ⟨l', c', a, List.mem_cons_of_mem _ b, o⟩
  · rcases set_of h1 with ⟨rfl, e1, hi⟩ | ⟨n1, h1⟩
    · rw [List.getElem?_set_self (by rw [r.len]; exact hi)] at h3
      cases h3
      rcases set_of h2 with ⟨rfl, e1, hi⟩ | ⟨n2, h2⟩
      · rfl
      · rw [List.getElem?_set_ne n2] at h4
        exact absurd rfl (key k v l h2 hv h4)
    · rw [List.getElem?_set_ne n1] at h3
      rcases set_of h2 with ⟨rfl, e1, hi⟩ | ⟨n2, h2⟩
      · rw [List.getElem?_set_self (by rw [r.len]; exact hi)] at h4
        cases h4
        exact absurd rfl (key j u l h1 hu h3)
      · rw [List.getElem?_set_ne n2] at h4
        exact r.injA j k u v l' h1 h2 hu hv h3 h4
theorem Rp.new (r : Rp ob env δ W) (h : ∀ c, (l, c) ∉ W) (i : Nat) (ds : List PyData) : Rp ob (env.set i (.own ds)) (δ.set i (.ref l)) ((l, .lst ds) :: W) := r.newS h i _ _ rfl rfl
theorem Rp.newT {C : Addr} (r : Rp ob env δ W) (h : ∀ c, (l, c) ∉ W) (i : Nat) (ds : List PyData) : Rp ob (env.set i (.tab ds)) (δ.set i (.ref l)) ((l, .tab C ds) :: W) := r.newS h i _ _ rfl ⟨C, rfl⟩
theorem Rp.newX (r : Rp ob env δ W) (h : ∀ c, (l, c) ∉ W) (i : Nat) (kvs : List (List Int × PyData)) : Rp ob (env.set i (.dct kvs)) (δ.set i (.ref l)) ((l, .dct l kvs) :: W) := r.newS h i _ _ rfl rfl
theorem Rp.putS {j : Nat} {s : Sl} {c : OC} (r : Rp ob env δ W) (h : env[i]? = some s) (hs : isOwn s = true) (hl : δ[i]? = some (.ref l)) (hW : W[j]? = some (l, c)) (s' : Sl) (c' : OC) (hs' : isOwn s' = true) (hc' : okS s' l c') : Rp ob (env.set i s') δ (W.set j (l, c')) := by
  have hj : j < W.length := (List.getElem?_eq_some_iff.mp hW).1
  refine ⟨by rw [List.length_set, r.len], fun k e h => ?_, fun k o h => ?_, fun k u h2 hu => ?_, fun a b u v l' h1 h2 hu hv h3 h4 => ?_⟩
  · rcases set_of h with ⟨rfl, e1, hi⟩ | ⟨ne, h⟩
    · rw [← e1] at hs'
      cases hs'
    · exact r.dat k e h
  · rcases set_of h with ⟨rfl, e1, hi⟩ | ⟨ne, h⟩
    · rw [← e1] at hs'
      cases hs'
    · exact r.box k o h
  · rcases set_of h2 with ⟨rfl, e1, hi⟩ | ⟨ne, h2⟩
    · subst e1
      exact ⟨l, c', hl, List.mem_of_getElem? (List.getElem?_set_self hj), hc'⟩
    · obtain ⟨l', c2, a, b, o⟩ := r.cel k u h2 hu
      refine ⟨l', c2, a, ?_, o⟩
      obtain ⟨m, hm⟩ := List.mem_iff_getElem?.mp b
      by_cases e : j = m
      · subst e
        rw [hW] at hm
        cases hm
        exact absurd (r.injA i k _ _ l h h2 hs hu hl a) ne
      · exact List.mem_of_getElem? (by rw [List.getElem?_set_ne e]; exact hm)
  · have fix : ∀ (a : Nat) (u : Sl), (env.set i s')[a]? = some u → isOwn u = true → ∃ f, env[a]? = some f ∧ isOwn f = true := fun a u h1 hu => by
      rcases set_of h1 with ⟨rfl, e1, hi⟩ | ⟨ne, h1⟩
      · exact ⟨_, h, hs⟩
      · exact ⟨_, h1, hu⟩
    obtain ⟨f1, g1, o1⟩ := fix a u h1 hu
    obtain ⟨f2, g2, o2⟩ := fix b v h2 hv
    exact r.injA a b f1 f2 l' g1 g2 o1 o2 h3 h4
theorem Rp.put {j : Nat} (r : Rp ob env δ W) (h : env[i]? = some (.own ds)) (hl : δ[i]? = some (.ref l)) (hW : W[j]? = some (l, .lst ds)) (es : List PyData) : Rp ob (env.set i (.own es)) δ (W.set j (l, .lst es)) := r.putS h rfl hl hW _ _ rfl rfl
theorem Rp.putT {j : Nat} {C : Addr} (r : Rp ob env δ W) (h : env[i]? = some (.tab ds)) (hl : δ[i]? = some (.ref l)) (hW : W[j]? = some (l, .tab C ds)) (es : List PyData) : Rp ob (env.set i (.tab es)) δ (W.set j (l, .tab C es)) := r.putS h rfl hl hW _ _ rfl ⟨C, rfl⟩
theorem Rp.putX {j : Nat} {kvs : List (List Int × PyData)} (r : Rp ob env δ W) (h : env[i]? = some (.dct kvs)) (hl : δ[i]? = some (.ref l)) (hW : W[j]? = some (l, .dct l kvs)) (es : List (List Int × PyData)) : Rp ob (env.set i (.dct es)) δ (W.set j (l, .dct l es)) := r.putS h rfl hl hW _ _ rfl rfl
theorem Rp.frzS {j : Nat} {s : Sl} {c : OC} (r : Rp ob env δ W) (h : env[i]? = some s) (hs : isOwn s = true) (hl : δ[i]? = some (.ref l)) (hW : W[j]? = some (l, c)) (d : PyData) : Rp ob (env.set i (.dat d)) (δ.set i (.dat d)) (W.eraseIdx j) := by
  have r1 := r.setD i d
  refine ⟨r1.len, r1.dat, r1.box, fun k u h2 hu => ?_, r1.injA⟩
  rcases set_of h2 with ⟨rfl, e1, hi⟩ | ⟨ne, h2⟩
  · rw [e1] at hu
    cases hu
  · rw [List.getElem?_set_ne ne]
    obtain ⟨l', c2, a, b, o⟩ := r.cel k u h2 hu
    refine ⟨l', c2, a, ?_, o⟩
    obtain ⟨m, hm⟩ := List.mem_iff_getElem?.mp b
    by_cases e : m = j
    · subst e
      rw [hW] at hm
      cases hm
      exact absurd (r.injA i k _ _ l h h2 hs hu hl a) ne
    · exact List.mem_eraseIdx_iff_getElem?.mpr ⟨m, e, hm⟩
theorem Rp.frz {j : Nat} (r : Rp ob env δ W) (h : env[i]? = some (.own ds)) (hl : δ[i]? = some (.ref l)) (hW : W[j]? = some (l, .lst ds)) : Rp ob (env.set i (.dat (.list ds))) (δ.set i (.dat (.list ds))) (W.eraseIdx j) := r.frzS h rfl hl hW _
theorem Rp.frzT {j : Nat} {C : Addr} (r : Rp ob env δ W) (h : env[i]? = some (.tab ds)) (hl : δ[i]? = some (.ref l)) (hW : W[j]? = some (l, .tab C ds)) : Rp ob (env.set i (.dat (obT ds))) (δ.set i (.dat (obT ds))) (W.eraseIdx j) := r.frzS h rfl hl hW _
theorem Rp.frzX {j : Nat} {kvs : List (List Int × PyData)} (r : Rp ob env δ W) (h : env[i]? = some (.dct kvs)) (hl : δ[i]? = some (.ref l)) (hW : W[j]? = some (l, .dct l kvs)) : Rp ob (env.set i (.dat (dctD kvs))) (δ.set i (.dat (dctD kvs))) (W.eraseIdx j) := r.frzS h rfl hl hW _
end
def Sm {α ω : Type} (K : PySem.W.Frag) (ob : Option Bo) (tr : L2.St → Hp → (ω → Hp → Prop) → Prop) (rel : Hp → ω → α → Prop) (env : En) (t : Dr α) : Prop :=
  ∀ δ W n Φ, Rp ob env δ W → t.ok n Φ → ∀ σ G H, SlD K G σ δ → Wd (ows K (mS ob) W) n G H → ∀ Q : ω → Hp → Prop, (∀ v a n' G2 H2, Mv (mS ob).M G H G2 H2 → Wd (ows K (mS ob) W) n' G2 H2 → rel G2 v a → Φ a n' → Q v H2) → tr σ H Q
abbrev SE (K : PySem.W.Frag) (ob : Option Bo) (te : TE) (env : En) (t : Dr PyData) : Prop := Sm K ob te (fun G v d => DD K G v d) env t
abbrev SA (K : PySem.W.Frag) (ob : Option Bo) (ta : TA) (env : En) (t : Dr (List PyData)) : Prop := Sm K ob ta (fun G vs ds => DDs K G vs ds) env t
abbrev ST (K : PySem.W.Frag) (ob : Option Bo) (tt : TT) (env : En) (t : Dr Bool) : Prop := Sm K ob tt (fun _ c q => c = q) env t
abbrev SO (K : PySem.W.Frag) (ob : Option Bo) (to : TO) (env : En) (t : Dr (Option Int)) : Prop := Sm K ob to (fun _ c q => c = q) env t
def SF (K : PySem.W.Frag) (ob : Option Bo) (tr : TE) (env : En) (t : Dr (List PyData)) : Prop :=
  ∀ δ W n Φ, Rp ob env δ W → t.ok n Φ → ∀ σ G H, SlD K G σ δ → Wd (ows K (mS ob) W) n G H → ∀ Q : VK, (∀ l xs ds n' G2 H2, Mv (mS ob).M G H G2 H2 → Wd (ows K (mS ob) W) n' G2 H2 → H l = none → G2 l = none → H2 l = some (.lst xs) → DDs K G2 xs ds → Φ ds n' → Q (.ref l) H2) → tr σ H Q
abbrev SI (K : PySem.W.Frag) (ob : Option Bo) (ti : TI) (env : En) (t : Dr (List PyData)) : Prop := Sm K ob ti (fun G J its => Wk K G J its) env t
def Tgs (K : PySem.W.Frag) (g : TGs) (ds : List PyData) (δ δ' : List SD) (vs : List Nat) : Prop :=
  ∀ xs σ G H, SlD K G σ δ → DDs K G xs ds → (∀ a o, G a = some o → H a = some o) → ∀ Q : L2.St → Hp → Prop, (∀ σ2, SlD K G σ2 δ' → wipe σ2 vs = wipe σ vs → Q σ2 H) → g xs σ H Q
theorem wipe_more (σ σ2 : L2.St) (hl : σ.length = σ2.length) (vs us : List Nat) (hs : ∀ i ∈ vs, i ∈ us) (h : wipe σ2 vs = wipe σ vs) : wipe σ2 us = wipe σ us := by
  refine List.ext_getElem? fun j => ?_
  by_cases hj : j < σ.length
  · by_cases hm : j ∈ us
    · rw [wipe_get _ us j (by omega) hm, wipe_get σ us j hj hm]
    · rw [wipe_out hm, wipe_out hm]
      have n : j ∉ vs := fun z => hm (hs j z)
      have := congrArg (fun l : L2.St => l[j]?) h
      simp only [wipe_out n] at this
      exact this
  · rw [List.getElem?_eq_none (by rw [wipe_length]; omega), List.getElem?_eq_none (by rw [wipe_length]; omega)]
section
variable {K : PySem.W.Frag} {ob : Option Bo} {W : Own}
theorem SlD.len {G : Hp} {σ : L2.St} {δ : List SD} (q : SlD K G σ δ) : σ.length = δ.length := q.1
mutual
theorem sG : ∀ (g : Tt) {env env' : En} {d : PyData} {δ : List SD}, g.put env d = some env' → Rp ob env δ W → ∃ δ', Rp ob env' δ' W ∧ δ'.length = δ.length ∧ Tg K (tG K g) d δ δ' g.vs
  | .nm i, env, env', d, δ, h, r => by
    cases h
    exact ⟨_, r.setD i d, by rw [List.length_set], tg_name⟩
  | .tp ts, env, env', d, δ, h, r => by
    cases d with
    | tuple ds =>
      obtain ⟨δ', r', hl, n, t⟩ := sGs ts (show ts.puts env ds = some env' from h) r
      refine ⟨δ', r', hl, fun x σ G H q hx hs Q hQ => ?_⟩
      cases hx with
      | @tup a xs _ hh tt => exact .inl ⟨a, xs, rfl, (sqm hs hh), by rw [tt.len]; exact n, t xs σ G H q tt hs Q hQ⟩
    | none => cases h
    | bool _ => cases h
    | int _ => cases h
    | str _ => cases h
    | list ds =>
      obtain ⟨δ', r', hl, n, t⟩ := sGs ts (show ts.puts env ds = some env' from h) r
      refine ⟨δ', r', hl, fun x σ G H q hx hs Q hQ => ?_⟩
      cases hx with
      | @lst a xs _ hh tt => exact .inr ⟨a, xs, rfl, .inl (.inl (hs _ _ hh)), by rw [tt.len]; exact n, t xs σ G H q tt hs Q hQ⟩
    | dict _ => cases h
theorem sGs : ∀ (g : Ts) {env env' : En} {ds : List PyData} {δ : List SD}, g.puts env ds = some env' → Rp ob env δ W → ∃ δ', Rp ob env' δ' W ∧ δ'.length = δ.length ∧ ds.length = g.len ∧ Tgs K (tGs K g) ds δ δ' g.vs
  | .nil, env, env', ds, δ, h, r => by
    cases ds with
    | nil =>
      cases h
      refine ⟨δ, r, rfl, rfl, fun xs σ G H q hx hs Q hQ => ?_⟩
      cases hx
      exact ⟨rfl, hQ σ q rfl⟩
    | cons d ds => cases h
  | .cons t g, env, env', ds, δ, h, r => by
    cases ds with
    | nil => cases h
    | cons d ds =>
      obtain ⟨env1, h1, h2⟩ := Option.bind_eq_some_iff.mp (show (t.put env d).bind _ = some env' from h)
      obtain ⟨δ1, r1, l1, t1⟩ := sG t h1 r
      obtain ⟨δ2, r2, l2, n2, t2⟩ := sGs g h2 r1
      refine ⟨δ2, r2, l2.trans l1, congrArg Nat.succ n2, fun xs σ G H q hx hs Q hQ => ?_⟩
      cases hx with
      | cons hx ht =>
        refine ⟨_, _, rfl, t1 _ σ G H q hx hs _ fun σ1 q1 e1 => t2 _ σ1 G H q1 ht hs _ fun σ2 q2 e2 => hQ σ2 q2 ?_⟩
        have a1 : σ.length = σ1.length := by rw [q.1, q1.1, l1]
        have a2 : σ1.length = σ2.length := by rw [q1.1, q2.1, l2]
        have b1 := wipe_more σ σ1 a1 _ (Ts.vs (.cons t g)) (fun i hi => by simp [Ts.vs, hi]) e1
        have b2 := wipe_more σ1 σ2 a2 _ (Ts.vs (.cons t g)) (fun i hi => by simp [Ts.vs, hi]) e2
        exact b2.trans b1
end
end
end DP
namespace DP
open PySem PySem.Spec PyProof.Rows L2 ZX DL RT
theorem slot_ok {env : En} {i n : Nat} {Φ : PyData → Nat → Prop} (h : (slot env i).ok n Φ) : ∃ d, env[i]? = some (.dat d) ∧ Φ d n := by
  unfold slot at h
  split at h
  · rename_i d e
    exact ⟨d, e, h⟩
  · exact h.elim
theorem dct_ok {env : En} {i n : Nat} {Φ : List (List Int × PyData) → Nat → Prop} (h : (dctAt env i).ok n Φ) : ∃ m, env[i]? = some (.dct m) ∧ Φ m n := by
  unfold dctAt at h
  split at h
  · exact ⟨_, by assumption, h⟩
  · exact h.elim
theorem kInts_map : ∀ {ds : List PyData} {k : List Int}, kInts ds = some k → ds = k.map .int
  | [], k, h => by
    cases h
    rfl
  | .int i :: r, k, h => by
    obtain ⟨k', h1, rfl⟩ := Option.map_eq_some_iff.mp (show (kInts r).map (i :: ·) = some k from h)
    rw [kInts_map h1]
    rfl
  | .none :: r, k, h => by cases h
  | .bool _ :: r, k, h => by cases h
  | .str _ :: r, k, h => by cases h
  | .list _ :: r, k, h => by cases h
  | .tuple _ :: r, k, h => by cases h
  | .dict _ :: r, k, h => by cases h
theorem keyD_ok {K : PySem.W.Frag} {G : Hp} {y : V} {d : PyData} {n : Nat} {Φ : List Int → Nat → Prop} (hy : DD K G y d) (h : (keyD d).ok n Φ) : ∃ k b, y = .ref b ∧ SqT K G b (k.map V.int) ∧ Φ k n := by
  cases d with
  | tuple ds =>
    obtain ⟨k, e, h2⟩ := Dr.ok_opt (show (Dr.opt (kInts ds)).ok n Φ from h)
    have := kInts_map e
    subst this
    cases hy with
    | @tup a xs _ hh t =>
      rw [DDs.ints t] at hh
      exact ⟨k, a, rfl, hh, h2⟩
  | none => exact h.elim
  | bool _ => exact h.elim
  | int _ => exact h.elim
  | str _ => exact h.elim
  | list _ => exact h.elim
  | dict _ => exact h.elim
theorem dget_at {K : PySem.W.Frag} {G : Hp} (k : List Int) : ∀ {L : List DX.Ent} {m : List (List Int × PyData)}, m.map (·.1) = L.map (·.1) → DDs K G (L.map (·.2.2)) (m.map (·.2)) → (DX.eget L k = none ∧ BF.dget m k = none) ∨ ∃ v d, DX.eget L k = some v ∧ BF.dget m k = some d ∧ DD K G v d
  | [], [], _, _ => .inl ⟨rfl, rfl⟩
  | [], _ :: _, h, _ => by cases h
  | _ :: _, [], h, _ => by cases h
  | x :: L, y :: m, h, t => by
    have h' := List.cons.inj (show y.1 :: m.map (·.1) = x.1 :: L.map (·.1) from h)
    cases (show DDs K G (x.2.2 :: L.map (·.2.2)) (y.2 :: m.map (·.2)) from t) with
    | cons a t =>
      unfold DX.eget
      rw [BF.dget_cons, List.find?_cons, h'.1]
      by_cases e : x.1 = k
      · rw [decide_eq_true e, if_pos e]
        exact .inr ⟨_, _, rfl, rfl, a⟩
      · rw [decide_eq_false e, if_neg e]
        exact dget_at k h'.2 t
theorem dget_is {K : PySem.W.Frag} {G : Hp} {k : List Int} {L : List DX.Ent} {m : List (List Int × PyData)} (h : m.map (·.1) = L.map (·.1)) (t : DDs K G (L.map (·.2.2)) (m.map (·.2))) : (DX.eget L k).isSome = (BF.dget m k).isSome := by
  rcases dget_at k h t with ⟨a, b⟩ | ⟨v, d, a, b, _⟩
  · rw [a, b]; rfl
  · rw [a, b]; rfl
theorem dds_rep {K : PySem.W.Frag} {G : Hp} (k : List Int) {v : V} {d : PyData} (hv : DD K G v d) : ∀ {L : List DX.Ent} {m : List (List Int × PyData)}, m.map (·.1) = L.map (·.1) → DDs K G (L.map (·.2.2)) (m.map (·.2)) → DDs K G ((L.map fun p => if p.1 = k then (p.1, p.2.1, v) else p).map (·.2.2)) ((m.map fun p => if p.1 = k then (p.1, d) else p).map (·.2))
  | [], [], _, _ => .nil
  | [], _ :: _, h, _ => by cases h
  | _ :: _, [], h, _ => by cases h
  | x :: L, y :: m, h, t => by
    have h' := List.cons.inj (show y.1 :: m.map (·.1) = x.1 :: L.map (·.1) from h)
    cases (show DDs K G (x.2.2 :: L.map (·.2.2)) (y.2 :: m.map (·.2)) from t) with
    | cons a t =>
      have ih := dds_rep k hv h'.2 t
      show DDs K G ((if x.1 = k then (x.1, x.2.1, v) else x).2.2 :: _) ((if y.1 = k then (y.1, d) else y).2 :: _)
      rw [h'.1]
      by_cases e : x.1 = k
      · rw [if_pos e, if_pos e]
        exact .cons hv ih
      · rw [if_neg e, if_neg e]
        exact .cons a ih
theorem dput_at {K : PySem.W.Frag} {G : Hp} {k : List Int} {b : Addr} {v : V} {d : PyData} {L : List DX.Ent} {m : List (List Int × PyData)} (hv : DD K G v d) (hb : SqT K G b (k.map V.int)) (hk : DX.Keys K G L) (h : m.map (·.1) = L.map (·.1)) (t : DDs K G (L.map (·.2.2)) (m.map (·.2))) :
    DX.Keys K G (DX.eput L k b v) ∧ (BF.dput m k d).map (·.1) = (DX.eput L k b v).map (·.1) ∧ DDs K G ((DX.eput L k b v).map (·.2.2)) ((BF.dput m k d).map (·.2)) := by
  have e := dget_is (k := k) h t
  unfold DX.eput BF.dput
  rw [e]
  split
  · refine ⟨fun p hp => ?_, ?_, dds_rep k hv h t⟩
    · obtain ⟨p', h1, rfl⟩ := List.mem_map.mp hp
      have := hk p' h1
      by_cases q : p'.1 = k
      · rw [if_pos q]; exact this
      · rw [if_neg q]; exact this
    · rw [BF.keys_rep, List.map_map, h]
      exact (List.map_congr_left fun p _ => by
        show (if p.1 = k then (p.1, p.2.1, v) else p).1 = p.1
        by_cases q : p.1 = k
        · rw [if_pos q]
        · rw [if_neg q]).symm
  · refine ⟨fun p hp => ?_, ?_, ?_⟩
    · rcases List.mem_append.mp hp with z | z
      · exact hk p z
      · rw [List.mem_singleton.mp z]; exact hb
    · rw [List.map_append, List.map_append, h]; rfl
    · rw [List.map_append, List.map_append]
      exact t.append (.cons hv .nil)
theorem own_ok {env : En} {i n : Nat} {Φ : List PyData → Nat → Prop} (h : (ownAt env i).ok n Φ) : ∃ ds, env[i]? = some (.own ds) ∧ Φ ds n := by
  unfold ownAt at h
  split at h
  · rename_i d e
    exact ⟨d, e, h⟩
  · exact h.elim
theorem obj_ok {env : En} {i n : Nat} {Φ : List PyData → Nat → Prop} (h : (objAt env i).ok n Φ) : ∃ l, env[i]? = some (.bx (some l)) ∧ Φ l n := by
  unfold objAt at h
  split at h
  · rename_i l e
    exact ⟨l, e, h⟩
  · exact h.elim
theorem box_ok {env : En} {i n : Nat} {Φ : Unit → Nat → Prop} (h : (boxAt env i).ok n Φ) : env[i]? = some (.bx none) ∧ Φ () n := by
  unfold boxAt at h
  split at h
  · rename_i e
    exact ⟨e, h⟩
  · exact h.elim
theorem small_ok {l : List PyData} {t : Dr PyData} {n : Nat} {Φ : PyData → Nat → Prop} (h : (small l t).ok n Φ) : l.length ≤ 100000 ∧ t.ok n Φ := by
  unfold small at h
  split at h
  · rename_i e
    exact ⟨e, h⟩
  · exact h.elim
theorem within_ok {us vs : List Nat} {t : Dr PyData} {n : Nat} {Φ : PyData → Nat → Prop} (h : (within us vs t).ok n Φ) : (∀ i ∈ us, i ∈ vs) ∧ t.ok n Φ := by
  unfold within at h
  split at h
  · rename_i e
    exact ⟨fun i hi => by simpa using List.all_eq_true.mp e i hi, h⟩
  · exact h.elim
theorem lc2_ok {l : List PyData} {us vs us1 vs1 : List Nat} {t : Dr PyData} {n : Nat} {Φ : PyData → Nat → Prop} (h : (if l.length ≤ 4000 ∧ us.all (vs.contains ·) = true ∧ us1.all (vs1.contains ·) = true then t else .bad).ok n Φ) : l.length ≤ 4000 ∧ (∀ i ∈ us, i ∈ vs) ∧ (∀ i ∈ us1, i ∈ vs1) ∧ t.ok n Φ := by
  split at h
  · rename_i e
    exact ⟨e.1, fun i hi => by simpa using List.all_eq_true.mp e.2.1 i hi, fun i hi => by simpa using List.all_eq_true.mp e.2.2 i hi, h⟩
  · exact h.elim
theorem yesI {σ : L2.St} {H : Hp} {A B : Hp → Prop} (h : A H) : tYes σ H (fun b H3 => if b = true then A H3 else B H3) := iteT (A := A H) (B := B H) h
theorem in_it {J : It} {n : Nat} {G : Hp → Prop} {Y : Nat → Hp → V → Hp → Prop} (w : Walk J n G Y) {g : TG} {te : TE} {σ' σ'' : L2.St} {vs : List Nat} {H1 : Hp} {D : Addr} {Nx : Hp → Prop} (Pv : Nat → Hp → Prop) (h0 : Pv 0 H1) (hG : ∀ i H, i ≤ n → Pv i H → G H)
    (hs : ∀ i x H H', i < n → Pv i H → Y i H x H' → g x σ' H' fun σ2 H2 => wipe σ2 vs = σ'' ∧ tYes σ2 H2 fun b H3 => if b = true then te σ2 H3 fun y H4 => ∃ acc, H4 D = some (.lst acc) ∧ acc.length < sizeLine ∧ Pv (i + 1) (upd H4 D (.lst (acc ++ [y]))) else Pv (i + 1) H3) (hd : ∀ H, Pv n H → Nx H) :
    ∃ W : Nat → Nat → Hp → Prop, (∃ m, W 0 m H1) ∧ ∀ i m H, W i m H →
      (J.stop i H ∧ Nx H) ∨ (J.go i H ∧ ∃ Nx1 : Hp → Prop, (∀ H', Nx1 H' → ∃ m', m' < m ∧ W (i + 1) m' H') ∧ ∀ x H', J.yld i H x H' → g x σ' H' fun σ2 H2 => wipe σ2 vs = σ'' ∧ tYes σ2 H2 fun b H3 =>
        if b = true then te σ2 H3 fun y H4 => ∃ acc, H4 D = some (.lst acc) ∧ acc.length < sizeLine ∧ Nx1 (upd H4 D (.lst (acc ++ [y]))) else Nx1 H3) := by
  refine ⟨fun i m H => m = n - i ∧ i ≤ n ∧ Pv i H, ⟨n, by simp, Nat.zero_le _, h0⟩, ?_⟩
  rintro i m H ⟨rfl, hi, p⟩
  have q := hG i H hi p
  by_cases hlt : i < n
  · refine .inr ⟨w.goes i H hlt q, Pv (i + 1), fun H' p' => ⟨n - (i + 1), by omega, rfl, hlt, p'⟩, fun x H' y => hs i x H H' hlt p (w.yields i H x H' hlt q y)⟩
  · have e : i = n := by omega
    subst e
    exact .inl ⟨w.stops H q, hd H p⟩
theorem vds_dat {K : PySem.W.Frag} {G : Hp} : ∀ {vs : List V} {ds : List PyData}, DDs K G vs ds → VDs K G vs (ds.map SD.dat)
  | _, _, .nil => .nil
  | _, _, .cons h t => .cons h (vds_dat t)
theorem owsB {K : PySem.W.Frag} {S : MS} {W : Own} {r r' : Nat} {G H G2 H2 : Hp} (w : Wd (ows K S W) r' G H) (m : Mv S.M G H G2 H2) (w2 : Wd S r G2 H2) : Wd (ows K S W) r G2 H2 := by
  obtain ⟨h1, nd, h2⟩ := w.inv
  refine ⟨m.sub, fun a ma => ?_, w2.inv, nd, fun l c hm => ?_⟩
  · rcases ma with ma | ⟨c, hm⟩
    · exact w2.no a ma
    · obtain ⟨n, o, e, q⟩ := h2 a c hm
      rw [m.old a o e]
      exact w.no a (.inr ⟨c, hm⟩)
  · obtain ⟨n, o, e, q⟩ := h2 l c hm
    exact ⟨n, o, m.kp l o e n, q.mono m.gr⟩
theorem owsD {K : PySem.W.Frag} {S : MS} {W : Own} {r : Nat} {G H : Hp} (w : Wd (ows K S W) r G H) : Wd S r G H := ⟨w.sub, fun a m => w.no a (.inl m), w.inv.1⟩
structure ObF (q : Gq) (b : Bo) (l : List PyData) : Prop where
  at_ : ∀ n G H, Wd b.ms n G H → ∃ dx fs, G b.a = some (.ins q.oC dx fs) ∧ (∀ k d, l[k]? = some d → ∃ v, fs.lookup (q.fn k) = some v ∧ DD q.K G v d ∧ NoAttr q.K q.oC (q.fn k)) ∧ ∀ k, fs.lookup (q.mn k) = none
  cls : Cls q.K q.oC
structure HB (q : Gq) (ob : Option Bo) : Prop where
  law : ∀ b, ob = some b → b.fl = none → b.ms = bx b.a
  any : q.any = true → ∀ {r : Nat} {G G' H : Hp}, (mS ob).inv r G H → (mS ob).inv r G' H
  obj : ∀ b l, ob = some b → b.fl = some l → q.fam b
  fam : ∀ b l, q.fam b → b.fl = some l → ObF q b l
theorem mv_new {M N : Addr → Prop} {G H G1 H1 G2 H2 : Hp} (m : Mv M G H G1 H1) (m2 : Mv N G1 H1 G2 H2) (h : ∀ a, N a → H a = none) : Mv M G H G2 H2 where
  gr := fun a o e => m2.gr a o (m.gr a o e)
  sub := m2.sub
  old := fun a o e => by
    obtain ⟨u, eu⟩ := m.dom a o e
    rw [m2.old a u eu, m.old a o e]
  kp := fun a o e n => m2.kp a o (m.kp a o e n) fun z => by
    rw [h a z] at e
    cases e
  dom := fun a o e => by
    obtain ⟨u, eu⟩ := m.dom a o e
    exact m2.dom a u eu
theorem in_noStr {x : V} (h : ∀ z : Str, eqV (.str z) x = false) : ∀ ss : List Str, inV x (ss.map V.str) = false
  | [] => rfl
  | z :: ss => by
    show (eqV (.str z) x || inV x (ss.map V.str)) = false
    rw [in_noStr h ss, h z]
    rfl
theorem in_strs' (z : Str) : ∀ ss : List Str, inV (.str z) (ss.map V.str) = ss.contains z
  | [] => rfl
  | x :: ss => by
    show (eqV (.str x) (.str z) || inV (.str z) (ss.map V.str)) = ((z == x) || ss.contains z)
    rw [in_strs' z ss]
    congr 1
    show (x == z) = (z == x)
    by_cases e : x = z
    · subst e
      rfl
    · rw [beq_eq_false_iff_ne.mpr e, beq_eq_false_iff_ne.mpr (Ne.symm e)]
theorem flat_strs' : ∀ ss : List Str, (ss.map V.str).all flatV = true
  | [] => rfl
  | x :: ss => by
    show (true && (ss.map V.str).all flatV) = true
    rw [flat_strs' ss]
    rfl
theorem revRg_ok {d : PyData} {n : Nat} {Φ : List PyData → Nat → Prop} (h : (revRg d).ok n Φ) : ∃ k, d = .int k ∧ k < 2 ^ 62 ∧ -(2 ^ 62) ≤ k ∧ Φ ((List.range k.toNat).reverse.map fun j => .int (j : Nat)) n := by
  unfold revRg at h
  split at h
  · split at h
    · rename_i k hc
      exact ⟨k, rfl, hc.1, hc.2, h⟩
    · exact h.elim
  · exact h.elim
theorem both_ok {l : List PyData} {us vs : List Nat} {t : Dr (List PyData)} {n : Nat} {Φ : List PyData → Nat → Prop} (h : (if l.length ≤ 100000 ∧ us.all (vs.contains ·) = true then t else .bad).ok n Φ) : l.length ≤ 100000 ∧ (∀ i ∈ us, i ∈ vs) ∧ t.ok n Φ := by
  split at h
  · rename_i hc
    refine ⟨hc.1, fun i hi => ?_, h⟩
    simpa using List.all_eq_true.mp hc.2 i hi
  · exact h.elim
theorem flatR_ok {K : PySem.W.Frag} {G : Hp} {v : V} {d : PyData} {n : Nat} {Φ : PyData → Nat → Prop} (hv : DD K G v d) (h : (flatR d).ok n Φ) : (∀ G', DD K G' v d) ∧ Φ d n := by
  cases hv with
  | non => exact ⟨fun _ => .non, h⟩
  | bl b => exact ⟨fun _ => .bl b, h⟩
  | int i => exact ⟨fun _ => .int i, h⟩
  | str x => exact ⟨fun _ => .str x, h⟩
  | lst _ _ => exact h.elim
  | tup _ _ => exact h.elim
  | obj _ _ _ => exact h.elim
  | dct _ _ _ _ _ _ => exact h.elim
theorem own_brw {K : PySem.W.Frag} {S0 : MS} {W : Own} {r j : Nat} {l : Addr} {ds : List PyData} {G H : Hp} (hG : ∀ {r G G' H}, S0.inv r G H → S0.inv r G' H) (w : Wd (ows K S0 W) r G H) (hW : W[j]? = some (l, .lst ds)) :
    ∃ G1, DD K G1 (.ref l) (.list ds) ∧ (∀ a o, G a = some o → G1 a = some o) ∧ Wd (ows K S0 (W.eraseIdx j)) r G1 H ∧ ∀ {n' G2 H2}, Mv S0.M G1 H G2 H2 → Wd (ows K S0 (W.eraseIdx j)) n' G2 H2 → ∃ G3, Mv S0.M G H G3 H2 ∧ Wd (ows K S0 W) n' G3 H2 := by
  obtain ⟨nM, nG, xs, hl, dd⟩ := own_lst w hW
  have hj : j < W.length := (List.getElem?_eq_some_iff.mp hW).1
  obtain ⟨h1, nd, h2⟩ := w.inv
  have g1 : ∀ a o, G a = some o → upd G l (.lst xs) a = some o := fun a o e => by
    rw [upd_ne (ne_of_none e nG)]
    exact e
  have sub1 : ∀ a o, upd G l (.lst xs) a = some o → H a = some o := fun a o e => by
    by_cases ea : a = l
    · rw [ea, upd_same] at e
      rw [ea, ← e]
      exact hl
    · rw [upd_ne ea] at e
      exact w.sub a o e
  have hin : ∀ {a}, Own.has (W.eraseIdx j) a → W.has a := fun ⟨c, m⟩ => ⟨c, List.mem_of_mem_eraseIdx m⟩
  have hne : ∀ {a}, Own.has (W.eraseIdx j) a → a ≠ l := fun {a} ⟨c, m⟩ z => by
    subst z
    obtain ⟨i', hi', hn, e2⟩ := List.mem_eraseIdx_iff_getElem.mp m
    have e1 : (W.map (·.1))[j]'(by rw [List.length_map]; exact hj) = a := by rw [List.getElem_map, (List.getElem?_eq_some_iff.mp hW).2]
    have e3 : (W.map (·.1))[i']'(by rw [List.length_map]; exact hi') = a := by rw [List.getElem_map, e2]
    exact hn ((List.getElem_inj nd).mp (e3.trans e1.symm))
  refine ⟨upd G l (.lst xs), DD.lst upd_same (dd.mono g1), g1, ?_, fun {n' G2 H2} m w2 => ?_⟩
  · refine ⟨sub1, fun a m => ?_, S0.fr h1 g1 fun _ _ _ e => e, ?_, fun l' c hm => ?_⟩
    · rcases m with m | m
      · rw [upd_ne (show a ≠ l from fun z => nM (z ▸ m))]
        exact w.no a (.inl m)
      · rw [upd_ne (hne m)]
        exact w.no a (.inr (hin m))
    · exact List.Pairwise.sublist ((List.eraseIdx_sublist W j).map _) nd
    · obtain ⟨n, o, e, q⟩ := h2 l' c (List.mem_of_mem_eraseIdx hm)
      exact ⟨n, o, e, q.mono g1⟩
  · let G3 : Hp := fun a => if a = l then none else G2 a
    have e3 : ∀ a, a ≠ l → G3 a = G2 a := fun a n => if_neg n
    have e0 : G3 l = none := if_pos rfl
    have gr3 : ∀ a o, G a = some o → G3 a = some o := fun a o e => by
      rw [e3 a (ne_of_none e nG)]
      exact m.gr a o (g1 a o e)
    have sub3 : ∀ a o, G3 a = some o → G2 a = some o := fun a o e => by
      by_cases ea : a = l
      · rw [ea, e0] at e
        cases e
      · rw [← e3 a ea]
        exact e
    have old3 : ∀ a o, H a = some o → G3 a = G a := fun a o e => by
      by_cases ea : a = l
      · rw [ea, e0, nG]
      · rw [e3 a ea, m.old a o e, upd_ne ea]
    refine ⟨G3, ⟨gr3, fun a o e => m.sub a o (sub3 a o e), old3, m.kp, m.dom⟩, fun a o e => w2.sub a o (sub3 a o e), fun a ha => ?_, ?_, nd, fun l' c hm => ?_⟩
    · obtain ⟨o, eo⟩ := (ows K S0 W).dom w.inv ha
      rw [old3 a o eo]
      exact w.no a ha
    · exact hG w2.inv.1
    · obtain ⟨n, o, e, q⟩ := h2 l' c hm
      exact ⟨n, o, m.kp l' o e n, q.mono gr3⟩
theorem asLst_ok {d : PyData} {n : Nat} {Φ : List PyData → Nat → Prop} (h : (asLst d).ok n Φ) : ∃ ds, d = .list ds ∧ Φ ds n := by
  cases d with
  | list ds => exact ⟨ds, rfl, h⟩
  | tuple ds => exact h.elim
  | none => exact h.elim
  | bool _ => exact h.elim
  | int _ => exact h.elim
  | str _ => exact h.elim
  | dict _ => exact h.elim
theorem old_none {M : Addr → Prop} {G H G1 H1 : Hp} {l : Addr} (m : Mv M G H G1 H1) (h : H1 l = none) : H l = none := by
  cases e : H l with
  | none => rfl
  | some o =>
    obtain ⟨u, eu⟩ := m.dom l o e
    rw [h] at eu
    cases eu
theorem new_side {M : Addr → Prop} {S : MS} {G H G1 H1 : Hp} {n : Nat} {p : Addr} (m : Mv M G H G1 H1) (w : Wd S n G1 H1) (np : H1 p = none) (o : HO) : Mv M G H G1 (upd H1 p o) ∧ Wd S n G1 (upd H1 p o) ∧ H p = none ∧ G1 p = none := by
  have k : ∀ a u, H1 a = some u → upd H1 p o a = some u := fun a u e => by
    rw [upd_ne (ne_of_none e np)]
    exact e
  refine ⟨⟨m.gr, fun a u e => k a u (m.sub a u e), m.old, fun a u e n => k a u (m.kp a u e n), fun a u e => ?_⟩, ⟨fun a u e => k a u (w.sub a u e), w.no, S.fr w.inv (fun _ _ e => e) fun a u _ e => k a u e⟩, old_none m np, ?_⟩
  · obtain ⟨z, ez⟩ := m.dom a u e
    exact ⟨z, k a z ez⟩
  · cases e : G1 p with
    | none => rfl
    | some u =>
      rw [w.sub p u e] at np
      cases np
theorem isCl_ok {c : Nat} {d : PyData} (h : isCl c d = true) : c < 3 ∧ ∃ ds, d = .dict [(.str (clsN c), .list ds)] := by
  unfold isCl at h
  split at h
  · rename_i nm ds
    rw [Bool.and_eq_true] at h
    obtain ⟨h1, h2⟩ := h
    rw [← of_decide_eq_true h2]
    exact ⟨of_decide_eq_true h1, ds, rfl⟩
  · cases h
theorem clR_no (c k : Nat) : ∀ x ∈ clN (clsN c), (x == clR c k) = false := by
  have key : ∀ (c : Nat) (m : Str), (clN (clsN c)).all (fun x => !(x == m)) = true → ∀ x ∈ clN (clsN c), (x == m) = false := fun c m h x hx => by
    have := List.all_eq_true.mp h x hx
    simpa using this
  match c with
  | 0 => match k with
    | 0 | 1 | 2 | 3 | 4 | 5 | 6 | 7 | 8 | 9 | 10 | 11 => exact key _ _ (by decide +kernel)
    | k + 12 => exact key 0 "lengthened" (by decide +kernel)
  | 1 => match k with
    | 0 | 1 | 2 | 3 | 4 | 5 | 6 | 7 | 8 | 9 | 10 | 11 | 12 | 13 | 14 | 15 | 16 | 17 | 18 => exact key _ _ (by decide +kernel)
    | k + 19 => exact key 1 "twin" (by decide +kernel)
  | c + 2 => exact key 2 "do" (by decide +kernel)
theorem cl_get {K : PySem.W.Frag} {G : Hp} {v : V} {d : PyData} {nm : Str} {ds : List PyData} (h : DD K G v d) (e : d = .dict [(.str nm, .list ds)]) : ∃ a C dx fs, v = .ref a ∧ G a = some (.ins C dx fs) ∧ ClC K C nm ∧ fs.map (·.1) = (clN nm).take fs.length := by
  cases h with
  | @obj a o m vs ds hG hO ht =>
    cases hO with
    | @cl C dx fs nm' hC hn =>
      cases e
      exact ⟨a, C, dx, fs, rfl, hG, hC, hn⟩
    | tb _ _ => cases e
    | dk => cases e
    | er _ _ _ => cases e
  | dct _ _ _ e2 _ _ => cases e
  | non => cases e
  | bl _ => cases e
  | int _ => cases e
  | str _ => cases e
  | lst _ _ => cases e
  | tup _ _ => cases e
theorem Wd_fresh {S : MS} {r : Nat} {G H : Hp} {l : Addr} {o : HO} (x : Wd S r G H) (nl : H l = none) : Wd S r G (upd H l o) where
  sub := fun a u e => by
    rw [upd_ne (ne_of_none (x.sub a u e) nl)]
    exact x.sub a u e
  no := x.no
  inv := S.fr x.inv (fun _ _ e => e) fun a u _ e => by
    rw [upd_ne (ne_of_none e nl)]
    exact e
theorem lent_side {S : MS} {M : Addr → Prop} {n1 n2 : Nat} {G1 H1 G2 H2 : Hp} {l : Addr} {o : HO} (hM : ∀ a, M a → S.M a) (w1 : Wd S n1 G1 H1) (nl : H1 l = none) (m3 : Mv M G1 (upd H1 l o) G2 H2) (w3 : Wd S n2 G2 H2) : H2 l = some o ∧ G2 l = none ∧ ∀ G4 H4, Mo l G2 H2 G4 H4 → Mv M G1 H1 G4 H4 ∧ Wd S n2 G4 H4 := by
  have nM : ¬ S.M l := fun hm => by
    obtain ⟨u, e⟩ := S.dom w1.inv hm
    rw [nl] at e
    cases e
  have gl1 : G1 l = none := by
    cases e : G1 l with
    | none => rfl
    | some u =>
      have := w1.sub l u e
      rw [nl] at this
      cases this
  have hl : H2 l = some o := m3.kp l _ upd_same fun z => nM (hM l z)
  have gl : G2 l = none := by rw [m3.old l _ upd_same]; exact gl1
  refine ⟨hl, gl, fun G4 H4 m4 => ⟨⟨fun a u e => m4.gr a u (m3.gr a u e), m4.sub, fun a u e => ?_, fun a u e hm => ?_, fun a u e => ?_⟩, ⟨m4.sub, fun a ha => ?_, S.fr w3.inv m4.gr fun a u hm e => m4.kp a u e fun z => nM (z ▸ hm)⟩⟩⟩
  · have na := ne_of_none e nl
    have e' : upd H1 l o a = some u := by rw [upd_ne na]; exact e
    obtain ⟨v, e2⟩ := m3.dom a u e'
    rw [m4.old a v e2 na, m3.old a u e']
  · have na := ne_of_none e nl
    have e' : upd H1 l o a = some u := by rw [upd_ne na]; exact e
    exact m4.kp a u (m3.kp a u e' hm) na
  · have na := ne_of_none e nl
    have e' : upd H1 l o a = some u := by rw [upd_ne na]; exact e
    obtain ⟨v, e2⟩ := m3.dom a u e'
    exact m4.dom a v e2
  · have na : a ≠ l := fun z => nM (z ▸ ha)
    obtain ⟨u, e⟩ := S.dom w3.inv ha
    rw [m4.old a u e na]
    exact w3.no a ha
section
variable {q : Gq} {ob : Option Bo} (hD : HD q.K q.w q.da) (hB : HB q ob)
include hD hB
mutual
theorem sE : ∀ (e : E) (env : En), SE q.K ob (tE q e) env (evE e env)
  | .var i, env => fun δ W n Φ hR hk σ G H hq w Q hQ => by
    obtain ⟨d, e, hk⟩ := slot_ok hk
    obtain ⟨v, ev, dv⟩ := hq.dat (hR.dat i d e)
    exact ⟨v, ev, hQ v d n G H (Mv.refl w.sub) w dv hk⟩
  | .con c, env => fun δ W n Φ hR hk σ G H hq w Q hQ => hQ c.v c.d n G H (Mv.refl w.sub) w (c.ok q.K G) hk
  | .op o a b, env => fun δ W n Φ hR hk σ G H hq w Q hQ => by
    refine sE a env δ W n _ hR (Dr.ok_bind.mp hk) σ G H hq w _ fun v d n1 G1 H1 m1 w1 hv hk1 => ?_
    refine sE b env δ W n1 _ hR (Dr.ok_bind.mp hk1) σ G1 H1 (hq.mono m1.gr) w1 _ fun u e n2 G2 H2 m2 w2 hu hk2 => ?_
    obtain ⟨z, ez, hk3⟩ := Dr.ok_opt hk2
    refine o.ok q.K d e z ez v u G2 H2 (hv.mono m2.gr) hu w2.sub Q fun y s G3 H3 m3 hy hs => ?_
    subst hs
    exact hQ y z n2 G3 H3 ((m1.trans m2).trans (m3.weak fun _ f => f.elim)) (w2.pure m3) hy hk3
  | .un o a, env => fun δ W n Φ hR hk σ G H hq w Q hQ => by
    refine sE a env δ W n _ hR (Dr.ok_bind.mp hk) σ G H hq w _ fun v d n1 G1 H1 m1 w1 hv hk1 => ?_
    obtain ⟨z, ez, hk3⟩ := Dr.ok_opt hk1
    exact o.ok q.K d z ez v G1 H1 hv w1.sub Q fun y G3 H3 m3 hy => hQ y z n1 G3 H3 (m1.trans (m3.weak fun _ f => f.elim)) (w1.pure m3) hy hk3
  | .cb o as, env => fun δ W n Φ hR hk σ G H hq w Q hQ => by
    refine sA as env δ W n _ hR (Dr.ok_bind.mp hk) σ G H hq w _ fun v d n1 G1 H1 m1 w1 hv hk1 => ?_
    obtain ⟨z, ez, hk3⟩ := Dr.ok_opt hk1
    refine o.ok q.K d z ez v G1 H1 (vds_dat hv) w1.sub Q fun y s G3 H3 m3 hy hs => ?_
    subst hs
    exact hQ y z n1 G3 H3 (m1.trans (m3.weak fun _ f => f.elim)) (w1.pure m3) hy hk3
  | .sl o e l h, env => fun δ W n Φ hR hk σ G H hq w Q hQ => by
    refine sE e env δ W n _ hR (Dr.ok_bind.mp hk) σ G H hq w _ fun v d n1 G1 H1 m1 w1 hv hk1 => ?_
    refine sP l env δ W n1 _ hR (Dr.ok_bind.mp hk1) σ G1 H1 (hq.mono m1.gr) w1 _ fun u e2 n2 G2 H2 m2 w2 hu hk2 => ?_
    refine sP h env δ W n2 _ hR (Dr.ok_bind.mp hk2) σ G2 H2 ((hq.mono m1.gr).mono m2.gr) w2 _ fun u3 e3 n3 G3 H3 m3 w3 hu3 hk3 => ?_
    obtain ⟨z, ez, hk4⟩ := Dr.ok_opt hk3
    subst hu hu3
    exact o.ok q.K d _ _ z ez v G3 H3 ((hv.mono m2.gr).mono m3.gr) w3.sub Q fun y G4 H4 m4 hy => hQ y z n3 G4 H4 (((m1.trans m2).trans m3).trans (m4.weak fun _ f => f.elim)) (w3.pure m4) hy hk4
  | .call f as, env => fun δ W n Φ hR hk σ G H hq w Q hQ => by
    refine sA as env δ W n _ hR (Dr.ok_bind.mp hk) σ G H hq w _ fun v d n1 G1 H1 m1 w1 hv hk1 => ?_
    obtain ⟨z, ez, hk3⟩ := Dr.ok_pur hk1
    rw [List.append_nil]
    exact ⟨G1, d, z, w1.sub, hv, ez, fun y G3 H3 m3 hy => hQ y z n1 G3 H3 (m1.trans (m3.weak fun _ f => f.elim)) (w1.pure m3) hy hk3⟩
  | .meth k f e as, env => fun δ W n Φ hR hk σ G H hq w Q hQ => by
    show (match q.da 5 with | some C => tMeth C (tbM k) (spF q.K f) [] E0 (tE q e) (tA q as) | none => fun _ _ _ => True) σ H Q
    cases ea : q.da 5 with
    | none => trivial
    | some C =>
      refine sE e env δ W n _ hR (Dr.ok_bind.mp hk) σ G H hq w _ fun v d n1 G1 H1 m1 w1 hv hk1 => ?_
      split at hk1
      · rename_i ho
        cases hv with
        | @obj a o m vs ds hG hO ht =>
          cases hO with
          | cl _ _ => cases ho
          | dk => cases ho
          | er _ _ _ => cases ho
          | @tb C' dx fs hC hn =>
            have ec : C' = C := by
              have e1 := hC.ns
              rw [(hD.c C ea).ns] at e1
              cases e1
              rfl
            subst ec
            refine ⟨a, dx, fs, rfl, w1.sub _ _ hG, look_no hn (tbM_no k), ?_⟩
            refine sA as env δ W n1 _ hR (Dr.ok_bind.mp hk1) σ G1 H1 (hq.mono m1.gr) w1 _ fun u e n2 G2 H2 m2 w2 hu hk2 => ?_
            obtain ⟨z, ez, hk3⟩ := Dr.ok_pur hk2
            rw [List.append_nil]
            exact ⟨G2, _, z, w2.sub, .cons ((DD.tbl hG hC hn ht).mono m2.gr) hu, ez, fun y G3 H3 m3 hy => hQ y z n2 G3 H3 ((m1.trans m2).trans (m3.weak fun _ f => f.elim)) (w2.pure m3) hy hk3⟩
        | non => cases ho
        | bl _ => cases ho
        | int _ => cases ho
        | str _ => cases ho
        | lst _ _ => cases ho
        | tup _ _ => cases ho
        | dct _ _ _ _ _ _ => cases ho
      · exact hk1.elim
  | .mk f as, env => fun δ W n Φ hR hk σ G H hq w Q hQ => by
    show (match q.da 5 with | some C => tMake C (spT q.K C f) [] E0 (tA q as) | none => fun _ _ _ => True) σ H Q
    cases ea : q.da 5 with
    | none => trivial
    | some C =>
      refine sA as env δ W n _ hR (Dr.ok_bind.mp hk) σ G H hq w _ fun v d n1 G1 H1 m1 w1 hv hk1 x dx nx ndx ne => ?_
      obtain ⟨z, ez, hk2⟩ := Dr.ok_pur hk1
      rw [List.append_nil]
      exact ⟨x, dx, v, G1, H1, d, z, rfl, rfl, nx, ndx, ne, w1.sub, hv, ez, fun G2 H2 m2 hz => ⟨rfl, hQ _ z n1 G2 H2 (m1.trans (m2.weak fun _ f => f.elim)) (w1.pure m2) hz hk2⟩⟩
  | .mkD f as, env => fun δ W n Φ hR hk σ G H hq w Q hQ => by
    show (match q.da 5, q.da 12 with | some C, some dv => tMake C (spT q.K C f) [.ref dv] E0 (tA q as) | _, _ => fun _ _ _ => True) σ H Q
    cases ea : q.da 5 with
    | none => trivial
    | some C =>
      cases eb : q.da 12 with
      | none => trivial
      | some dv =>
        refine sA as env δ W n _ hR (Dr.ok_bind.mp hk) σ G H hq w _ fun v d n1 G1 H1 m1 w1 hv hk1 x dx nx ndx ne => ?_
        obtain ⟨z, ez, hk2⟩ := Dr.ok_pur hk1
        exact ⟨x, dx, v ++ [.ref dv], G1, H1, d ++ [.tuple []], z, rfl, rfl, nx, ndx, ne, w1.sub, hv.append (.cons (dv_dd hD eb G1) .nil), ez, fun G2 H2 m2 hz => ⟨rfl, hQ _ z n1 G2 H2 (m1.trans (m2.weak fun _ f => f.elim)) (w1.pure m2) hz hk2⟩⟩
  | .isx r c e, env => fun δ W n Φ hR hk σ G H hq w Q hQ => by
    show isxT q r c (tE q e) σ H Q
    unfold isxT
    cases hr : decide (r < 20) with
    | false => trivial
    | true =>
    have hr := of_decide_eq_true hr
    cases er : q.da (30 + r) with
    | none => trivial
    | some D =>
    have X := hD.xr r D hr er
    have get : ∀ {v : V} {d z : PyData} {G1 : Hp}, DD q.K G1 v d → isxF r c d = some z → ∃ a fs nm, v = .ref a ∧ XG.Kept q.K G1 a D fs ∧ nm = exN r ∧ isxV r nm c = some z := fun {v d z G1} hv hz => by
      cases hv with
      | @obj a o m vs ds hG hO ht =>
        cases hO with
        | tb _ _ => cases hz
        | cl _ _ => cases hz
        | dk => cases hz
        | @er C dd fs nm hX hd hn =>
          have hz' : (if nm = exN r then _ else none) = some z := hz
          by_cases e : nm = exN r
          · rw [if_pos e] at hz'
            have ec : C = D := by
              have e1 := hX.ns
              rw [e, X.ns] at e1
              cases e1
              rfl
            subst ec
            exact ⟨a, fs, nm, rfl, ⟨dd, hG, hd⟩, e, hz'⟩
          · rw [if_neg e] at hz'
            cases hz'
      | non => cases hz
      | bl _ => cases hz
      | int _ => cases hz
      | str _ => cases hz
      | lst _ _ => cases hz
      | tup _ _ => cases hz
      | dct _ _ _ _ _ _ => subst_vars; simp [isxF, dctD] at hz
    have up : ∀ {G1 H1 : Hp} {a : Addr} {fs : List (Str × V)}, (∀ a o, G1 a = some o → H1 a = some o) → XG.Kept q.K G1 a D fs → XG.Kept q.K H1 a D fs := fun hs ⟨dd, h1, h2⟩ => ⟨dd, hs _ _ h1, hs _ _ h2⟩
    cases c with
    | base m =>
      refine sE e env δ W n _ hR (Dr.ok_bind.mp hk) σ G H hq w _ fun v d n1 G1 H1 m1 w1 hv hk1 => ?_
      obtain ⟨z, ez, hk2⟩ := Dr.ok_opt hk1
      obtain ⟨a, fs, nm, rfl, kp, e, h3⟩ := get hv ez
      have h3' : (if m = erB nm then some (PyData.bool true) else none) = some z := h3
      by_cases em : m = erB nm
      · rw [if_pos em] at h3'
        cases h3'
        refine ⟨.ref a, .ty m, _, _, true, rfl, .ty m, .inr (.inr ⟨a, D, fs, rfl, up w1.sub kp, X.xd, rfl⟩), by rw [em, e]; exact X.kV, hQ _ (.bool true) n1 G1 H1 m1 w1 (DD.bl _) hk2⟩
      · rw [if_neg em] at h3'
        cases h3'
    | one c =>
      show (match decide (c < 20), q.da (50 + c) with
        | true, some C => tCB (DX.rIsiY q.K) (tCons (tE q e) (tCons (tC (.ref C)) tNil))
        | _, _ => fun _ _ _ => True) σ H Q
      cases hc : decide (c < 20) with
      | false => trivial
      | true =>
      have hc := of_decide_eq_true hc
      cases ec : q.da (50 + c) with
      | none => trivial
      | some C =>
      refine sE e env δ W n _ hR (Dr.ok_bind.mp hk) σ G H hq w _ fun v d n1 G1 H1 m1 w1 hv hk1 => ?_
      obtain ⟨z, ez, hk2⟩ := Dr.ok_opt hk1
      obtain ⟨a, fs, nm, rfl, kp, e, h3⟩ := get hv ez
      cases h3
      exact ⟨.ref a, .ref C, .ref D, .ref C, decide (r = c), rfl, .own C, .inr (.inr ⟨a, D, fs, rfl, up w1.sub kp, X.xd, rfl⟩), (hD.xk r D c C hr hc er ec).1, hQ _ (.bool _) n1 G1 H1 m1 w1 (DD.bl _) hk2⟩
    | two c c' =>
      show (match decide (c < 20), q.da (50 + c), decide (c' < 20), q.da (50 + c') with
        | true, some C, true, some C' => tCB (DX.rIsiTY q.K) (tCons (tE q e) (tCons (tTup (tCons (tC (.ref C)) (tCons (tC (.ref C')) tNil))) tNil))
        | _, _, _, _ => fun _ _ _ => True) σ H Q
      cases hc : decide (c < 20) with
      | false => trivial
      | true =>
      have hc := of_decide_eq_true hc
      cases ec : q.da (50 + c) with
      | none => trivial
      | some C =>
      cases hc' : decide (c' < 20) with
      | false => trivial
      | true =>
      have hc' := of_decide_eq_true hc'
      cases ec' : q.da (50 + c') with
      | none => trivial
      | some C' =>
      refine sE e env δ W n _ hR (Dr.ok_bind.mp hk) σ G H hq w _ fun v d n1 G1 H1 m1 w1 hv hk1 => ?_
      obtain ⟨z, ez, hk2⟩ := Dr.ok_opt hk1
      obtain ⟨a, fs, nm, rfl, kp, e, h3⟩ := get hv ez
      cases h3
      refine ⟨by show 2 ≤ sizeLine; decide, fun p np => ?_⟩
      have m2 := Mv.new (M := (mS ob).M) (o := .tup [V.ref C, V.ref C']) w1.sub np
      have w2 := w1.new (o := .tup [V.ref C, V.ref C']) np
      refine ⟨.ref a, p, [.ref C, .ref C'], _, [.ref C, .ref C'], decide (r = c) || decide (r = c'), rfl, upd_same, .cons (.own C) (.cons (.own C') .nil), .inr (.inr ⟨a, D, fs, rfl, up (fun b o hb => w2.sub b o (m2.gr b o hb)) kp, X.xd, rfl⟩), ?_, hQ _ (.bool _) n1 _ _ (m1.trans m2) w2 (DD.bl _) hk2⟩
      refine kitAny_cons (hD.xk r D c C hr hc er ec).1 (fun e => ?_) fun e => by rw [e]; rfl
      rw [e]
      refine kitAny_cons (r := false || decide (r = c')) (hD.xk r D c' C' hr hc' er ec').1 (fun e => ?_) fun e => by rw [e]; rfl
      rw [e]
      rfl
  | .methC c k f e as, env => fun δ W n Φ hR hk σ G H hq w Q hQ => by
    show tmC q c k f (tE q e) (tA q as) σ H Q
    unfold tmC
    cases ea : q.da (6 + c) with
    | none => trivial
    | some C =>
      refine sE e env δ W n _ hR (Dr.ok_bind.mp hk) σ G H hq w _ fun v d n1 G1 H1 m1 w1 hv hk1 => ?_
      split at hk1
      · rename_i ho
        obtain ⟨h3, ds0, ed⟩ := isCl_ok ho
        obtain ⟨a, C', dx, fs, rfl, hG, hC, hn⟩ := cl_get hv ed
        have ec : C' = C := by
          have e1 := hC.ns
          rw [(hD.r c C h3 ea).ns] at e1
          cases e1
          rfl
        subst ec
        refine ⟨a, dx, fs, rfl, w1.sub _ _ hG, look_no hn fun x hx => clR_no c k x (List.mem_of_mem_take hx), ?_⟩
        refine sA as env δ W n1 _ hR (Dr.ok_bind.mp hk1) σ G1 H1 (hq.mono m1.gr) w1 _ fun u e n2 G2 H2 m2 w2 hu hk2 => ?_
        obtain ⟨z, ez, hk3⟩ := Dr.ok_pur hk2
        rw [List.append_nil]
        exact ⟨G2, _, z, w2.sub, .cons (hv.mono m2.gr) hu, ez, fun y G3 H3 m3 hy => hQ y z n2 G3 H3 ((m1.trans m2).trans (m3.weak fun _ f => f.elim)) (w2.pure m3) hy hk3⟩
      · exact hk1.elim
  | .callO f a b c, env => fun δ W n Φ hR hk σ G H hq w Q hQ => by
    refine sE a env δ W n _ hR (Dr.ok_bind.mp hk) σ G H hq w _ fun v0 d0 n0 G0 H0 m0 w0 hv0 hk0 => ?_
    refine sE b env δ W n0 _ hR (Dr.ok_bind.mp hk0) σ G0 H0 (hq.mono m0.gr) w0 _ fun v1 d1 n1 G1 H1 m1 w1 hv1 hk1 => ?_
    obtain ⟨p, ys, ds, rfl, hs, ht, ed⟩ : ∃ p ys ds, v1 = .ref p ∧ (SqL q.K H1 p ys ∨ SqT q.K H1 p ys) ∧ DDs q.K G1 ys ds ∧ seqD d1 = .ret ds := by
      cases hv1 with
      | @lst a xs ds h t => exact ⟨a, xs, ds, rfl, .inl (.inl (.inl (w1.sub _ _ h))), t, rfl⟩
      | @tup a xs ds h t => exact ⟨a, xs, ds, rfl, .inr (sqm w1.sub h), t, rfl⟩
      | non => exact (show False from Dr.ok_bind.mp hk1).elim
      | bl _ => exact (show False from Dr.ok_bind.mp hk1).elim
      | int _ => exact (show False from Dr.ok_bind.mp hk1).elim
      | str _ => exact (show False from Dr.ok_bind.mp hk1).elim
      | dct _ _ _ _ _ _ => subst_vars; exact (show False from Dr.ok_bind.mp hk1).elim
      | obj _ _ _ => exact (show False from Dr.ok_bind.mp hk1).elim
    rw [ed] at hk1
    refine ⟨p, ys, rfl, hs, fun l nl => ?_⟩
    have w2 := Wd_fresh (l := l) (o := .lst ys) w1 nl
    refine sE c env δ W n1 _ hR (Dr.ok_bind.mp hk1) σ G1 (upd H1 l (.lst ys)) ((hq.mono m0.gr).mono m1.gr) w2 _ fun v2 d2 n2 G2 H2 m3 w3 hv2 hk3 => ?_
    obtain ⟨z, ez, hk4⟩ := Dr.ok_pur hk3
    show spO q.K f ([v0, .ref l, v2] ++ []) H2 Q E0
    rw [List.append_nil]
    obtain ⟨hl, gl, fin⟩ := lent_side (fun a h => Or.inl h) w1 nl m3 w3
    exact ⟨v0, l, v2, G2, ys, d0, ds, d2, z, rfl, w3.sub, gl, hl, ht.mono m3.gr, (hv0.mono m1.gr).mono m3.gr, hv2, ez, fun y G4 H4 m4 hy => by
      obtain ⟨m5, w5⟩ := fin G4 H4 m4
      exact hQ y z n2 G4 H4 ((m0.trans m1).trans m5) w5 hy hk4⟩
  | .xfd r e, env => fun δ W n Φ hR hk σ G H hq w Q hQ => by
    show xfdT q r (tE q e) σ H Q
    unfold xfdT
    cases hr : decide (r < 20) with
    | false => trivial
    | true =>
    have hr := of_decide_eq_true hr
    cases er : q.da (30 + r) with
    | none => trivial
    | some D =>
    have X := hD.xr r D hr er
    refine sE e env δ W n _ hR (Dr.ok_bind.mp hk) σ G H hq w _ fun v d n1 G1 H1 m1 w1 hv hk1 => ?_
    obtain ⟨z, ez, hk2⟩ := Dr.ok_opt hk1
    cases hv with
    | @obj a o m vs ds hG hO ht =>
      cases hO with
      | tb _ _ => cases ez
      | cl _ _ => cases ez
      | dk => cases ez
      | @er C dd fs nm hX hd hn =>
        have hl := ht.len
        rw [List.length_map] at hl
        cases ds with
        | nil => cases ez
        | cons x ds' =>
          cases ds' with
          | cons _ _ => cases ez
          | nil =>
            have ez' : (if nm = exN r ∧ (erF nm).length = 1 then some x else none) = some z := ez
            by_cases c : nm = exN r ∧ (erF nm).length = 1
            · rw [if_pos c] at ez'
              cases ez'
              obtain ⟨c1, c2⟩ := c
              have ec : C = D := by
                have e1 := hX.ns
                rw [c1, X.ns] at e1
                cases e1
                rfl
              subst ec
              obtain ⟨⟨f, v⟩, rfl⟩ := List.length_eq_one_iff.mp hl
              cases ht with
              | cons hx _ =>
                have ef : (erF (exN r)).getD 0 "" = f := by rw [← c1, ← hn]; rfl
                refine ⟨a, C, [(f, v)], v, rfl, ⟨dd, w1.sub _ _ hG, w1.sub _ _ hd⟩, X.xd, ?_, ?_, hQ v z n1 G1 H1 m1 w1 hx hk2⟩
                · rw [ef]
                  exact X.no f (by rw [← c1, ← hn]; exact List.mem_cons_self ..)
                · rw [ef]
                  simp [List.lookup]
            · rw [if_neg c] at ez'
              cases ez'
    | non => cases ez
    | bl _ => cases ez
    | int _ => cases ez
    | str _ => cases ez
    | lst _ _ => cases ez
    | tup _ _ => cases ez
    | dct _ _ _ _ _ _ => subst_vars; simp [xfdF, dctD] at ez
  | .isT e, env => fun δ W n Φ hR hk σ G H hq w Q hQ => by
    show (match q.da 5 with | some C => tCB (DX.rIsiY q.K) (tCons (tE q e) (tCons (tC (.ref C)) tNil)) | none => fun _ _ _ => True) σ H Q
    cases ea : q.da 5 with
    | none => trivial
    | some C =>
      refine sE e env δ W n _ hR (Dr.ok_bind.mp hk) σ G H hq w _ fun v d n1 G1 H1 m1 w1 hv hk1 => ?_
      split at hk1
      · rename_i ho
        cases hv with
        | @obj a o m vs ds hG hO ht =>
          cases hO with
          | cl _ _ => cases ho
          | dk => cases ho
          | er _ _ _ => cases ho
          | @tb C' dx fs hC hn =>
            have ec : C' = C := by
              have e1 := hC.ns
              rw [(hD.c C ea).ns] at e1
              cases e1
              rfl
            subst ec
            exact ⟨.ref a, .ref C', .ref C', .ref C', true, rfl, .own C', .inl (.base (.ins (w1.sub _ _ hG) hC.cl hC.ha hC.hn hC.htk hC.hm)), by unfold PySem.W.kitOne; rw [if_pos (by simp)], hQ _ (.bool true) n1 G1 H1 m1 w1 (DD.bl _) hk1⟩
        | non => cases ho
        | bl _ => cases ho
        | int _ => cases ho
        | str _ => cases ho
        | lst _ _ => cases ho
        | tup _ _ => cases ho
        | dct _ _ _ _ _ _ => cases ho
      · exact hk1.elim
  | .eqT no f a b, env => fun δ W n Φ hR hk σ G H hq w Q hQ => by
    show (match q.da 5 with | some C => tOp (rEqT C no (spF q.K f)) (tE q a) (tE q b) | none => fun _ _ _ => True) σ H Q
    cases ea : q.da 5 with
    | none => trivial
    | some C =>
      refine sE a env δ W n _ hR (Dr.ok_bind.mp hk) σ G H hq w _ fun v d n1 G1 H1 m1 w1 hv hk1 => ?_
      refine sE b env δ W n1 _ hR (Dr.ok_bind.mp hk1) σ G1 H1 (hq.mono m1.gr) w1 _ fun u e n2 G2 H2 m2 w2 hu hk2 => ?_
      split at hk2
      · rename_i ho
        have at_ : ∀ {v : V} {d : PyData}, isOb d = true → DD q.K G2 v d → ∃ a dx fs, v = .ref a ∧ G2 a = some (.ins C dx fs) := fun {v d} ho hv => by
          cases hv with
          | @obj a o m vs ds hG hO ht =>
            cases hO with
            | cl _ _ => cases ho
            | dk => cases ho
            | er _ _ _ => cases ho
            | @tb C' dx fs hC hn =>
              have ec : C' = C := by
                have e1 := hC.ns
                rw [(hD.c C ea).ns] at e1
                cases e1
                rfl
              subst ec
              exact ⟨a, dx, fs, rfl, hG⟩
          | non => cases ho
          | bl _ => cases ho
          | int _ => cases ho
          | str _ => cases ho
          | lst _ _ => cases ho
          | tup _ _ => cases ho
          | dct _ _ _ _ _ _ => cases ho
        have hv2 := hv.mono m2.gr
        obtain ⟨a, dx, fs, rfl, ga⟩ := at_ ho.1 hv2
        obtain ⟨b, dy, gs, rfl, gb⟩ := at_ ho.2 hu
        obtain ⟨z, ez, hk3⟩ := Dr.ok_pur (Dr.ok_bind.mp hk2)
        refine ⟨a, dx, fs, b, dy, gs, rfl, rfl, w2.sub _ _ ga, w2.sub _ _ gb, G2, _, z, w2.sub, .cons hv2 (.cons hu .nil), ez, fun y G3 H3 m3 hy => ?_⟩
        cases hy with
        | bl c => exact ⟨c, rfl, hQ _ (.bool (if no then !c else c)) n2 G3 H3 ((m1.trans m2).trans (m3.weak fun _ f => f.elim)) (w2.pure m3) (DD.bl _) hk3⟩
        | non => exact hk3.elim
        | int _ => exact hk3.elim
        | str _ => exact hk3.elim
        | lst _ _ => exact hk3.elim
        | tup _ _ => exact hk3.elim
        | obj _ _ _ => exact hk3.elim
        | dct _ _ _ _ _ _ => exact hk3.elim
      · exact hk2.elim
  | .callN f p as ks, env => fun δ W n Φ hR hk σ G H hq w Q hQ => by
    refine sA as env δ W n _ hR (Dr.ok_bind.mp hk) σ G H hq w _ fun v d n1 G1 H1 m1 w1 hv hk1 => ?_
    refine sA ks env δ W n1 _ hR (Dr.ok_bind.mp hk1) σ G1 H1 (hq.mono m1.gr) w1 _ fun u e n2 G2 H2 m2 w2 hu hk2 => ?_
    by_cases hc : d.length = p.n ∧ e.length = p.m
    · rw [if_pos hc] at hk2
      obtain ⟨z, ez, hk3⟩ := Dr.ok_pur hk2
      have hv2 := hv.mono m2.gr
      exact ⟨hv.len.trans hc.1, hu.len.trans hc.2, G2, _, z, w2.sub, p.ok q.K G2 _ _ _ _ hv2 hu hc.1 hc.2, ez, fun y G3 H3 m3 hy => hQ y z n2 G3 H3 ((m1.trans m2).trans (m3.weak fun _ f => f.elim)) (w2.pure m3) hy hk3⟩
    · rw [if_neg hc] at hk2
      exact hk2.elim
  | .callB f i as, env => fun δ W n Φ hR hk σ G H hq w Q hQ => by
    obtain ⟨hb, hk⟩ := box_ok (Dr.ok_bind.mp hk)
    obtain ⟨b, eb, ef, hδ⟩ := hR.box i _ hb
    have hl := hB.law b eb ef
    have hm : mS ob = bx b.a := by rw [eb]; exact hl
    refine ⟨_, hq.ref hδ, ?_⟩
    refine sA as env δ W n _ hR (Dr.ok_bind.mp hk) σ G H hq w _ fun v d n1 G1 H1 m1 w1 hv hk1 => ?_
    show spD q.K f ((V.ref b.a :: v) ++ []) H1 Q E0
    rw [List.append_nil]
    have wd := owsD w1
    rw [hm] at wd
    refine ⟨b.a, v, G1, d, n1, Φ, rfl, hv, wd, hk1, fun y z n2 G3 H3 m3 w3 hy hz => ?_⟩
    rw [← hm] at m3 w3
    exact hQ y z n2 G3 H3 (m1.trans m3) (owsB w1 m3 w3) hy hz
  | .fldB i k, env => fun δ W n Φ hR hk σ G H hq w Q hQ => by
    obtain ⟨l, ho, hk1⟩ := obj_ok (Dr.ok_bind.mp hk)
    obtain ⟨b, eb, ef, hδ⟩ := hR.box i _ ho
    obtain ⟨d, ed, hk2⟩ := Dr.ok_opt hk1
    have O := hB.fam b l (hB.obj b l eb ef) ef
    have wd : Wd b.ms n G H := by
      have := owsD w
      rw [eb] at this
      exact this
    obtain ⟨dx, fs, hG, hf, _⟩ := O.at_ n G H wd
    obtain ⟨v, hv, dv, na⟩ := hf k d ed
    exact ⟨_, hq.ref hδ, b.a, q.oC, dx, fs, v, rfl, w.sub _ _ hG, O.cls, na, hv, hQ v d n G H (Mv.refl w.sub) w dv hk2⟩
  | .mcall k f i as, env => fun δ W n Φ hR hk σ G H hq w Q hQ => by
    obtain ⟨l, ho, hk⟩ := obj_ok (Dr.ok_bind.mp hk)
    obtain ⟨b, eb, ef, hδ⟩ := hR.box i _ ho
    have fm := hB.obj b l eb ef
    have O := hB.fam b l fm ef
    have hm : mS ob = b.ms := by rw [eb]; rfl
    have wd := owsD w
    rw [hm] at wd
    obtain ⟨dx, fs, hG, _, hn⟩ := O.at_ n G H wd
    refine ⟨_, hq.ref hδ, b.a, dx, fs, rfl, w.sub _ _ hG, hn k, ?_⟩
    refine sA as env δ W n _ hR (Dr.ok_bind.mp hk) σ G H hq w _ fun v d n1 G1 H1 m1 w1 hv hk1 => ?_
    rw [List.append_nil]
    have wd1 := owsD w1
    rw [hm] at wd1
    refine ⟨b, l, v, G1, d, n1, Φ, rfl, fm, ef, hv, wd1, hk1, fun y z n2 G3 H3 m3 w3 hy hz => ?_⟩
    rw [← hm] at m3 w3
    exact hQ y z n2 G3 H3 (m1.trans m3) (owsB w1 m3 w3) hy hz
  | .tmp k f ini as bs, env => fun δ W n Φ hR hk σ G H hq w Q hQ => by
    refine sA as env δ W n _ hR (Dr.ok_bind.mp hk) σ G H hq w _ fun v d n1 G1 H1 m1 w1 hv hk1 x dx nx ndx ne => ?_
    obtain ⟨l, el, hk2⟩ := Dr.ok_pur (Dr.ok_bind.mp hk1)
    rw [List.append_nil]
    refine ⟨x, dx, v, G1, H1, d, l, rfl, rfl, nx, ndx, ne, w1.sub, hv, el, fun b G2 H2 ea hfam hfl m2 wbn hM => ⟨rfl, ?_⟩⟩
    have wb := wbn 0
    subst ea
    obtain ⟨dx', fs, hG, _, hm⟩ := (hB.fam b l hfam hfl).at_ 0 G2 H2 wb
    have w2 : Wd (ows q.K (mS ob) W) n1 G2 H2 := w1.pure m2
    refine ⟨b.a, dx', fs, rfl, w2.sub _ _ hG, hm k, ?_⟩
    refine sA bs env δ W n1 _ hR (Dr.ok_bind.mp hk2) σ G2 H2 ((hq.mono m1.gr).mono m2.gr) w2 _ fun u e n3 G3 H3 m3 w3 hu hk3 => ?_
    obtain ⟨z, ez, hk4⟩ := Dr.ok_pur hk3
    have dj : ∀ a, (ows q.K (mS ob) W).M a → ¬ b.ms.M a := fun a ha hb => by
      obtain ⟨o, e⟩ := (ows q.K (mS ob) W).dom w1.inv ha
      rw [hM a hb] at e
      cases e
    have wb3 : Wd b.ms 0 G3 H3 := ⟨w3.sub, fun a ha => by
      obtain ⟨o, e⟩ := b.ms.dom wb.inv ha
      rw [m3.old a o e]
      exact wb.no a ha, b.ms.fr wb.inv m3.gr fun a o ha e => m3.kp a o e fun z => dj a (.inl z) ha⟩
    rw [List.append_nil]
    refine ⟨b, l, u, G3, e, 0, (fun d' _ => d' = z), rfl, hfam, hfl, hu, wb3, (by rw [ez]; rfl), fun y z' n4 G4 H4 m4 w4 hy hz => ?_⟩
    subst hz
    have m13 : Mv (mS ob).M G1 H1 G3 H3 := (m2.weak fun _ f => f.elim).trans m3
    have m14 := mv_new m13 m4 hM
    refine hQ y z' n3 G4 H4 (m1.trans m14) ⟨m4.sub, fun a ha => ?_, (ows q.K (mS ob) W).fr w3.inv m4.gr fun a o ha e => m4.kp a o e (dj a ha)⟩ hy hk4
    obtain ⟨o, e⟩ := (ows q.K (mS ob) W).dom w1.inv ha
    rw [m14.old a o e]
    exact w1.no a ha
  | .lst as, env => fun δ W n Φ hR hk σ G H hq w Q hQ => by
    refine sA as env δ W n _ hR (Dr.ok_bind.mp hk) σ G H hq w _ fun v d n1 G1 H1 m1 w1 hv hk1 => ?_
    obtain ⟨hl, hk2⟩ := small_ok hk1
    exact ⟨Nat.le_trans (by rw [hv.len]; exact hl) (by decide), fun p np => hQ _ (.list d) n1 _ _ (m1.trans (Mv.new w1.sub np)) (w1.new np) (DD.lst upd_same (hv.mono (Mv.new (M := (ows q.K (mS ob) W).M) w1.sub np).gr)) hk2⟩
  | .tup as, env => fun δ W n Φ hR hk σ G H hq w Q hQ => by
    refine sA as env δ W n _ hR (Dr.ok_bind.mp hk) σ G H hq w _ fun v d n1 G1 H1 m1 w1 hv hk1 => ?_
    obtain ⟨hl, hk2⟩ := small_ok hk1
    exact ⟨Nat.le_trans (by rw [hv.len]; exact hl) (by decide), fun p np => hQ _ (.tuple d) n1 _ _ (m1.trans (Mv.new w1.sub np)) (w1.new np) (DD.tup (.inl (.inl upd_same)) (hv.mono (Mv.new (M := (ows q.K (mS ob) W).M) w1.sub np).gr)) hk2⟩
  | .ite c a b, env => fun δ W n Φ hR hk σ G H hq w Q hQ => by
    refine sT c env δ W n _ hR (Dr.ok_bind.mp hk) σ G H hq w _ fun v d n1 G1 H1 m1 w1 hv hk1 => ?_
    cases hv
    cases v with
    | true => exact iteT (sE a env δ W n1 _ hR hk1 σ G1 H1 (hq.mono m1.gr) w1 Q fun y z n2 G2 H2 m2 w2 hy hz => hQ y z n2 G2 H2 (m1.trans m2) w2 hy hz)
    | false => exact iteF (sE b env δ W n1 _ hR hk1 σ G1 H1 (hq.mono m1.gr) w1 Q fun y z n2 G2 H2 m2 w2 hy hz => hQ y z n2 G2 H2 (m1.trans m2) w2 hy hz)
  | .and a b, env => fun δ W n Φ hR hk σ G H hq w Q hQ => by
    refine sE a env δ W n _ hR (Dr.ok_bind.mp hk) σ G H hq w _ fun v d n1 G1 H1 m1 w1 hv hk1 => ?_
    cases hv with
    | bl c =>
      refine ⟨c, rfl, ?_⟩
      cases c with
      | true => exact iteT (sE b env δ W n1 _ hR hk1 σ G1 H1 (hq.mono m1.gr) w1 Q fun y z n2 G2 H2 m2 w2 hy hz => hQ y z n2 G2 H2 (m1.trans m2) w2 hy hz)
      | false => exact iteF (hQ _ (.bool false) n1 G1 H1 m1 w1 (.bl false) hk1)
    | non => exact hk1.elim
    | int _ => exact hk1.elim
    | str _ => exact hk1.elim
    | lst _ _ => exact hk1.elim
    | tup _ _ => exact hk1.elim
    | obj _ _ _ => exact hk1.elim
    | dct _ _ _ _ _ _ => exact hk1.elim
  | .or a b, env => fun δ W n Φ hR hk σ G H hq w Q hQ => by
    refine sE a env δ W n _ hR (Dr.ok_bind.mp hk) σ G H hq w _ fun v d n1 G1 H1 m1 w1 hv hk1 => ?_
    cases hv with
    | bl c =>
      refine ⟨c, rfl, ?_⟩
      cases c with
      | false => exact iteF (sE b env δ W n1 _ hR hk1 σ G1 H1 (hq.mono m1.gr) w1 Q fun y z n2 G2 H2 m2 w2 hy hz => hQ y z n2 G2 H2 (m1.trans m2) w2 hy hz)
      | true => exact iteT (hQ _ (.bool true) n1 G1 H1 m1 w1 (.bl true) hk1)
    | non => exact hk1.elim
    | int _ => exact hk1.elim
    | str _ => exact hk1.elim
    | lst _ _ => exact hk1.elim
    | tup _ _ => exact hk1.elim
    | obj _ _ _ => exact hk1.elim
    | dct _ _ _ _ _ _ => exact hk1.elim
  | .chain o o' a b c, env => fun δ W n Φ hR hk σ G H hq w Q hQ => by
    refine sE a env δ W n _ hR (Dr.ok_bind.mp hk) σ G H hq w _ fun v d n1 G1 H1 m1 w1 hv hk1 => ?_
    refine sE b env δ W n1 _ hR (Dr.ok_bind.mp hk1) σ G1 H1 (hq.mono m1.gr) w1 _ fun u e n2 G2 H2 m2 w2 hu hk2 => ?_
    obtain ⟨z, ez, hk3⟩ := Dr.ok_opt (Dr.ok_bind.mp hk2)
    refine o.ok q.K d e z ez v u G2 H2 (hv.mono m2.gr) hu w2.sub _ fun y s G3 H3 m3 hy hs => ?_
    subst hs
    have w3 := w2.pure m3
    have m03 := (m1.trans m2).trans (m3.weak (M' := (mS ob).M) fun _ f => f.elim)
    cases (show DD q.K G3 y z from hy) with
    | bl k =>
      refine ⟨k, rfl, ?_⟩
      cases k with
      | false => exact iteF (hQ _ (.bool false) n2 G3 H3 m03 w3 (.bl false) hk3)
      | true =>
        refine iteT (sE c env δ W n2 _ hR (Dr.ok_bind.mp hk3) σ G3 H3 (hq.mono m03.gr) w3 _ fun x5 d5 n5 G5 H5 m5 w5 h5 hk5 => ?_)
        obtain ⟨z6, ez6, hk6⟩ := Dr.ok_opt hk5
        refine o'.ok q.K e d5 z6 ez6 u x5 G5 H5 ((hu.mono m3.gr).mono m5.gr) h5 w5.sub Q fun y6 s6 G6 H6 m6 h6 e6 => ?_
        subst e6
        exact hQ y6 z6 n5 G6 H6 ((m03.trans m5).trans (m6.weak fun _ f => f.elim)) (w5.pure m6) h6 hk6
    | non => exact hk3.elim
    | int _ => exact hk3.elim
    | str _ => exact hk3.elim
    | lst _ _ => exact hk3.elim
    | tup _ _ => exact hk3.elim
    | obj _ _ _ => exact hk3.elim
    | dct _ _ _ _ _ _ => exact hk3.elim
  | .lc it g vs c e, env => fun δ W n Φ hR hk σ G H hq w Q hQ => by
    refine sI it env δ W n _ hR (Dr.ok_bind.mp hk) σ G H hq w _ fun J its n2 G2 H2 m w2 ⟨A, Y, wk, hA, hY⟩ hk1 D nD => ?_
    obtain ⟨hl, hk2'⟩ := small_ok hk1
    obtain ⟨hvs, hk2⟩ := within_ok hk2'
    have nG : G2 D = none := by
      cases e : G2 D with
      | none => rfl
      | some o =>
        rw [w2.sub D o e] at nD
        cases nD
    have nM : ¬ (ows q.K (mS ob) W).M D := fun z => by
      obtain ⟨o, e⟩ := (ows q.K (mS ob) W).dom w2.inv z
      rw [e] at nD
      cases nD
    refine lc_it wk (fun i H3 => ∃ G3 acc ds n3, Mv (mS ob).M G2 H2 G3 H3 ∧ G3 D = none ∧ H3 D = some (.lst acc) ∧ Wd (ows q.K (mS ob) W) n3 G3 H3 ∧ DDs q.K G3 acc ds ∧ ds.length ≤ i ∧ ((compr _ (its.drop i)).bind fun l => Dr.ret (.list (ds ++ l))).ok n3 Φ)
      ⟨G2, [], [], n2, (Mv.refl w2.sub).loc nD nG, nG, upd_same, w2.loc nG nM, .nil, Nat.le_refl _, hk2⟩ (fun i H3 _ ⟨G3, acc, ds, n3, m3, _⟩ => hA H3 fun a o e => m3.sub a o (m3.gr a o e)) ?_ ?_
    · rintro i x H3 H4 hi ⟨G3, acc, ds, n3, m3, n3', h3, w3, dd, el, hk3⟩ y
      have hd : its[i]? = some its[i] := List.getElem?_eq_getElem hi
      obtain ⟨G4, m4', dx⟩ := hY i its[i] G3 H3 x H4 hd m3.gr w3.sub y
      have m4 := m4'.weak (M' := (mS ob).M) fun _ f => f.elim
      have w4 := w3.pure m4'
      have n4 : G4 D = none := (m4.old D _ h3).trans n3'
      have h4 : H4 D = some (.lst acc) := m4.kp D _ h3 fun z => nM (.inl z)
      rw [List.drop_eq_getElem_cons hi] at hk3
      have hk4 := Dr.ok_bind.mp (Dr.ok_bind.mp (Dr.ok_bind.mp hk3))
      obtain ⟨env', ep, hk5⟩ := Dr.ok_opt hk4
      obtain ⟨δ', hR', hlen, tg⟩ := sG (K := q.K) g ep (hR.wipe vs)
      have q4 := hq.mono fun a o e => m4.gr a o (m3.gr a o (m.gr a o e))
      refine tg x (wipe σ vs) G4 H4 (q4.wipe vs) dx w4.sub _ fun σ2 q2 e2 => ⟨(wipe_more _ _ (by rw [q2.1, hlen, (q4.wipe vs).1]) g.vs vs hvs e2).trans (wipe_idem σ vs), ?_⟩
      refine sT c env' δ' W n3 _ hR' (Dr.ok_bind.mp hk5) σ2 G4 H4 q2 w4 _ fun b b' n5 G5 H5 m5 w5 hb hk6 => ?_
      cases hb
      have n5' : G5 D = none := (m5.old D _ h4).trans n4
      have h5 : H5 D = some (.lst acc) := m5.kp D _ h4 fun z => nM (.inl z)
      cases b with
      | true =>
        refine iteT (sE e env' δ' W n5 _ hR' (Dr.ok_bind.mp hk6) σ2 G5 H5 (q2.mono m5.gr) w5 _ fun v d n6 G6 H6 m6 w6 hv hk7 => ?_)
        have n6' : G6 D = none := (m6.old D _ h5).trans n5'
        have h6 : H6 D = some (.lst acc) := m6.kp D _ h5 fun z => nM (.inl z)
        have el2 := dd.len
        refine ⟨acc, h6, Nat.lt_of_le_of_lt (show acc.length ≤ 100000 by omega) (by decide), G6, acc ++ [v], ds ++ [d], n6, (m3.trans (m4.trans (m5.trans m6))).loc nD n6', n6', upd_same, w6.loc n6' nM, (dd.mono fun a o z => m6.gr a o (m5.gr a o (m4.gr a o z))).snoc hv, by rw [List.length_append]; show ds.length + 1 ≤ i + 1; omega, ?_⟩
        have hk8 := Dr.ok_bind.mp (show ((compr _ (its.drop (i + 1))).bind fun l => Dr.ret ((some d).toList ++ l)).ok n6 _ from hk7)
        refine Dr.ok_bind.mpr (Dr.ok_mono (fun a n h => ?_) hk8)
        show Φ (.list (ds ++ [d] ++ a)) n
        rw [List.append_assoc]
        exact h
      | false =>
        refine iteF ⟨G5, acc, ds, n5, m3.trans (m4.trans m5), n5', h5, w5, dd.mono fun a o z => m5.gr a o (m4.gr a o z), by omega, ?_⟩
        have hk8 := Dr.ok_bind.mp (show ((compr _ (its.drop (i + 1))).bind fun l => Dr.ret ((none : Option PyData).toList ++ l)).ok n5 _ from hk6)
        exact Dr.ok_bind.mpr (Dr.ok_mono (fun a n h => h) hk8)
    · rintro H3 ⟨G3, acc, ds, n3, m3, n3', h3, w3, dd, el, hk3⟩
      rw [List.drop_length] at hk3
      have hk4 : Φ (.list (ds ++ [])) n3 := hk3
      rw [List.append_nil] at hk4
      exact hQ (.ref D) (.list ds) n3 (upd G3 D (.lst acc)) H3 (m.trans (m3.know nD n3' h3)) (w3.know h3 nM) (DD.lst upd_same (dd.mono fun a o e => by
        rw [upd_ne (ne_of_none e n3')]
        exact e)) hk4
  | .lc2 it g vs it1 g1 vs1 e, env => fun δ W n Φ hR hk σ G H hq w Q hQ => by
    refine sI it env δ W n _ hR (Dr.ok_bind.mp hk) σ G H hq w _ fun J its n2 G2 H2 m w2 ⟨A, Y, wk, hA, hY⟩ hk1 D nD => ?_
    obtain ⟨hl, hvs, hv1, hk2⟩ := lc2_ok hk1
    have nG : G2 D = none := by
      cases e : G2 D with
      | none => rfl
      | some o =>
        rw [w2.sub D o e] at nD
        cases nD
    have nM : ¬ (ows q.K (mS ob) W).M D := fun z => by
      obtain ⟨o, e⟩ := (ows q.K (mS ob) W).dom w2.inv z
      rw [e] at nD
      cases nD
    let St := cstep2 (evI it1) (evE e) g g1 vs1 (wipeX env vs)
    let Pv : Nat → Hp → Prop := fun i H3 => ∃ G3 acc ds n3, Mv (mS ob).M G2 H2 G3 H3 ∧ G3 D = none ∧ H3 D = some (.lst acc) ∧ Wd (ows q.K (mS ob) W) n3 G3 H3 ∧ DDs q.K G3 acc ds ∧ ds.length ≤ 4000 * i ∧ ((compr2 St (its.drop i)).bind fun l => Dr.ret (.list (ds ++ l))).ok n3 Φ
    refine ⟨fun i m H => m = its.length - i ∧ i ≤ its.length ∧ Pv i H, ⟨its.length, by simp, Nat.zero_le _, G2, [], [], n2, (Mv.refl w2.sub).loc nD nG, nG, upd_same, w2.loc nG nM, .nil, Nat.le_refl _, hk2⟩, ?_⟩
    rintro i mm H3 ⟨rfl, hi0, p⟩
    have hA3 : A H3 := by
      obtain ⟨G3, acc, ds, n3, m3, _⟩ := p
      exact hA H3 fun a o e => m3.sub a o (m3.gr a o e)
    by_cases hi : i < its.length
    · refine .inr ⟨wk.goes i H3 hi hA3, Pv (i + 1), fun H' p' => ⟨its.length - (i + 1), by omega, rfl, hi, p'⟩, fun x H4 yl => ?_⟩
      have y := wk.yields i H3 x H4 hi hA3 yl
      obtain ⟨G3, acc, ds, n3, m3, n3', h3, w3, dd, el, hk3⟩ := p
      have hd : its[i]? = some its[i] := List.getElem?_eq_getElem hi
      obtain ⟨G4, m4', dx⟩ := hY i its[i] G3 H3 x H4 hd m3.gr w3.sub y
      have m4 := m4'.weak (M' := (mS ob).M) fun _ f => f.elim
      have w4 := w3.pure m4'
      have n4 : G4 D = none := (m4.old D _ h3).trans n3'
      have h4 : H4 D = some (.lst acc) := m4.kp D _ h3 fun z => nM (.inl z)
      rw [List.drop_eq_getElem_cons hi] at hk3
      have hk4 := Dr.ok_bind.mp (Dr.ok_bind.mp (Dr.ok_bind.mp hk3))
      obtain ⟨env', ep, hk5⟩ := Dr.ok_opt hk4
      obtain ⟨δ', hR', hlen, tg⟩ := sG (K := q.K) g ep (hR.wipe vs)
      have q4 := hq.mono fun a o e => m4.gr a o (m3.gr a o (m.gr a o e))
      refine tg x (wipe σ vs) G4 H4 (q4.wipe vs) dx w4.sub _ fun σ2 q2 e2 => ⟨(wipe_more _ _ (by rw [q2.1, hlen, (q4.wipe vs).1]) g.vs vs hvs e2).trans (wipe_idem σ vs), yesI ?_⟩
      refine sI it1 env' δ' W n3 _ hR' (Dr.ok_bind.mp hk5) σ2 G4 H4 q2 w4 _ fun J1 its1 n5 G5 H5 m5 w5 ⟨A1, Y1, wk1, hA1, hY1⟩ hk6 => ?_
      by_cases hl1 : its1.length ≤ 4000
      · rw [if_pos hl1] at hk6
        have hk6' : (compr (cstep (fun _ => .ret true) (evE e) g1 (wipeX env' vs1)) its1).ok n5 (fun a n' => ((compr2 St (its.drop (i + 1))).bind fun l => Dr.ret (a ++ l)).ok n' fun a n' => (Dr.ret (PyData.list (ds ++ a))).ok n' Φ) := hk6
        have k0 : ((compr (cstep (fun _ => .ret true) (evE e) g1 (wipeX env' vs1)) (its1.drop 0)).bind fun l1 => (compr2 St (its.drop (i + 1))).bind fun l => Dr.ret (PyData.list (ds ++ ([] ++ (l1 ++ l))))).ok n5 Φ := by
          rw [List.drop_zero]
          refine Dr.ok_bind.mpr (Dr.ok_mono (fun a n h => ?_) hk6')
          refine Dr.ok_bind.mpr (Dr.ok_mono (fun l n h => ?_) (Dr.ok_bind.mp h))
          exact (show Φ (.list (ds ++ (a ++ l))) n from h)
        have n5' : G5 D = none := (m5.old D _ h4).trans n4
        have h5 : H5 D = some (.lst acc) := m5.kp D _ h4 fun z => nM (.inl z)
        have gr5 : ∀ a o, G3 a = some o → G5 a = some o := fun a o z => m5.gr a o (m4.gr a o z)
        refine in_it wk1 (fun j H => ∃ G6 acc' es n6, (∀ a o, G5 a = some o → G6 a = some o) ∧ Mv (mS ob).M G2 H2 G6 H ∧ G6 D = none ∧ H D = some (.lst acc') ∧ Wd (ows q.K (mS ob) W) n6 G6 H ∧ DDs q.K G6 acc' (ds ++ es) ∧ es.length ≤ j ∧ ((compr (cstep (fun _ => .ret true) (evE e) g1 (wipeX env' vs1)) (its1.drop j)).bind fun l1 => (compr2 St (its.drop (i + 1))).bind fun l => Dr.ret (.list (ds ++ (es ++ (l1 ++ l))))).ok n6 Φ)
          ⟨G5, acc, [], n5, (fun _ _ e => e), m3.trans (m4.trans m5), n5', h5, w5, by rw [List.append_nil]; exact dd.mono gr5, Nat.le_refl _, k0⟩ (fun j H _ ⟨G6, _, _, _, gi, m6, _⟩ => hA1 H fun a o e => m6.sub a o (gi a o e)) ?_ ?_
        · rintro j x1 H6 H7 hj ⟨G6, acc', es, n6, mi, m6, g6, h6, w6, dd6, el6, hk7⟩ y1
          have hd1 : its1[j]? = some its1[j] := List.getElem?_eq_getElem hj
          obtain ⟨G7, m7', dx1⟩ := hY1 j its1[j] G6 H6 x1 H7 hd1 mi w6.sub y1
          have m7 := m7'.weak (M' := (mS ob).M) fun _ f => f.elim
          have w7 := w6.pure m7'
          have g7 : G7 D = none := (m7.old D _ h6).trans g6
          have h7 : H7 D = some (.lst acc') := m7.kp D _ h6 fun z => nM (.inl z)
          rw [List.drop_eq_getElem_cons hj] at hk7
          have hk8 := Dr.ok_bind.mp (Dr.ok_bind.mp (Dr.ok_bind.mp hk7))
          obtain ⟨env1, ep1, hk9⟩ := Dr.ok_opt hk8
          obtain ⟨δ1, hR1, hlen1, tg1⟩ := sG (K := q.K) g1 ep1 (hR'.wipe vs1)
          have q7 := q2.mono fun a o e => m7.gr a o (mi a o (m5.gr a o e))
          refine tg1 x1 (wipe σ2 vs1) G7 H7 (q7.wipe vs1) dx1 w7.sub _ fun σ3 q3 e3 => ⟨(wipe_more _ _ (by rw [q3.1, hlen1, (q7.wipe vs1).1]) g1.vs vs1 hv1 e3).trans (wipe_idem σ2 vs1), yesI ?_⟩
          have hk10 : ((evE e env1).bind fun v => Dr.ret (some v)).ok n6 _ := hk9
          refine sE e env1 δ1 W n6 _ hR1 (Dr.ok_bind.mp hk10) σ3 G7 H7 q3 w7 _ fun v d n8 G8 H8 m8 w8 hv hk11 => ?_
          have g8 : G8 D = none := (m8.old D _ h7).trans g7
          have h8 : H8 D = some (.lst acc') := m8.kp D _ h7 fun z => nM (.inl z)
          have el8 := dd6.len
          rw [List.length_append] at el8
          refine ⟨acc', h8, Nat.lt_of_le_of_lt (show acc'.length ≤ 16000000 by omega) (by decide), G8, acc' ++ [v], es ++ [d], n8, (fun a o z => m8.gr a o (m7.gr a o (mi a o z))), (m6.trans (m7.trans m8)).loc nD g8, g8, upd_same, w8.loc g8 nM, ?_, by rw [List.length_append]; show es.length + 1 ≤ j + 1; omega, ?_⟩
          · rw [← List.append_assoc]
            exact (dd6.mono fun a o z => m8.gr a o (m7.gr a o z)).snoc hv
          · have hk12 := Dr.ok_bind.mp (show ((compr _ (its1.drop (j + 1))).bind fun l => Dr.ret ((some d).toList ++ l)).ok n8 _ from hk11)
            refine Dr.ok_bind.mpr (Dr.ok_mono (fun a n h => ?_) hk12)
            have h' : ((compr2 St (its.drop (i + 1))).bind fun l => Dr.ret (.list (ds ++ (es ++ (([d] ++ a) ++ l))))).ok n Φ := h
            refine Dr.ok_bind.mpr (Dr.ok_mono (fun l n h => ?_) (Dr.ok_bind.mp h'))
            show Φ (.list (ds ++ (es ++ [d] ++ (a ++ l)))) n
            have e9 : ds ++ (es ++ [d] ++ (a ++ l)) = ds ++ (es ++ (([d] ++ a) ++ l)) := by simp
            rw [e9]
            exact h
        · rintro H6 ⟨G6, acc', es, n6, mi, m6, g6, h6, w6, dd6, el6, hk7⟩
          rw [List.drop_length] at hk7
          refine ⟨G6, acc', ds ++ es, n6, m6, g6, h6, w6, dd6, by rw [List.length_append]; omega, ?_⟩
          have hk8 : ((compr2 St (its.drop (i + 1))).bind fun l => Dr.ret (.list (ds ++ (es ++ ([] ++ l))))).ok n6 Φ := hk7
          refine Dr.ok_bind.mpr (Dr.ok_mono (fun l n h => ?_) (Dr.ok_bind.mp hk8))
          show Φ (.list (ds ++ es ++ l)) n
          rw [List.append_assoc]
          exact h
      · rw [if_neg hl1] at hk6
        exact hk6.elim
    · have ei : i = its.length := by omega
      subst ei
      obtain ⟨G3, acc, ds, n3, m3, n3', h3, w3, dd, el, hk3⟩ := p
      rw [List.drop_length] at hk3
      have hk4 : Φ (.list (ds ++ [])) n3 := hk3
      rw [List.append_nil] at hk4
      exact .inl ⟨wk.stops H3 hA3, hQ (.ref D) (.list ds) n3 (upd G3 D (.lst acc)) H3 (m.trans (m3.know nD n3' h3)) (w3.know h3 nM) (DD.lst upd_same (dd.mono fun a o e => by
        rw [upd_ne (ne_of_none e n3')]
        exact e)) hk4⟩
  | .gd i e, env => fun δ W n Φ hR hk σ G H hq w Q hQ => by
    show gdT q i (tE q e) σ H Q
    unfold gdT
    cases ea : q.da i with
    | none => trivial
    | some a =>
      show tE q e σ H _
      refine sE e env δ W n _ hR (Dr.ok_bind.mp hk) σ G H hq w _ fun v d n1 G1 H1 m1 w1 hv hk1 => ?_
      cases hv with
      | str z =>
        obtain ⟨y, ey, hk2⟩ := Dr.ok_opt (show (Dr.opt (gds i z)).ok n1 Φ from hk1)
        obtain ⟨u, hu, du⟩ := hD.d i a z y ea ey
        exact ⟨a, z, u, rfl, rfl, hu, hQ u y n1 G1 H1 m1 w1 (du G1) hk2⟩
      | non => exact hk1.elim
      | int _ => exact hk1.elim
      | bl _ => exact hk1.elim
      | lst _ _ => exact hk1.elim
      | tup _ _ => exact hk1.elim
      | obj _ _ _ => exact hk1.elim
      | dct _ _ _ _ _ _ => exact hk1.elim
  | .gin i e, env => fun δ W n Φ hR hk σ G H hq w Q hQ => by
    show ginT q i (tE q e) σ H Q
    unfold ginT
    cases hi : decide (i < 20) with
    | false => trivial
    | true =>
    have hi := of_decide_eq_true hi
    cases ea : q.da (10 + i) with
    | none => trivial
    | some a =>
      refine sE e env δ W n _ hR (Dr.ok_bind.mp hk) σ G H hq w _ fun v d n1 G1 H1 m1 w1 hv hk1 => ?_
      cases hv with
      | str z =>
        refine ⟨a, (gts i).map V.str, rfl, .inr (.inr (hD.t i a hi ea)), rfl, flat_strs' _, hQ _ (.bool ((gts i).contains z)) n1 G1 H1 m1 w1 ?_ hk1⟩
        show DD q.K G1 (.bl (inV (.str z) ((gts i).map V.str))) _
        rw [in_strs']
        exact DD.bl _
      | non =>
        refine ⟨a, (gts i).map V.str, rfl, .inr (.inr (hD.t i a hi ea)), rfl, flat_strs' _, hQ _ (.bool false) n1 G1 H1 m1 w1 ?_ hk1⟩
        show DD q.K G1 (.bl (inV .non ((gts i).map V.str))) _
        rw [in_noStr (fun _ => rfl) _]
        exact DD.bl _
      | int j =>
        refine ⟨a, (gts i).map V.str, rfl, .inr (.inr (hD.t i a hi ea)), rfl, flat_strs' _, hQ _ (.bool false) n1 G1 H1 m1 w1 ?_ hk1⟩
        show DD q.K G1 (.bl (inV (.int j) ((gts i).map V.str))) _
        rw [in_noStr (fun _ => rfl) _]
        exact DD.bl _
      | bl c =>
        refine ⟨a, (gts i).map V.str, rfl, .inr (.inr (hD.t i a hi ea)), rfl, flat_strs' _, hQ _ (.bool false) n1 G1 H1 m1 w1 ?_ hk1⟩
        show DD q.K G1 (.bl (inV (.bl c) ((gts i).map V.str))) _
        rw [in_noStr (fun _ => rfl) _]
        exact DD.bl _
      | lst _ _ => exact hk1.elim
      | tup _ _ => exact hk1.elim
      | obj _ _ _ => exact hk1.elim
      | dct _ _ _ _ _ _ => exact hk1.elim
  | .bm o e as, env => fun δ W n Φ hR hk σ G H hq w Q hQ => by
    refine sE e env δ W n _ hR (Dr.ok_bind.mp hk) σ G H hq w _ fun v d n1 G1 H1 m1 w1 hv hk1 => ?_
    by_cases hc : o.td d = true
    · rw [if_pos hc] at hk1
      refine ⟨o.ty_ok q.K d hc v G1 H1 hv w1.sub, sA as env δ W n1 _ hR (Dr.ok_bind.mp hk1) σ G1 H1 (hq.mono m1.gr) w1 _ fun vs ds n2 G2 H2 m2 w2 hvs hk2 => ?_⟩
      obtain ⟨z, ez, hk3⟩ := Dr.ok_opt hk2
      exact o.ok q.K d ds z ez v vs G2 H2 (hv.mono m2.gr) hvs w2.sub Q fun y G3 H3 m3 hy => hQ y z n2 G3 H3 ((m1.trans m2).trans (m3.weak fun _ f => f.elim)) (w2.pure m3) hy hk3
    · rw [if_neg hc] at hk1
      exact hk1.elim
  | .bm0 o e, env => fun δ W n Φ hR hk σ G H hq w Q hQ => by
    refine sE e env δ W n _ hR (Dr.ok_bind.mp hk) σ G H hq w _ fun v d n1 G1 H1 m1 w1 hv hk1 => ?_
    by_cases hc : o.td d = true
    · rw [if_pos hc] at hk1
      obtain ⟨z, ez, hk3⟩ := Dr.ok_opt hk1
      exact ⟨o.ty_ok q.K d hc v G1 H1 hv w1.sub, o.ok q.K d [] z ez v [] G1 H1 hv .nil w1.sub Q fun y G3 H3 m3 hy => hQ y z n1 G3 H3 (m1.trans (m3.weak fun _ f => f.elim)) (w1.pure m3) hy hk3⟩
    · rw [if_neg hc] at hk1
      exact hk1.elim
  | .osl i l h, env => fun δ W n Φ hR hk σ G H hq w Q hQ => by
    obtain ⟨ds, eo, hk1⟩ := own_ok (Dr.ok_bind.mp hk)
    obtain ⟨p, hl, hm⟩ := hR.own i ds eo
    obtain ⟨j, hW⟩ := List.mem_iff_getElem?.mp hm
    refine ⟨.ref p, hq.ref hl, sP l env δ W n _ hR (Dr.ok_bind.mp hk1) σ G H hq w _ fun u u' n1 G1 H1 m1 w1 hu hk2 => sP h env δ W n1 _ hR (Dr.ok_bind.mp hk2) σ G1 H1 (hq.mono m1.gr) w1 _ fun v v' n2 G2 H2 m2 w2 hv hk3 => ?_⟩
    cases hu
    cases hv
    obtain ⟨_, _, xs, hx, dd⟩ := own_lst w2 hW
    have cut : DDs q.K G2 (cutV xs u v) (cutD ds u v) := by
      unfold cutV cutD
      rw [dd.len]
      exact (dd.drop _).take _
    exact ⟨p, xs, rfl, .inl (.inl hx), fun z nz => hQ _ _ n2 _ _ ((m1.trans m2).trans (Mv.new w2.sub nz)) (w2.new nz) (DD.lst upd_same (cut.mono (Mv.new (M := fun _ => False) w2.sub nz).gr)) hk3⟩
  | .otup i, env => fun δ W n Φ hR hk σ G H hq w Q hQ => by
    obtain ⟨ds, eo, hk1⟩ := own_ok (Dr.ok_bind.mp hk)
    obtain ⟨p, hl, hm⟩ := hR.own i ds eo
    obtain ⟨j, hW⟩ := List.mem_iff_getElem?.mp hm
    obtain ⟨_, _, xs, hx, dd⟩ := own_lst w hW
    exact ⟨.ref p, hq.ref hl, p, xs, rfl, .inl ⟨.inl (.inl hx), fun z nz => hQ _ _ n _ _ (Mv.new w.sub nz) (w.new nz) (DD.tup (.inl (.inl upd_same)) (dd.mono (Mv.new (M := fun _ => False) w.sub nz).gr)) hk1⟩⟩
  | .olst i, env => fun δ W n Φ hR hk σ G H hq w Q hQ => by
    obtain ⟨ds, eo, hk1⟩ := own_ok (Dr.ok_bind.mp hk)
    obtain ⟨p, hl, hm⟩ := hR.own i ds eo
    obtain ⟨j, hW⟩ := List.mem_iff_getElem?.mp hm
    obtain ⟨_, _, xs, hx, dd⟩ := own_lst w hW
    exact ⟨.ref p, hq.ref hl, p, xs, rfl, .inl (.inl (.inl hx)), fun z nz => hQ _ _ n _ _ (Mv.new w.sub nz) (w.new nz) (DD.lst upd_same (dd.mono (Mv.new (M := fun _ => False) w.sub nz).gr)) hk1⟩
  | .isi o e, env => fun δ W n Φ hR hk σ G H hq w Q hQ => by
    refine sE e env δ W n _ hR (Dr.ok_bind.mp hk) σ G H hq w _ fun v d n1 G1 H1 m1 w1 hv hk1 => ?_
    obtain ⟨t, y1, y2⟩ := tyX hv w1.sub
    exact ⟨v, .ty o.n, _, _, o.kb d, rfl, .ty o.n, y1, y2 _ _ o.ty (o.ok d), hQ _ (.bool (o.kb d)) n1 G1 H1 m1 w1 (DD.bl _) hk1⟩
  | .brw i e, env => fun δ W n Φ hR hk σ G H hq w Q hQ => by
    show (match q.any with | true => tE q e | false => fun _ _ _ => True) σ H Q
    cases ha : q.any with
    | false => trivial
    | true =>
    show tE q e σ H Q
    obtain ⟨ds, eo, hk1⟩ := own_ok (Dr.ok_bind.mp hk)
    obtain ⟨l, hl, hm⟩ := hR.own i ds eo
    obtain ⟨j, hW⟩ := List.mem_iff_getElem?.mp hm
    obtain ⟨G1, d1, g1, w1, fix⟩ := own_brw (hB.any ha) w hW
    have q1 : SlD q.K G1 σ (δ.set i (.dat (.list ds))) := by
      have := (hq.mono g1).set (s := .dat (.list ds)) (v := .ref l) d1 i
      rwa [set_same_get (hq.ref hl)] at this
    refine sE e _ _ _ n _ (hR.frz eo hl hW) (Dr.ok_bind.mp hk1) σ G1 H q1 w1 Q fun v d n' G2 H2 m2 w2 hv hk2 => ?_
    obtain ⟨G3, m3, w3⟩ := fix m2 w2
    obtain ⟨dv, hk3⟩ := flatR_ok hv hk2
    exact hQ v d n' G3 H2 m3 w3 (dv G3) hk3
  | .olen i, env => fun δ W n Φ hR hk σ G H hq w Q hQ => by
    obtain ⟨ds, eo, hk1⟩ := own_ok (Dr.ok_bind.mp hk)
    obtain ⟨l, hl, hm⟩ := hR.own i ds eo
    obtain ⟨j, hW⟩ := List.mem_iff_getElem?.mp hm
    obtain ⟨_, _, xs, h, dd⟩ := own_lst w hW
    exact ⟨.ref l, hq.ref hl, l, xs, rfl, .inl (.inl (.inl h)), hQ _ (.int ds.length) n G H (Mv.refl w.sub) w (by rw [dd.len]; exact DD.int _) hk1⟩
  | .oix i e, env => fun δ W n Φ hR hk σ G H hq w Q hQ => by
    obtain ⟨ds, eo, hk1⟩ := own_ok (Dr.ok_bind.mp hk)
    obtain ⟨l, hl, hm⟩ := hR.own i ds eo
    obtain ⟨j, hW⟩ := List.mem_iff_getElem?.mp hm
    refine ⟨.ref l, hq.ref hl, ?_⟩
    refine sE e env δ W n _ hR (Dr.ok_bind.mp hk1) σ G H hq w _ fun y d n1 G1 H1 m1 w1 hy hk2 => ?_
    cases hy with
    | int k =>
      obtain ⟨z, ez, hk3⟩ := Dr.ok_opt (show (Dr.opt (atI ds k)).ok n1 Φ from hk2)
      obtain ⟨_, _, xs, h, dd⟩ := own_lst w1 hW
      obtain ⟨v, hv, dv⟩ := atI_dd dd ez
      exact ⟨l, xs, k, v, rfl, rfl, .inl (.inl h), hv, hQ v z n1 G1 H1 m1 w1 dv hk3⟩
    | non => exact hk2.elim
    | str _ => exact hk2.elim
    | bl _ => exact hk2.elim
    | lst _ _ => exact hk2.elim
    | tup _ _ => exact hk2.elim
    | obj _ _ _ => exact hk2.elim
    | dct _ _ _ _ _ _ => exact hk2.elim
  | .dIn neg i e, env => fun δ W n Φ hR hk σ G H hq w Q hQ => by
    refine sE e env δ W n _ hR (Dr.ok_bind.mp hk) σ G H hq w _ fun y d n1 G1 H1 m1 w1 hy hk1 => ?_
    obtain ⟨k, b, rfl, hT, hk2⟩ := keyD_ok hy (Dr.ok_bind.mp hk1)
    obtain ⟨m, ed, hk3⟩ := dct_ok (Dr.ok_bind.mp hk2)
    obtain ⟨l, hl, hm⟩ := hR.dct i m ed
    obtain ⟨j, hW⟩ := List.mem_iff_getElem?.mp hm
    obtain ⟨_, _, o, L, h, c, ks, ke, dd⟩ := own_dct w1 hW
    refine ⟨.ref l, (hq.mono m1.gr).ref hl, l, b, k, L, o, rfl, rfl, h, c, keys_mono w1.sub ks, sqm w1.sub hT, ?_⟩
    rw [dget_is ke dd]
    exact hQ _ _ n1 G1 H1 m1 w1 (.bl _) hk3
  | .dIx i e, env => fun δ W n Φ hR hk σ G H hq w Q hQ => by
    obtain ⟨m, ed, hk1⟩ := dct_ok (Dr.ok_bind.mp hk)
    obtain ⟨l, hl, hm⟩ := hR.dct i m ed
    obtain ⟨j, hW⟩ := List.mem_iff_getElem?.mp hm
    refine ⟨.ref l, hq.ref hl, ?_⟩
    refine sE e env δ W n _ hR (Dr.ok_bind.mp hk1) σ G H hq w _ fun y d n1 G1 H1 m1 w1 hy hk2 => ?_
    obtain ⟨k, b, rfl, hT, hk3⟩ := keyD_ok hy (Dr.ok_bind.mp hk2)
    obtain ⟨z, ez, hk4⟩ := Dr.ok_opt hk3
    obtain ⟨_, _, o, L, h, c, ks, ke, dd⟩ := own_dct w1 hW
    rcases dget_at k ke dd with ⟨_, b2⟩ | ⟨v, d2, a2, b2, dv⟩
    · rw [b2] at ez
      cases ez
    · rw [b2] at ez
      cases ez
      exact ⟨l, b, k, L, o, v, rfl, rfl, h, c, keys_mono w1.sub ks, sqm w1.sub hT, a2, hQ _ _ n1 G1 H1 m1 w1 dv hk4⟩
theorem sA : ∀ (e : A) (env : En), SA q.K ob (tA q e) env (evA e env)
  | .nil, env => fun δ W n Φ hR hk σ G H hq w Q hQ => hQ [] [] n G H (Mv.refl w.sub) w .nil hk
  | .cons e r, env => fun δ W n Φ hR hk σ G H hq w Q hQ => by
    refine sE e env δ W n _ hR (Dr.ok_bind.mp hk) σ G H hq w _ fun v d n1 G1 H1 m1 w1 hv hk1 => ?_
    refine sA r env δ W n1 _ hR (Dr.ok_bind.mp hk1) σ G1 H1 (hq.mono m1.gr) w1 _ fun u e n2 G2 H2 m2 w2 hu hk2 => ?_
    exact hQ _ (d :: e) n2 G2 H2 (m1.trans m2) w2 (.cons (hv.mono m2.gr) hu) hk2
theorem sP : ∀ (e : P) (env : En), SO q.K ob (tP q e) env (evP e env)
  | .no, env => fun δ W n Φ hR hk σ G H hq w Q hQ => hQ none none n G H (Mv.refl w.sub) w rfl hk
  | .at e, env => fun δ W n Φ hR hk σ G H hq w Q hQ => by
    refine sE e env δ W n _ hR (Dr.ok_bind.mp hk) σ G H hq w _ fun v d n1 G1 H1 m1 w1 hv hk1 => ?_
    cases hv with
    | int i => exact ⟨i, rfl, hQ _ (some i) n1 G1 H1 m1 w1 rfl hk1⟩
    | non => exact hk1.elim
    | str _ => exact hk1.elim
    | bl _ => exact hk1.elim
    | lst _ _ => exact hk1.elim
    | tup _ _ => exact hk1.elim
    | obj _ _ _ => exact hk1.elim
    | dct _ _ _ _ _ _ => exact hk1.elim
theorem sT : ∀ (e : T) (env : En), ST q.K ob (tT q e) env (evT e env)
  | .tru o e, env => fun δ W n Φ hR hk σ G H hq w Q hQ => by
    refine sE e env δ W n _ hR (Dr.ok_bind.mp hk) σ G H hq w _ fun v d n1 G1 H1 m1 w1 hv hk1 => ?_
    obtain ⟨z, ez, hk2⟩ := Dr.ok_opt hk1
    exact o.ok q.K d z ez v G1 H1 hv w1.sub Q (hQ z z n1 G1 H1 m1 w1 rfl hk2)
  | .not t, env => fun δ W n Φ hR hk σ G H hq w Q hQ => by
    refine sT t env δ W n _ hR (Dr.ok_bind.mp hk) σ G H hq w _ fun v d n1 G1 H1 m1 w1 hv hk1 => ?_
    cases hv
    exact hQ _ _ n1 G1 H1 m1 w1 rfl hk1
  | .and t u, env => fun δ W n Φ hR hk σ G H hq w Q hQ => by
    refine sT t env δ W n _ hR (Dr.ok_bind.mp hk) σ G H hq w _ fun v d n1 G1 H1 m1 w1 hv hk1 => ?_
    cases hv
    cases v with
    | true => exact iteT (sT u env δ W n1 _ hR hk1 σ G1 H1 (hq.mono m1.gr) w1 Q fun y z n2 G2 H2 m2 w2 hy hz => hQ y z n2 G2 H2 (m1.trans m2) w2 hy hz)
    | false => exact iteF (hQ false false n1 G1 H1 m1 w1 rfl hk1)
  | .or t u, env => fun δ W n Φ hR hk σ G H hq w Q hQ => by
    refine sT t env δ W n _ hR (Dr.ok_bind.mp hk) σ G H hq w _ fun v d n1 G1 H1 m1 w1 hv hk1 => ?_
    cases hv
    cases v with
    | false => exact iteF (sT u env δ W n1 _ hR hk1 σ G1 H1 (hq.mono m1.gr) w1 Q fun y z n2 G2 H2 m2 w2 hy hz => hQ y z n2 G2 H2 (m1.trans m2) w2 hy hz)
    | true => exact iteT (hQ true true n1 G1 H1 m1 w1 rfl hk1)
  | .yes, env => fun δ W n Φ hR hk σ G H hq w Q hQ => hQ true true n G H (Mv.refl w.sub) w rfl hk
  | .otru i, env => fun δ W n Φ hR hk σ G H hq w Q hQ => by
    obtain ⟨ds, eo, hk1⟩ := own_ok (Dr.ok_bind.mp hk)
    obtain ⟨l, hl, hm⟩ := hR.own i ds eo
    obtain ⟨j, hW⟩ := List.mem_iff_getElem?.mp hm
    obtain ⟨_, _, xs, h, dd⟩ := own_lst w hW
    refine ⟨.ref l, hq.ref hl, _, .inl ⟨xs, .inl (.inl h), rfl⟩, hQ _ (!ds.isEmpty) n G H (Mv.refl w.sub) w ?_ hk1⟩
    cases dd <;> rfl
  | .ite c a b, env => fun δ W n Φ hR hk σ G H hq w Q hQ => by
    refine sT c env δ W n _ hR (Dr.ok_bind.mp hk) σ G H hq w _ fun v d n1 G1 H1 m1 w1 hv hk1 => ?_
    cases hv
    cases v with
    | true => exact iteT (sT a env δ W n1 _ hR hk1 σ G1 H1 (hq.mono m1.gr) w1 Q fun y z n2 G2 H2 m2 w2 hy hz => hQ y z n2 G2 H2 (m1.trans m2) w2 hy hz)
    | false => exact iteF (sT b env δ W n1 _ hR hk1 σ G1 H1 (hq.mono m1.gr) w1 Q fun y z n2 G2 H2 m2 w2 hy hz => hQ y z n2 G2 H2 (m1.trans m2) w2 hy hz)
theorem sI : ∀ (e : I) (env : En), SI q.K ob (tI q e) env (evI e env)
  | .one o e, env => fun δ W n Φ hR hk σ G H hq w Q hQ => by
    refine sE e env δ W n _ hR (Dr.ok_bind.mp hk) σ G H hq w _ fun v d n1 G1 H1 m1 w1 hv hk1 => ?_
    obtain ⟨z, ez, hk2⟩ := Dr.ok_opt hk1
    exact o.ok q.K d z ez v G1 H1 hv w1.sub Q fun J hJ => hQ J z n1 G1 H1 m1 w1 hJ hk2
  | .many o as, env => fun δ W n Φ hR hk σ G H hq w Q hQ => by
    refine sA as env δ W n _ hR (Dr.ok_bind.mp hk) σ G H hq w _ fun v d n1 G1 H1 m1 w1 hv hk1 => ?_
    obtain ⟨z, ez, hk2⟩ := Dr.ok_opt hk1
    exact o.ok q.K d z ez v G1 H1 hv w1.sub Q fun J hJ => hQ J z n1 G1 H1 m1 w1 hJ hk2
  | .gl i, env => fun δ W n Φ hR hk σ G H hq w Q hQ => by
    show glT q i σ H Q
    unfold glT
    cases hi : decide (i < 20) with
    | false => trivial
    | true =>
    have hi := of_decide_eq_true hi
    cases ea : q.da (10 + i) with
    | none => trivial
    | some a =>
      have hT := hD.t i a hi ea
      refine ⟨a, (gts i).map V.str, rfl, .inr ⟨.inr hT, hQ _ _ n G H (Mv.refl w.sub) w ⟨fun H => SqT q.K H a ((gts i).map V.str), _, by rw [List.length_map, ← List.length_map (f := V.str)]; exact walk_tup (xs := (gts i).map V.str), fun _ _ => .inr hT, fun k d G3 H3 x H4 hd g1 g2 y => ?_⟩ hk⟩⟩
      obtain ⟨rfl, hy⟩ := y
      rw [List.getElem?_map] at hy hd
      obtain ⟨z, hz, rfl⟩ := Option.map_eq_some_iff.mp hy
      rw [hz] at hd
      cases hd
      exact ⟨G3, Mv.refl g2, .str _⟩
  | .rrg e, env => fun δ W n Φ hR hk σ G H hq w Q hQ => by
    refine sE e env δ W n _ hR (Dr.ok_bind.mp hk) σ G H hq w _ fun v d n1 G1 H1 m1 w1 hv hk1 => ?_
    obtain ⟨k, rfl, c1, c2, hk2⟩ := revRg_ok hk1
    cases hv
    refine ⟨k, rfl, by decide, by decide, c2, c1, hQ _ _ n1 G1 H1 m1 w1 ⟨_, YFn fun i => .int (0 + (((k - 0).toNat : Nat) : Int) - 1 + (i : Nat) * (-1)), ?_, fun _ _ => trivial, fun i d G3 H3 x H4 hd g1 g2 y => ?_⟩ hk2⟩
    · have e : ((List.range k.toNat).reverse.map fun j => PyData.int (j : Nat)).length = (k - 0).toNat := by simp
      rw [e]
      exact walk_rangeC
    · obtain ⟨rfl, rfl⟩ := y
      rw [List.getElem?_map] at hd
      obtain ⟨m, hm, rfl⟩ := Option.map_eq_some_iff.mp hd
      have hi : i < k.toNat := by
        have := (List.getElem?_eq_some_iff.mp hm).1
        simpa using this
      rw [List.getElem?_reverse (by simpa using hi), List.length_range, List.getElem?_range (by omega)] at hm
      cases hm
      have e : 0 + (((k - 0).toNat : Nat) : Int) - 1 + (i : Nat) * (-1) = ((k.toNat - 1 - i : Nat) : Int) := by
        rw [Int.sub_zero]
        omega
      refine ⟨G3, Mv.refl g2, ?_⟩
      show DD q.K G3 (.int (0 + (((k - 0).toNat : Nat) : Int) - 1 + (i : Nat) * (-1))) _
      rw [e]
      exact .int _
end
theorem sF : ∀ (e : FE) (env : En), SF q.K ob (tF q e) env (evF e env)
  | .lst as, env => fun δ W n Φ hR hk σ G H hq w Q hQ => by
    refine sA hD hB as env δ W n _ hR (Dr.ok_bind.mp hk) σ G H hq w _ fun vs ds n1 G1 H1 m1 w1 hv hk1 => ?_
    by_cases hl : ds.length ≤ 100000
    · rw [if_pos hl] at hk1
      refine ⟨Nat.le_trans (by rw [hv.len]; exact hl) (by decide), fun p np => ?_⟩
      obtain ⟨m2, w2, n0, g0⟩ := new_side m1 w1 np (.lst vs)
      exact hQ p vs ds n1 G1 _ m2 w2 n0 g0 upd_same hv hk1
    · rw [if_neg hl] at hk1
      exact hk1.elim
  | .op o a b, env => fun δ W n Φ hR hk σ G H hq w Q hQ => by
    refine sE hD hB a env δ W n _ hR (Dr.ok_bind.mp hk) σ G H hq w _ fun v d n1 G1 H1 m1 w1 hv hk1 => ?_
    refine sE hD hB b env δ W n1 _ hR (Dr.ok_bind.mp hk1) σ G1 H1 (hq.mono m1.gr) w1 _ fun u e n2 G2 H2 m2 w2 hu hk2 => ?_
    obtain ⟨zs, ez, hk3⟩ := Dr.ok_opt hk2
    refine o.ok q.K d e zs ez v u G2 H2 (hv.mono m2.gr) hu w2.sub Q fun xs p dd np => ?_
    obtain ⟨m3, w3, n0, g0⟩ := new_side (m1.trans m2) w2 np (.lst xs)
    exact hQ p xs zs n2 G2 _ m3 w3 n0 g0 upd_same dd hk3
  | .cb o as, env => fun δ W n Φ hR hk σ G H hq w Q hQ => by
    refine sA hD hB as env δ W n _ hR (Dr.ok_bind.mp hk) σ G H hq w _ fun vs ds n1 G1 H1 m1 w1 hv hk1 => ?_
    obtain ⟨zs, ez, hk3⟩ := Dr.ok_opt hk1
    refine o.ok q.K ds zs ez vs G1 H1 hv w1.sub Q fun xs p dd np => ?_
    obtain ⟨m3, w3, n0, g0⟩ := new_side m1 w1 np (.lst xs)
    exact hQ p xs zs n1 G1 _ m3 w3 n0 g0 upd_same dd hk3
  | .un o e, env => fun δ W n Φ hR hk σ G H hq w Q hQ => by
    refine sE hD hB e env δ W n _ hR (Dr.ok_bind.mp hk) σ G H hq w _ fun v d n1 G1 H1 m1 w1 hv hk1 => ?_
    obtain ⟨zs, ez, hk3⟩ := Dr.ok_opt hk1
    refine o.ok q.K d zs ez v G1 H1 hv w1.sub Q fun xs p dd np => ?_
    obtain ⟨m3, w3, n0, g0⟩ := new_side m1 w1 np (.lst xs)
    exact hQ p xs zs n1 G1 _ m3 w3 n0 g0 upd_same dd hk3
  | .call f as, env => fun δ W n Φ hR hk σ G H hq w Q hQ => by
    refine sA hD hB as env δ W n _ hR (Dr.ok_bind.mp hk) σ G H hq w _ fun v d n1 G1 H1 m1 w1 hv hk1 => ?_
    obtain ⟨z, ez, hk3⟩ := Dr.ok_pur (Dr.ok_bind.mp hk1)
    obtain ⟨zs, rfl, hk4⟩ := asLst_ok hk3
    show spN q.K f (v ++ []) H1 Q E0
    rw [List.append_nil]
    refine ⟨G1, d, zs, w1.sub, hv, ez, fun l xs G3 H3 m3 h1 h2 h3 h4 => hQ l xs zs n1 G3 H3 (m1.trans (m3.weak fun _ f => f.elim)) (w1.pure m3) (old_none m1 h1) h2 h3 h4 hk4⟩
  | .callN f p as ks, env => fun δ W n Φ hR hk σ G H hq w Q hQ => by
    refine sA hD hB as env δ W n _ hR (Dr.ok_bind.mp hk) σ G H hq w _ fun v d n1 G1 H1 m1 w1 hv hk1 => ?_
    refine sA hD hB ks env δ W n1 _ hR (Dr.ok_bind.mp hk1) σ G1 H1 (hq.mono m1.gr) w1 _ fun u e n2 G2 H2 m2 w2 hu hk2 => ?_
    by_cases hc : d.length = p.n ∧ e.length = p.m
    · rw [if_pos hc] at hk2
      obtain ⟨z, ez, hk3⟩ := Dr.ok_pur (Dr.ok_bind.mp hk2)
      obtain ⟨zs, rfl, hk4⟩ := asLst_ok hk3
      exact ⟨hv.len.trans hc.1, hu.len.trans hc.2, G2, _, zs, w2.sub, p.ok q.K G2 _ _ _ _ (hv.mono m2.gr) hu hc.1 hc.2, ez, fun l xs G3 H3 m3 h1 h2 h3 h4 => hQ l xs zs n2 G3 H3 ((m1.trans m2).trans (m3.weak fun _ f => f.elim)) (w2.pure m3) (old_none (m1.trans m2) h1) h2 h3 h4 hk4⟩
    · rw [if_neg hc] at hk2
      exact hk2.elim
  | .ite c a b, env => fun δ W n Φ hR hk σ G H hq w Q hQ => by
    refine sT hD hB c env δ W n _ hR (Dr.ok_bind.mp hk) σ G H hq w _ fun v d n1 G1 H1 m1 w1 hv hk1 => ?_
    cases hv
    cases v with
    | true => exact iteT (sF a env δ W n1 _ hR hk1 σ G1 H1 (hq.mono m1.gr) w1 Q fun l xs ds n' G2 H2 m2 w2 h1 h2 h3 h4 h5 => hQ l xs ds n' G2 H2 (m1.trans m2) w2 (old_none m1 h1) h2 h3 h4 h5)
    | false => exact iteF (sF b env δ W n1 _ hR hk1 σ G1 H1 (hq.mono m1.gr) w1 Q fun l xs ds n' G2 H2 m2 w2 h1 h2 h3 h4 h5 => hQ l xs ds n' G2 H2 (m1.trans m2) w2 (old_none m1 h1) h2 h3 h4 h5)
  | .lc it g vs c e, env => fun δ W n Φ hR hk σ G H hq w Q hQ => by
    refine sI hD hB it env δ W n _ hR (Dr.ok_bind.mp hk) σ G H hq w _ fun J its n2 G2 H2 m w2 ⟨A, Y, wk, hA, hY⟩ hk1 D nD => ?_
    obtain ⟨hl, hvs, hk2⟩ := both_ok hk1
    have nG : G2 D = none := by
      cases e : G2 D with
      | none => rfl
      | some o =>
        rw [w2.sub D o e] at nD
        cases nD
    have nM : ¬ (ows q.K (mS ob) W).M D := fun z => by
      obtain ⟨o, e⟩ := (ows q.K (mS ob) W).dom w2.inv z
      rw [e] at nD
      cases nD
    refine lc_it wk (fun i H3 => ∃ G3 acc ds n3, Mv (mS ob).M G2 H2 G3 H3 ∧ G3 D = none ∧ H3 D = some (.lst acc) ∧ Wd (ows q.K (mS ob) W) n3 G3 H3 ∧ DDs q.K G3 acc ds ∧ ds.length ≤ i ∧ ((compr _ (its.drop i)).bind fun l => Dr.ret (ds ++ l)).ok n3 Φ)
      ⟨G2, [], [], n2, (Mv.refl w2.sub).loc nD nG, nG, upd_same, w2.loc nG nM, .nil, Nat.le_refl _, Dr.ok_bind.mpr (Dr.ok_mono (fun a n h => h) hk2)⟩ (fun i H3 _ ⟨G3, acc, ds, n3, m3, _⟩ => hA H3 fun a o e => m3.sub a o (m3.gr a o e)) ?_ ?_
    · rintro i x H3 H4 hi ⟨G3, acc, ds, n3, m3, n3', h3, w3, dd, el, hk3⟩ y
      have hd : its[i]? = some its[i] := List.getElem?_eq_getElem hi
      obtain ⟨G4, m4', dx⟩ := hY i its[i] G3 H3 x H4 hd m3.gr w3.sub y
      have m4 := m4'.weak (M' := (mS ob).M) fun _ f => f.elim
      have w4 := w3.pure m4'
      have n4 : G4 D = none := (m4.old D _ h3).trans n3'
      have h4 : H4 D = some (.lst acc) := m4.kp D _ h3 fun z => nM (.inl z)
      rw [List.drop_eq_getElem_cons hi] at hk3
      have hk4 := Dr.ok_bind.mp (Dr.ok_bind.mp (Dr.ok_bind.mp hk3))
      obtain ⟨env', ep, hk5⟩ := Dr.ok_opt hk4
      obtain ⟨δ', hR', hlen, tg⟩ := sG (K := q.K) g ep (hR.wipe vs)
      have q4 := hq.mono fun a o e => m4.gr a o (m3.gr a o (m.gr a o e))
      refine tg x (wipe σ vs) G4 H4 (q4.wipe vs) dx w4.sub _ fun σ2 q2 e2 => ⟨(wipe_more _ _ (by rw [q2.1, hlen, (q4.wipe vs).1]) g.vs vs hvs e2).trans (wipe_idem σ vs), ?_⟩
      refine sT hD hB c env' δ' W n3 _ hR' (Dr.ok_bind.mp hk5) σ2 G4 H4 q2 w4 _ fun b b' n5 G5 H5 m5 w5 hb hk6 => ?_
      cases hb
      have n5' : G5 D = none := (m5.old D _ h4).trans n4
      have h5 : H5 D = some (.lst acc) := m5.kp D _ h4 fun z => nM (.inl z)
      cases b with
      | true =>
        refine iteT (sE hD hB e env' δ' W n5 _ hR' (Dr.ok_bind.mp hk6) σ2 G5 H5 (q2.mono m5.gr) w5 _ fun v d n6 G6 H6 m6 w6 hv hk7 => ?_)
        have n6' : G6 D = none := (m6.old D _ h5).trans n5'
        have h6 : H6 D = some (.lst acc) := m6.kp D _ h5 fun z => nM (.inl z)
        have el2 := dd.len
        refine ⟨acc, h6, Nat.lt_of_le_of_lt (show acc.length ≤ 100000 by omega) (by decide), G6, acc ++ [v], ds ++ [d], n6, (m3.trans (m4.trans (m5.trans m6))).loc nD n6', n6', upd_same, w6.loc n6' nM, (dd.mono fun a o z => m6.gr a o (m5.gr a o (m4.gr a o z))).snoc hv, by rw [List.length_append]; show ds.length + 1 ≤ i + 1; omega, ?_⟩
        have hk8 := Dr.ok_bind.mp (show ((compr _ (its.drop (i + 1))).bind fun l => Dr.ret ((some d).toList ++ l)).ok n6 _ from hk7)
        refine Dr.ok_bind.mpr (Dr.ok_mono (fun a n h => ?_) hk8)
        show Φ (ds ++ [d] ++ a) n
        rw [List.append_assoc]
        exact h
      | false =>
        refine iteF ⟨G5, acc, ds, n5, m3.trans (m4.trans m5), n5', h5, w5, dd.mono fun a o z => m5.gr a o (m4.gr a o z), by omega, ?_⟩
        have hk8 := Dr.ok_bind.mp (show ((compr _ (its.drop (i + 1))).bind fun l => Dr.ret ((none : Option PyData).toList ++ l)).ok n5 _ from hk6)
        exact Dr.ok_bind.mpr (Dr.ok_mono (fun a n h => h) hk8)
    · rintro H3 ⟨G3, acc, ds, n3, m3, n3', h3, w3, dd, el, hk3⟩
      rw [List.drop_length] at hk3
      have hk4 : Φ (ds ++ []) n3 := hk3
      rw [List.append_nil] at hk4
      exact hQ D acc ds n3 G3 H3 (m.trans m3) w3 (old_none m nD) n3' h3 dd hk4
end
end DP
namespace DP
open PySem PySem.Spec PyProof.Rows L2 ZX DL RT
theorem get_list {X : Cx} : PGet X (rIxL X.K) := by
  intro pins s σ H x y v u Q I rx ry h
  obtain ⟨p, xs, i, z, rfl, rfl, hq, he, q⟩ := h
  cases rx
  obtain ⟨t, rfl⟩ := ry
  obtain ⟨its, r, pl, hz⟩ := I.list hq
  obtain ⟨j, h1, h2, h3, h4, h5⟩ := atI_get he
  obtain ⟨w, ew, rw'⟩ := r.get h2
  have hl := r.length
  have hn := line63
  have fin : EP X pins σ Q w s := ⟨z, H, I, rw', q⟩
  by_cases h0 : 0 ≤ i
  · have hj : i.toNat = j := by
      rw [seqIndex_of h0 h5] at h1
      exact Option.some.inj h1
    exact wpAny_getItem_list pl.isList h0 (by omega) (by rw [hj]; simpa using ew) fin
  · have hj : (i + (its.toArray.size : Int)).toNat = j := by
      rw [seqIndex_neg (by omega) h4] at h1
      rw [List.size_toArray, ← hl]
      exact Option.some.inj h1
    exact wpAny_getItem_list_neg (Q := EP X pins σ Q) pl.isList (by omega) (by rw [List.size_toArray] <;> omega) (by omega) (by rw [hj]; simpa using ew) fin
def rIns : V → List V → Hp → VK → Prop := fun x vs H Q => ∃ (l : Addr) (xs : List V) (i : Int) (y : V), x = .ref l ∧ vs = [.int i, y] ∧ H l = some (.lst xs) ∧ xs.length < sizeLine ∧ 0 ≤ i ∧ i < 2 ^ 63 ∧ Q .non (upd H l (.lst (xs.take i.toNat ++ [y] ++ xs.drop i.toNat)))
abbrev fsT (v0 v1 v2 v3 v4 v5 : V) : List (Str × V) := [("row_rooms", v0), ("gap", v1), ("net", v2), ("totals", v3), ("lows", v4), ("highs", v5)]
theorem fs_of {fs : List (Str × V)} (h : fs.map (·.1) = tbN) : ∃ v0 v1 v2 v3 v4 v5, fs = fsT v0 v1 v2 v3 v4 v5 := by
  match fs, h with
  | [(a, v0), (b, v1), (c, v2), (d, v3), (e, v4), (f, v5)], h =>
    have h1 := List.cons.inj h
    have h2 := List.cons.inj h1.2
    have h3 := List.cons.inj h2.2
    have h4 := List.cons.inj h3.2
    have h5 := List.cons.inj h4.2
    have h6 := List.cons.inj h5.2
    refine ⟨v0, v1, v2, v3, v4, v5, ?_⟩
    rw [show a = "row_rooms" from h1.1, show b = "gap" from h2.1, show c = "net" from h3.1, show d = "totals" from h4.1, show e = "lows" from h5.1, show f = "highs" from h6.1]
theorem putF_ix {f : Str} {v : V} : ∀ {fs : List (Str × V)} {k : Nat}, (fs.map (·.1))[k]? = some f → (fs.map (·.1)).Nodup → putF f v fs = fs.set k (f, v)
  | [], k, h, _ => by simp at h
  | (g, x) :: r, 0, h, _ => by
    have e : g = f := by simpa using h
    subst e
    show (if g = g then (g, v) :: r else (g, x) :: putF g v r) = _
    rw [if_pos rfl]
    rfl
  | (g, x) :: r, k + 1, h, nd => by
    have h' : (r.map (·.1))[k]? = some f := by simpa using h
    have nd' := List.nodup_cons.mp (show (g :: r.map (·.1)).Nodup from nd)
    have ne : g ≠ f := fun z => nd'.1 (z ▸ List.mem_of_getElem? h')
    show (if g = f then (g, v) :: r else (g, x) :: putF f v r) = _
    rw [if_neg ne, putF_ix h' nd'.2]
    rfl
theorem putF_at {fs : List (Str × V)} {k : Nat} (v : V) (hn : fs.map (·.1) = tbN) (hk : k < 6) : (putF (tbN.getD k "") v fs).map (·.1) = tbN ∧ (putF (tbN.getD k "") v fs).map (·.2) = (fs.map (·.2)).set k v ∧ (putF (tbN.getD k "") v fs).length = 6 := by
  have nd : tbN.Nodup := by decide +kernel
  have hl : tbN.length = 6 := rfl
  have hk' : tbN[k]? = some (tbN.getD k "") := by
    rw [List.getD_eq_getElem?_getD, List.getElem?_eq_getElem (by omega)]
    rfl
  have e := putF_ix (v := v) (fs := fs) (k := k) (f := tbN.getD k "") (by rw [hn]; exact hk') (by rw [hn]; exact nd)
  have fl : fs.length = 6 := by
    have := congrArg List.length hn
    rwa [List.length_map] at this
  rw [e]
  refine ⟨?_, ?_, ?_⟩
  · rw [List.map_set, hn]
    refine List.ext_getElem? fun j => ?_
    by_cases hj : k = j
    · subst hj
      rw [List.getElem?_set_self (by omega), hk']
    · rw [List.getElem?_set_ne hj]
  · rw [List.map_set]
  · rw [List.length_set]
    exact fl
theorem tbN_at {K : PySem.W.Frag} {C : Addr} (T : TbC K C) {k : Nat} (hk : k < 6) : NoAttr K C (tbN.getD k "") := by
  match k, hk with
  | 0, _ => exact T.n0
  | 1, _ => exact T.n1
  | 2, _ => exact T.n2
  | 3, _ => exact T.n3
  | 4, _ => exact T.n4
  | 5, _ => exact T.n5
def spXf (K : PySem.W.Frag) (cls : Nat → Addr) (f : FsX) : Sp := spX K (fun ds => ∃ o, f ds = .ret o) (fun ds d => f ds = .ret (.val d)) (fun ds cl fl => ∃ c fs, f ds = .ret (.exc c fs) ∧ cl = .ref (cls c) ∧ fl = some fs)
def xcs (q : Gq) : List Nat → Option (List Value)
  | [] => some []
  | c :: cs => match decide (c < 20), q.da (50 + c), xcs q cs with
    | true, some C, some l => some (.ref C :: l)
    | _, _, _ => none
def xcl (q : Gq) (c : Nat) : Addr := match decide (c < 20), q.da (30 + c) with
  | true, some D => D
  | _, _ => 0
theorem exm_cons' {K : PySem.W.Frag} {P c : Value} {cs : List Value} {b d : Bool} (h1 : PySem.W.exmOne K P c = some b) (h2 : PySem.W.exmAny K P cs = some d) : PySem.W.exmAny K P (c :: cs) = some (b || d) := by
  unfold PySem.W.exmAny
  rw [h1, h2]
theorem xcs_exm {q : Gq} (hD : HD q.K q.w q.da) {r : Nat} {D : Addr} (hr : r < 20) (er : q.da (30 + r) = some D) : ∀ {cs : List Nat} {Cs : List Value}, xcs q cs = some Cs → PySem.W.exmAny q.K (.ref D) Cs = some (decide (r ∈ cs))
  | [], Cs, h => by
    cases h
    rfl
  | c :: cs, Cs, h => by
    have h' : (match decide (c < 20), q.da (50 + c), xcs q cs with
      | true, some C, some l => some (.ref C :: l)
      | _, _, _ => none) = some Cs := h
    cases hc : decide (c < 20) with
    | false =>
      rw [hc] at h'
      cases h'
    | true =>
      rw [hc] at h'
      have hc := of_decide_eq_true hc
      cases ec : q.da (50 + c) with
      | none =>
        rw [ec] at h'
        cases h'
      | some C =>
        rw [ec] at h'
        cases el : xcs q cs with
        | none =>
          rw [el] at h'
          cases h'
        | some l =>
          rw [el] at h'
          cases h'
          have ih := xcs_exm hD hr er el
          rw [exm_cons' (hD.xk r D c C hr hc er ec).2 ih]
          congr 1
          by_cases a : r = c <;> by_cases b : r ∈ cs <;> simp [a, b]
def tryT (q : Gq) (k : Option Nat) (f : FsX) (ta : TA) (r : Nat) (cs : List Nat) (i h : Nat) : TS := match decide (r < 20), q.da (30 + r), xcs q cs with
  | true, some _, some Cs => fun D σ H => (match k with
    | some k => tAsg (tCallS (spXf q.K (xcl q) f) (WE (XG.wT q.K Cs i (fun _ => tAsg (tVar i) (gName h)) (fun _ _ _ _ => False) D)) ta) (gName k)
    | none => tDrop (tCallS (spXf q.K (xcl q) f) (WE (XG.wT q.K Cs i (fun _ => tAsg (tVar i) (gName h)) (fun _ _ _ _ => False) D)) ta)) D σ H
  | _, _, _ => fun _ _ _ => True
def tS (q : Gq) : S → TS
  | .next => tNext
  | .seq a b => tSeq (tS q a) (tS q b)
  | .asg g e => tAsg (tE q e) (tG q.K g)
  | .asg2 i j e => tAsg2 (tE q e) (gName i) (gName j)
  | .par i j as => tPar i j (tA q as)
  | .par3 i j k as => tPar3 i j k (tA q as)
  | .aug i o e => tAug i (tE q e) (o.rel q.K)
  | .newO i as => tAsg (tLst (tA q as)) (gName i)
  | .newL i e => tAsg (tCB (rList q.K) (tCons (tE q e) tNil)) (gName i)
  | .app i e => tDrop (tBM q.K "list" rAppend (tVar i) (tCons (tE q e) tNil))
  | .setix i ix e => tAsg (tE q e) (gSub (tVar i) (tE q ix) rSetL)
  | .augix i ix o e => tAugS (tVar i) (tE q ix) (tE q e) (rIxL q.K) (o.rel q.K) rSetL
  | .rev i => tDrop (tBM0 q.K "list" rReverse (tVar i))
  | .setsl i ix e => tAsg (tE q e) (SS0.gSl0 (tVar i) (tE q ix))
  | .ext i e => tDrop (tBM q.K "list" rExtend (tVar i) (tCons (tE q e) tNil))
  | .clr i => tDrop (tBM0 q.K "list" rClear (tVar i))
  | .pop i => tDrop (tBM0 q.K "list" rPop (tVar i))
  | .popA g i e => tAsg (tBM q.K "list" rPopAt (tVar i) (tCons (tE q e) tNil)) (tG q.K g)
  | .ali k t i j f => tSeq (tAsg (tIf (tT q t) (tVar i) (tVar j)) (gName k)) (tDrop (tBM q.K "list" rAppend (tVar f) (tCons (tBM q.K "list" rPopAt (tVar k) (tCons (tC (.int 0)) tNil)) tNil)))
  | .ins i ix e => tDrop (tBM q.K "list" rIns (tVar i) (tCons (tE q ix) (tCons (tE q e) tNil)))
  | .newE i e => tAsg (tF q e) (gName i)
  | .par2B i j b => tPar i j (tB q b)
  | .par2T i j b => tAsg (tTup (tB q b)) (gTup q.K 2 (gCons (gName i) (gCons (gName j) gNil)))
  | .par3B i j k b => tPar3 i j k (tB q b)
  | .retO i => tRet (tVar i)
  | .retF e => tRet (tF q e)
  | .frz i s => tS q s
  | .newT i f as => match q.da 5 with
    | some C => tAsg (tMake C (spTN q.K C f) [] E0 (tA q as)) (gName i)
    | none => fun _ _ _ => True
  | .newTD i f as => match q.da 5, q.da 12 with
    | some C, some dv => tAsg (tMake C (spTN q.K C f) [.ref dv] E0 (tA q as)) (gName i)
    | _, _ => fun _ _ _ => True
  | .newM i k f e as => match q.da 5 with
    | some C => tAsg (tMeth C (tbM k) (spNT q.K C f) [] E0 (tE q e) (tA q as)) (gName i)
    | none => fun _ _ _ => True
  | .setF i k e => sFld q.K (tVar i) (tE q e) (tbN.getD k "")
  | .frzT i s => tS q s
  | .newD0 i => tAsg DX.tDNew (gName i)
  | .putD i k e => tAsg (tE q e) (gSub (tVar i) (tE q k) (DX.rDSet q.K))
  | .putD2 i j k1 k2 v1 v2 => tAsg (tTup (tCons (tE q v1) (tCons (tE q v2) tNil))) (gTup q.K 2 (gCons (gSub (tVar i) (tE q k1) (DX.rDSet q.K)) (gCons (gSub (tVar j) (tE q k2) (DX.rDSet q.K)) gNil)))
  | .parN is b => tAsg (tTup (tB q b)) (gTup q.K is.length (gNs is))
  | .frzX i s => tS q s
  | .ret e => tRet (tE q e)
  | .cond c a b => tIfS (tT q c) (tS q a) (tS q b)
  | .loop it g b => tFor (tI q it) (tG q.K g) (tS q b)
  | .whil m c b => tWhile (tT q c) (tS q b)
  | .brk => tBreak
  | .cnt => tCont
  | .drop e => tDrop (tE q e)
  | .tryC k f as r cs i h => tryT q k f (tA q as) r cs i h
  | .stuck => fun _ _ _ => False
  | .raise c f as => fun _ σ H => tA q as σ H fun vs H1 => ∃ v, vs = [v] ∧ ∀ dd, H1 dd = none → q.E (.ref (q.cls c)) (some dd) (upd H1 dd (.xd [(f, v)]))
structure Dn (q : Gq) (ob : Option Bo) (W : Own) (G H : Hp) (Φ : Fl → Nat → Prop) (D : Ends) : Prop where
  nx : ∀ σ' env' δ' W' n' G2 H2, Ms (mS ob).M W W' G H G2 H2 → Wd (ows q.K (mS ob) W') n' G2 H2 → SlD q.K G2 σ' δ' → Rp ob env' δ' W' → Φ (.nx env') n' → D.nx σ' H2
  rt : ∀ v d W' n' G2 H2, Ms (mS ob).M W W' G H G2 H2 → Wd (ows q.K (mS ob) W') n' G2 H2 → DD q.K G2 v d → Φ (.rt d) n' → D.rt v H2
  rtO : ∀ l xs ds W' n' G2 H2, Ms (mS ob).M W W' G H G2 H2 → Wd (ows q.K (mS ob) W') n' G2 H2 → (W.has l ∨ H l = none) → G2 l = none → H2 l = some (.lst xs) → DDs q.K G2 xs ds → Φ (.rtO ds) n' → D.rt (.ref l) H2
  bk : ∀ σ' env' δ' W' n' G2 H2, Ms (mS ob).M W W' G H G2 H2 → Wd (ows q.K (mS ob) W') n' G2 H2 → SlD q.K G2 σ' δ' → Rp ob env' δ' W' → Φ (.bk env') n' → D.bk σ' H2
  ct : ∀ σ' env' δ' W' n' G2 H2, Ms (mS ob).M W W' G H G2 H2 → Wd (ows q.K (mS ob) W') n' G2 H2 → SlD q.K G2 σ' δ' → Rp ob env' δ' W' → Φ (.ct env') n' → D.ct σ' H2
  ex : ∀ c fs W' n' G2 H2, Ms (mS ob).M W W' G H G2 H2 → Wd (ows q.K (mS ob) W') n' G2 H2 → Φ (.ex c fs) n' → ∀ dd vs, H2 dd = none → FV q.K G2 vs fs → q.E (.ref (q.cls c)) (some dd) (upd H2 dd (.xd vs))
theorem back_at {M : Addr → Prop} {W W1 : Own} {G H G1 H1 : Hp} {l : Addr} (m : Ms M W W1 G H G1 H1) (h : W1.has l ∨ H1 l = none) : W.has l ∨ H l = none := by
  rcases h with h | h
  · exact m.nw l h
  · refine .inr ?_
    cases e : H l with
    | none => rfl
    | some o =>
      obtain ⟨u, eu⟩ := m.dom l o e
      rw [h] at eu
      cases eu
theorem Dn.at {q : Gq} {ob : Option Bo} {W W1 : Own} {G H G1 H1 : Hp} {Φ : Fl → Nat → Prop} {D : Ends} (x : Dn q ob W G H Φ D) (m : Ms (mS ob).M W W1 G H G1 H1) : Dn q ob W1 G1 H1 Φ D :=
  ⟨fun a b c d e f g m2 => x.nx a b c d e f g (m.trans m2), fun a b d e f g m2 => x.rt a b d e f g (m.trans m2), fun a b c d e f g m2 w2 b2 => x.rtO a b c d e f g (m.trans m2) w2 (back_at m b2), fun a b c d e f g m2 => x.bk a b c d e f g (m.trans m2), fun a b c d e f g m2 => x.ct a b c d e f g (m.trans m2), fun a b d e f g m2 => x.ex a b d e f g (m.trans m2)⟩
def SS (q : Gq) (ob : Option Bo) (ts : TS) (env : En) (t : Dr Fl) : Prop :=
  ∀ δ W n Φ, Rp ob env δ W → t.ok n Φ → ∀ σ G H, SlD q.K G σ δ → Wd (ows q.K (mS ob) W) n G H → ∀ D : Ends, Dn q ob W G H Φ D → ts D σ H
theorem has_of {W : Own} {l : Addr} {r : Nat} {K : PySem.W.Frag} {S0 : MS} {G H : Hp} (w : Wd (ows K S0 W) r G H) (n : H l = none) : ∀ c, (l, c) ∉ W := fun c h => by
  obtain ⟨_, _, h2⟩ := w.inv
  obtain ⟨_, o, e, _⟩ := h2 l c h
  rw [n] at e
  cases e
theorem own_frz {K : PySem.W.Frag} {S0 : MS} {W : Own} {r j : Nat} {l : Addr} {ds : List PyData} {G H : Hp} (w : Wd (ows K S0 W) r G H) (hW : W[j]? = some (l, .lst ds)) :
    ∃ G1, DD K G1 (.ref l) (.list ds) ∧ (∀ a o, G a = some o → G1 a = some o) ∧ Wd (ows K S0 (W.eraseIdx j)) r G1 H ∧ ∀ {W' G2 H2}, Ms S0.M (W.eraseIdx j) W' G1 H G2 H2 → Ms S0.M W W' G H G2 H2 := by
  obtain ⟨nM, nG, xs, hl, dd⟩ := own_lst w hW
  have hj : j < W.length := (List.getElem?_eq_some_iff.mp hW).1
  obtain ⟨h1, nd, h2⟩ := w.inv
  have g1 : ∀ a o, G a = some o → upd G l (.lst xs) a = some o := fun a o e => by
    rw [upd_ne (ne_of_none e nG)]
    exact e
  have sub1 : ∀ a o, upd G l (.lst xs) a = some o → H a = some o := fun a o e => by
    by_cases ea : a = l
    · rw [ea, upd_same] at e
      rw [ea, ← e]
      exact hl
    · rw [upd_ne ea] at e
      exact w.sub a o e
  have hin : ∀ {a}, Own.has (W.eraseIdx j) a → W.has a := fun ⟨c, m⟩ => ⟨c, List.mem_of_mem_eraseIdx m⟩
  have hne : ∀ {a}, Own.has (W.eraseIdx j) a → a ≠ l := fun {a} ⟨c, m⟩ z => by
    subst z
    obtain ⟨i', hi', hn, e2⟩ := List.mem_eraseIdx_iff_getElem.mp m
    have e1 : (W.map (·.1))[j]'(by rw [List.length_map]; exact hj) = a := by rw [List.getElem_map, (List.getElem?_eq_some_iff.mp hW).2]
    have e3 : (W.map (·.1))[i']'(by rw [List.length_map]; exact hi') = a := by rw [List.getElem_map, e2]
    exact hn ((List.getElem_inj nd).mp (e3.trans e1.symm))
  refine ⟨upd G l (.lst xs), DD.lst upd_same (dd.mono g1), g1, ?_, fun {W' G2 H2} m => ?_⟩
  · refine ⟨sub1, fun a m => ?_, S0.fr h1 g1 fun _ _ _ e => e, ?_, fun l' c hm => ?_⟩
    · rcases m with m | m
      · rw [upd_ne (show a ≠ l from fun z => nM (z ▸ m))]
        exact w.no a (.inl m)
      · rw [upd_ne (hne m)]
        exact w.no a (.inr (hin m))
    · exact List.Pairwise.sublist ((List.eraseIdx_sublist W j).map _) nd
    · obtain ⟨n, o, e, q⟩ := h2 l' c (List.mem_of_mem_eraseIdx hm)
      exact ⟨n, o, e, q.mono g1⟩
  · refine ⟨fun a o e => m.gr a o (g1 a o e), m.sub, fun a o e n => ?_, fun a o e n1 n2 => m.kp a o e n1 fun z => n2 (hin z), m.dom, fun a h => (m.nw a h).imp hin fun z => z⟩
    have na : a ≠ l := fun z => n ⟨_, z ▸ List.mem_of_getElem? hW⟩
    rw [m.old a o e fun z => n (hin z), upd_ne na]
theorem back_frz {W : Own} {j : Nat} {l l' : Addr} {c : OC} {H : Hp} (hW : W[j]? = some (l', c)) (h : Own.has (W.eraseIdx j) l ∨ H l = none) : W.has l ∨ H l = none := h.imp (fun ⟨c, m⟩ => ⟨c, List.mem_of_mem_eraseIdx m⟩) fun z => z
theorem tab_ok {env : En} {i n : Nat} {Φ : List PyData → Nat → Prop} (h : (tabAt env i).ok n Φ) : ∃ ds, env[i]? = some (.tab ds) ∧ Φ ds n := by
  unfold tabAt at h
  split at h
  · rename_i ds e
    exact ⟨ds, e, h⟩
  · exact h.elim
theorem asTab_ok {d : PyData} {n : Nat} {Φ : List PyData → Nat → Prop} (h : (asTab d).ok n Φ) : ∃ zs, d = obT zs ∧ Φ zs n := by
  unfold asTab at h
  split at h
  · exact ⟨_, rfl, h⟩
  · exact h.elim
theorem own_tab {K : PySem.W.Frag} {S0 : MS} {W : Own} {r j : Nat} {l C : Addr} {ds : List PyData} {G H : Hp} (w : Wd (ows K S0 W) r G H) (hW : W[j]? = some (l, .tab C ds)) :
    ¬ S0.M l ∧ G l = none ∧ ∃ dx fs, H l = some (.ins C dx fs) ∧ TbC K C ∧ fs.map (·.1) = tbN ∧ DDs K G (fs.map (·.2)) ds := by
  obtain ⟨nM, nG, o, e, q⟩ := own_at w hW
  obtain ⟨dx, fs, rfl, c, n, d⟩ := q
  exact ⟨nM, nG, dx, fs, e, c, n, d⟩
theorem own_frzT {K : PySem.W.Frag} {S0 : MS} {W : Own} {r j : Nat} {l C : Addr} {ds : List PyData} {G H : Hp} (w : Wd (ows K S0 W) r G H) (hW : W[j]? = some (l, .tab C ds)) :
    ∃ G1, DD K G1 (.ref l) (obT ds) ∧ (∀ a o, G a = some o → G1 a = some o) ∧ Wd (ows K S0 (W.eraseIdx j)) r G1 H ∧ ∀ {W' G2 H2}, Ms S0.M (W.eraseIdx j) W' G1 H G2 H2 → Ms S0.M W W' G H G2 H2 := by
  obtain ⟨nM, nG, dx, fs, hl, cC, nn, dd⟩ := own_tab w hW
  have hj : j < W.length := (List.getElem?_eq_some_iff.mp hW).1
  obtain ⟨h1, nd, h2⟩ := w.inv
  have g1 : ∀ a o, G a = some o → upd G l (.ins C dx fs) a = some o := fun a o e => by
    rw [upd_ne (ne_of_none e nG)]
    exact e
  have sub1 : ∀ a o, upd G l (.ins C dx fs) a = some o → H a = some o := fun a o e => by
    by_cases ea : a = l
    · rw [ea, upd_same] at e
      rw [ea, ← e]
      exact hl
    · rw [upd_ne ea] at e
      exact w.sub a o e
  have hin : ∀ {a}, Own.has (W.eraseIdx j) a → W.has a := fun ⟨c, m⟩ => ⟨c, List.mem_of_mem_eraseIdx m⟩
  have hne : ∀ {a}, Own.has (W.eraseIdx j) a → a ≠ l := fun {a} ⟨c, m⟩ z => by
    subst z
    obtain ⟨i', hi', hn, e2⟩ := List.mem_eraseIdx_iff_getElem.mp m
    have e1 : (W.map (·.1))[j]'(by rw [List.length_map]; exact hj) = a := by rw [List.getElem_map, (List.getElem?_eq_some_iff.mp hW).2]
    have e3 : (W.map (·.1))[i']'(by rw [List.length_map]; exact hi') = a := by rw [List.getElem_map, e2]
    exact hn ((List.getElem_inj nd).mp (e3.trans e1.symm))
  refine ⟨upd G l (.ins C dx fs), DD.tbl upd_same cC nn (dd.mono g1), g1, ?_, fun {W' G2 H2} m => ?_⟩
  · refine ⟨sub1, fun a m => ?_, S0.fr h1 g1 fun _ _ _ e => e, ?_, fun l' c hm => ?_⟩
    · rcases m with m | m
      · rw [upd_ne (show a ≠ l from fun z => nM (z ▸ m))]
        exact w.no a (.inl m)
      · rw [upd_ne (hne m)]
        exact w.no a (.inr (hin m))
    · exact List.Pairwise.sublist ((List.eraseIdx_sublist W j).map _) nd
    · obtain ⟨n, o, e, q⟩ := h2 l' c (List.mem_of_mem_eraseIdx hm)
      exact ⟨n, o, e, q.mono g1⟩
  · refine ⟨fun a o e => m.gr a o (g1 a o e), m.sub, fun a o e n => ?_, fun a o e n1 n2 => m.kp a o e n1 fun z => n2 (hin z), m.dom, fun a h => (m.nw a h).imp hin fun z => z⟩
    have na : a ≠ l := fun z => n ⟨_, z ▸ List.mem_of_getElem? hW⟩
    rw [m.old a o e fun z => n (hin z), upd_ne na]
theorem own_frzX {K : PySem.W.Frag} {S0 : MS} {W : Own} {r j : Nat} {l : Addr} {kvs : List (List Int × PyData)} {G H : Hp} (w : Wd (ows K S0 W) r G H) (hW : W[j]? = some (l, .dct l kvs)) :
    ∃ G1, DD K G1 (.ref l) (dctD kvs) ∧ (∀ a o, G a = some o → G1 a = some o) ∧ Wd (ows K S0 (W.eraseIdx j)) r G1 H ∧ ∀ {W' G2 H2}, Ms S0.M (W.eraseIdx j) W' G1 H G2 H2 → Ms S0.M W W' G H G2 H2 := by
  obtain ⟨nM, nG, ob, L, hl, dc, ks, ke, dd⟩ := own_dct w hW
  have hj : j < W.length := (List.getElem?_eq_some_iff.mp hW).1
  obtain ⟨h1, nd, h2⟩ := w.inv
  have g1 : ∀ a o, G a = some o → upd G l (DX.xdO l ob) a = some o := fun a o e => by
    rw [upd_ne (ne_of_none e nG)]
    exact e
  have sub1 : ∀ a o, upd G l (DX.xdO l ob) a = some o → H a = some o := fun a o e => by
    by_cases ea : a = l
    · rw [ea, upd_same] at e
      rw [ea, ← e]
      exact hl
    · rw [upd_ne ea] at e
      exact w.sub a o e
  have hin : ∀ {a}, Own.has (W.eraseIdx j) a → W.has a := fun ⟨c, m⟩ => ⟨c, List.mem_of_mem_eraseIdx m⟩
  have hne : ∀ {a}, Own.has (W.eraseIdx j) a → a ≠ l := fun {a} ⟨c, m⟩ z => by
    subst z
    obtain ⟨i', hi', hn, e2⟩ := List.mem_eraseIdx_iff_getElem.mp m
    have e1 : (W.map (·.1))[j]'(by rw [List.length_map]; exact hj) = a := by rw [List.getElem_map, (List.getElem?_eq_some_iff.mp hW).2]
    have e3 : (W.map (·.1))[i']'(by rw [List.length_map]; exact hi') = a := by rw [List.getElem_map, e2]
    exact hn ((List.getElem_inj nd).mp (e3.trans e1.symm))
  refine ⟨upd G l (DX.xdO l ob), DD.dct upd_same dc (keys_mono g1 ks) rfl ke (dd.mono g1), g1, ?_, fun {W' G2 H2} m => ?_⟩
  · refine ⟨sub1, fun a m => ?_, S0.fr h1 g1 fun _ _ _ e => e, ?_, fun l' c hm => ?_⟩
    · rcases m with m | m
      · rw [upd_ne (show a ≠ l from fun z => nM (z ▸ m))]
        exact w.no a (.inl m)
      · rw [upd_ne (hne m)]
        exact w.no a (.inr (hin m))
    · exact List.Pairwise.sublist ((List.eraseIdx_sublist W j).map _) nd
    · obtain ⟨n, o, e, q⟩ := h2 l' c (List.mem_of_mem_eraseIdx hm)
      exact ⟨n, o, e, q.mono g1⟩
  · refine ⟨fun a o e => m.gr a o (g1 a o e), m.sub, fun a o e n => ?_, fun a o e n1 n2 => m.kp a o e n1 fun z => n2 (hin z), m.dom, fun a h => (m.nw a h).imp hin fun z => z⟩
    have na : a ≠ l := fun z => n ⟨_, z ▸ List.mem_of_getElem? hW⟩
    rw [m.old a o e fun z => n (hin z), upd_ne na]
theorem slPut_ok {ds : List PyData} {d e : PyData} {n : Nat} {Φ : List PyData → Nat → Prop} (h : (slPut ds d e).ok n Φ) : ∃ es k, d = .list es ∧ e = .int k ∧ 0 ≤ k ∧ k ≤ ds.length ∧ ds.length + es.length ≤ 100000 ∧ Φ (es ++ ds.drop k.toNat) n := by
  unfold slPut at h
  split at h
  · split at h
    · rename_i es k hc
      exact ⟨es, k, rfl, rfl, hc.1, hc.2.1, hc.2.2, h⟩
    · exact h.elim
  · exact h.elim
theorem exPut_ok {ds : List PyData} {d : PyData} {n : Nat} {Φ : List PyData → Nat → Prop} (h : (exPut ds d).ok n Φ) : ∃ es, d = .list es ∧ ds.length + es.length ≤ 100000 ∧ Φ (ds ++ es) n := by
  unfold exPut at h
  split at h
  · split at h
    · rename_i es hc
      exact ⟨es, rfl, hc, h⟩
    · exact h.elim
  · exact h.elim
theorem insPut_ok {ds : List PyData} {x d : PyData} {n : Nat} {Φ : List PyData → Nat → Prop} (h : (insPut ds x d).ok n Φ) : ∃ k, d = .int k ∧ 0 ≤ k ∧ k < 2 ^ 63 ∧ ds.length ≤ 100000 ∧ Φ (ds.take k.toNat ++ [x] ++ ds.drop k.toNat) n := by
  unfold insPut at h
  split at h
  · split at h
    · rename_i k hc
      exact ⟨k, rfl, hc.1, hc.2.1, hc.2.2, h⟩
    · exact h.elim
  · exact h.elim
theorem asIx_ok {m : Nat} {d : PyData} {n : Nat} {Φ : Nat → Nat → Prop} (h : (asIx m d).ok n Φ) : ∃ k j, d = .int k ∧ ixN m k = some j ∧ Φ j n := by
  unfold asIx at h
  split at h
  · obtain ⟨j, e, h⟩ := Dr.ok_opt h
    exact ⟨_, j, rfl, e, h⟩
  · exact h.elim
theorem DDs.app {K : PySem.W.Frag} {G : Hp} : ∀ {xs ys : List V} {ds es : List PyData}, DDs K G xs ds → DDs K G ys es → DDs K G (xs ++ ys) (ds ++ es)
  | _, _, _, _, .nil, h => h
  | _, _, _, _, .cons a t, h => .cons a (DDs.app t h)
theorem DDs.dr {K : PySem.W.Frag} {G : Hp} : ∀ (n : Nat) {xs : List V} {ds : List PyData}, DDs K G xs ds → DDs K G (xs.drop n) (ds.drop n)
  | 0, _, _, h => h
  | _ + 1, _, _, .nil => .nil
  | n + 1, _, _, .cons _ t => DDs.dr n t
theorem DDs.tk {K : PySem.W.Frag} {G : Hp} : ∀ (n : Nat) {xs : List V} {ds : List PyData}, DDs K G xs ds → DDs K G (xs.take n) (ds.take n)
  | 0, _, _, _ => .nil
  | _ + 1, _, _, .nil => .nil
  | n + 1, _, _, .cons a t => .cons a (DDs.tk n t)
theorem DDs.er {K : PySem.W.Frag} {G : Hp} : ∀ (n : Nat) {xs : List V} {ds : List PyData}, DDs K G xs ds → DDs K G (xs.eraseIdx n) (ds.eraseIdx n)
  | _, _, _, .nil => .nil
  | 0, _, _, .cons _ t => t
  | n + 1, _, _, .cons a t => .cons a (DDs.er n t)
theorem DDs.dl {K : PySem.W.Frag} {G : Hp} : ∀ {xs : List V} {ds : List PyData}, DDs K G xs ds → DDs K G xs.dropLast ds.dropLast := fun {xs ds} h => by
  rw [List.dropLast_eq_take, List.dropLast_eq_take, h.len]
  exact DDs.tk _ h
theorem own_side {K : PySem.W.Frag} {S0 : MS} {W : Own} {r r' : Nat} {G H G1 H1 : Hp} {l : Addr} {xs : List V} {ds : List PyData} (m : Mv S0.M G H G1 H1) (w0 : Wd (ows K S0 W) r' G H) (w : Wd (ows K S0 W) r G1 H1) (n0 : H l = none) (g0 : G1 l = none) (h0 : H1 l = some (.lst xs)) (dd : DDs K G1 xs ds) : Wd (ows K S0 ((l, .lst ds) :: W)) r G1 H1 ∧ Ms S0.M W ((l, .lst ds) :: W) G H G1 H1 := by
  have nM : ¬ (ows K S0 W).M l := fun z => by
    obtain ⟨o, e⟩ := (ows K S0 W).dom w0.inv z
    rw [n0] at e
    cases e
  obtain ⟨i1, i2, i3⟩ := w.inv
  have ms : Ms S0.M W W G H G1 H1 := ⟨m.gr, m.sub, fun a o e _ => m.old a o e, fun a o e n1 _ => m.kp a o e n1, m.dom, fun _ h => .inl h⟩
  refine ⟨⟨w.sub, fun a ha => ?_, i1, ?_, fun l' c hm => ?_⟩, ms.gr, ms.sub, ms.old, ms.kp, ms.dom, fun a ha => ?_⟩
  · rcases ha with ha | ⟨c, ha⟩
    · exact w.no a (.inl ha)
    · rcases List.mem_cons.mp ha with e | ha
      · cases e
        exact g0
      · exact w.no a (.inr ⟨c, ha⟩)
  · rw [List.map_cons, List.nodup_cons]
    refine ⟨fun z => ?_, i2⟩
    obtain ⟨⟨l', c⟩, hm, e⟩ := List.mem_map.mp z
    exact nM (.inr ⟨c, by cases e; exact hm⟩)
  · rcases List.mem_cons.mp hm with e | hm
    · cases e
      exact ⟨fun z => nM (.inl z), _, h0, xs, rfl, dd⟩
    · exact i3 l' c hm
  · obtain ⟨c, hc⟩ := ha
    rcases List.mem_cons.mp hc with e | hc
    · cases e
      exact .inr n0
    · exact .inl ⟨c, hc⟩
theorem own_sideT {K : PySem.W.Frag} {S0 : MS} {W : Own} {r r' : Nat} {G H G1 H1 : Hp} {l : Addr} {C dx : Addr} {fs : List (Str × V)} {ds : List PyData} (m : Mv S0.M G H G1 H1) (w0 : Wd (ows K S0 W) r' G H) (w : Wd (ows K S0 W) r G1 H1) (n0 : H l = none) (g0 : G1 l = none) (h0 : H1 l = some (.ins C dx fs)) (cC : TbC K C) (nn : fs.map (·.1) = tbN) (dd : DDs K G1 (fs.map (·.2)) ds) : Wd (ows K S0 ((l, .tab C ds) :: W)) r G1 H1 ∧ Ms S0.M W ((l, .tab C ds) :: W) G H G1 H1 := by
  have nM : ¬ (ows K S0 W).M l := fun z => by
    obtain ⟨o, e⟩ := (ows K S0 W).dom w0.inv z
    rw [n0] at e
    cases e
  obtain ⟨i1, i2, i3⟩ := w.inv
  have ms : Ms S0.M W W G H G1 H1 := ⟨m.gr, m.sub, fun a o e _ => m.old a o e, fun a o e n1 _ => m.kp a o e n1, m.dom, fun _ h => .inl h⟩
  refine ⟨⟨w.sub, fun a ha => ?_, i1, ?_, fun l' c hm => ?_⟩, ms.gr, ms.sub, ms.old, ms.kp, ms.dom, fun a ha => ?_⟩
  · rcases ha with ha | ⟨c, ha⟩
    · exact w.no a (.inl ha)
    · rcases List.mem_cons.mp ha with e | ha
      · cases e
        exact g0
      · exact w.no a (.inr ⟨c, ha⟩)
  · rw [List.map_cons, List.nodup_cons]
    refine ⟨fun z => ?_, i2⟩
    obtain ⟨⟨l', c⟩, hm, e⟩ := List.mem_map.mp z
    exact nM (.inr ⟨c, by cases e; exact hm⟩)
  · rcases List.mem_cons.mp hm with e | hm
    · cases e
      exact ⟨fun z => nM (.inl z), _, h0, dx, fs, rfl, cC, nn, dd⟩
    · exact i3 l' c hm
  · obtain ⟨c, hc⟩ := ha
    rcases List.mem_cons.mp hc with e | hc
    · cases e
      exact .inr n0
    · exact .inl ⟨c, hc⟩
theorem own_sideS {K : PySem.W.Frag} {S0 : MS} {W : Own} {r r' : Nat} {G H G1 H1 : Hp} {l : Addr} {c0 : OC} {o0 : HO} (m : Mv S0.M G H G1 H1) (w0 : Wd (ows K S0 W) r' G H) (w : Wd (ows K S0 W) r G1 H1) (n0 : H l = none) (g0 : G1 l = none) (h0 : H1 l = some o0) (hc : c0.ok K G1 o0) : Wd (ows K S0 ((l, c0) :: W)) r G1 H1 ∧ Ms S0.M W ((l, c0) :: W) G H G1 H1 := by
  have nM : ¬ (ows K S0 W).M l := fun z => by
    obtain ⟨o, e⟩ := (ows K S0 W).dom w0.inv z
    rw [n0] at e
    cases e
  obtain ⟨i1, i2, i3⟩ := w.inv
  have ms : Ms S0.M W W G H G1 H1 := ⟨m.gr, m.sub, fun a o e _ => m.old a o e, fun a o e n1 _ => m.kp a o e n1, m.dom, fun _ h => .inl h⟩
  refine ⟨⟨w.sub, fun a ha => ?_, i1, ?_, fun l' c hm => ?_⟩, ms.gr, ms.sub, ms.old, ms.kp, ms.dom, fun a ha => ?_⟩
  · rcases ha with ha | ⟨c, ha⟩
    · exact w.no a (.inl ha)
    · rcases List.mem_cons.mp ha with e | ha
      · cases e
        exact g0
      · exact w.no a (.inr ⟨c, ha⟩)
  · rw [List.map_cons, List.nodup_cons]
    refine ⟨fun z => ?_, i2⟩
    obtain ⟨⟨l', c⟩, hm, e⟩ := List.mem_map.mp z
    exact nM (.inr ⟨c, by cases e; exact hm⟩)
  · rcases List.mem_cons.mp hm with e | hm
    · cases e
      exact ⟨fun z => nM (.inl z), _, h0, hc⟩
    · exact i3 l' c hm
  · obtain ⟨c, hc⟩ := ha
    rcases List.mem_cons.mp hc with e | hc
    · cases e
      exact .inr n0
    · exact .inl ⟨c, hc⟩
theorem few_ok {α : Type} {ds : List PyData} {t : Dr α} {n : Nat} {Φ : α → Nat → Prop} (h : (if ds.length ≤ 100000 then t else .bad).ok n Φ) : ds.length ≤ 100000 ∧ t.ok n Φ := by
  split at h
  · exact ⟨by assumption, h⟩
  · exact h.elim
theorem _root_.DL.Ms.ofMw {M : Addr → Prop} {W : Own} {G H G1 H1 : Hp} (m : Mv M G H G1 H1) : Ms M W W G H G1 H1 := ⟨m.gr, m.sub, fun a o e _ => m.old a o e, fun a o e n1 _ => m.kp a o e n1, m.dom, fun _ h => .inl h⟩
inductive BR (K : PySem.W.Frag) (G : Hp) (W' : Own) : List V → List Sl → List Addr → Prop
  | nil : BR K G W' [] [] []
  | dat {v : V} {d : PyData} {vs : List V} {ss : List Sl} {us : List Addr} (h : DD K G v d) (t : BR K G W' vs ss us) : BR K G W' (v :: vs) (.dat d :: ss) us
  | own {l : Addr} {ds : List PyData} {vs : List V} {ss : List Sl} {us : List Addr} (h : (l, .lst ds) ∈ W') (n : l ∉ us) (t : BR K G W' vs ss us) : BR K G W' (.ref l :: vs) (.own ds :: ss) (l :: us)
  | dct {l : Addr} {kvs : List (List Int × PyData)} {vs : List V} {ss : List Sl} {us : List Addr} (h : (l, .dct l kvs) ∈ W') (n : l ∉ us) (t : BR K G W' vs ss us) : BR K G W' (.ref l :: vs) (.dct kvs :: ss) (l :: us)
def Rx (ob : Option Bo) (env : En) (δ : List SD) (W : Own) (us : List Addr) : Prop := Rp ob env δ W ∧ ∀ (i : Nat) (s : Sl) (l : Addr), env[i]? = some s → isOwn s = true → δ[i]? = some (.ref l) → l ∉ us
theorem Rx.dat {ob : Option Bo} {env : En} {δ : List SD} {W : Own} {us : List Addr} (r : Rx ob env δ W us) (i : Nat) (d : PyData) : Rx ob (env.set i (.dat d)) (δ.set i (.dat d)) W us := by
  refine ⟨r.1.setD i d, fun j s l h1 hs h2 => ?_⟩
  rcases set_of h1 with ⟨rfl, e1, _⟩ | ⟨ne, h1⟩
  · rw [e1] at hs
    cases hs
  · rw [List.getElem?_set_ne ne] at h2
    exact r.2 j s l h1 hs h2
theorem Rx.ownS {ob : Option Bo} {env : En} {δ : List SD} {W : Own} {us : List Addr} {l : Addr} {s : Sl} {c : OC} (r : Rx ob env δ W (l :: us)) (hs : isOwn s = true) (hc : okS s l c) (hl : (l, c) ∈ W) (n : l ∉ us) (i : Nat) : Rx ob (env.set i s) (δ.set i (.ref l)) W us := by
  have hno : ∀ (j : Nat) (u : Sl) (l' : Addr), env[j]? = some u → isOwn u = true → δ[j]? = some (.ref l') → l' ≠ l := fun j u l' a hu b e => r.2 j u l' a hu b (e ▸ List.mem_cons_self ..)
  refine ⟨⟨by rw [List.length_set, List.length_set, r.1.len], fun j e h => ?_, fun j o h => ?_, fun j u h hu => ?_, fun j k u v l' h1 h2 hu hv h3 h4 => ?_⟩, fun j u l' h1 hu h2 => ?_⟩
  · rcases set_of h with ⟨rfl, e1, _⟩ | ⟨ne, h⟩
    · rw [← e1] at hs
      cases hs
    · rw [List.getElem?_set_ne ne]
      exact r.1.dat j e h
  · rcases set_of h with ⟨rfl, e1, _⟩ | ⟨ne, h⟩
    · rw [← e1] at hs
      cases hs
    · rw [List.getElem?_set_ne ne]
      exact r.1.box j o h
  · rcases set_of h with ⟨rfl, e1, hi⟩ | ⟨ne, h⟩
    · subst e1
      exact ⟨l, c, List.getElem?_set_self (by rw [r.1.len]; exact hi), hl, hc⟩
    · rw [List.getElem?_set_ne ne]
      exact r.1.cel j u h hu
  · rcases set_of h1 with ⟨rfl, e1, hi⟩ | ⟨n1, h1⟩
    · rw [List.getElem?_set_self (by rw [r.1.len]; exact hi)] at h3
      cases h3
      rcases set_of h2 with ⟨rfl, _, _⟩ | ⟨n2, h2⟩
      · rfl
      · rw [List.getElem?_set_ne n2] at h4
        exact absurd rfl (hno k v l h2 hv h4)
    · rw [List.getElem?_set_ne n1] at h3
      rcases set_of h2 with ⟨rfl, e1, hi⟩ | ⟨n2, h2⟩
      · rw [List.getElem?_set_self (by rw [r.1.len]; exact hi)] at h4
        cases h4
        exact absurd rfl (hno j u l h1 hu h3)
      · rw [List.getElem?_set_ne n2] at h4
        exact r.1.injA j k u v l' h1 h2 hu hv h3 h4
  · rcases set_of h1 with ⟨rfl, e1, hi⟩ | ⟨ne, h1⟩
    · rw [List.getElem?_set_self (by rw [r.1.len]; exact hi)] at h2
      cases h2
      exact n
    · rw [List.getElem?_set_ne ne] at h2
      exact fun z => r.2 j u l' h1 hu h2 (List.mem_cons_of_mem _ z)
theorem Rx.own {ob : Option Bo} {env : En} {δ : List SD} {W : Own} {us : List Addr} {l : Addr} {ds : List PyData} (r : Rx ob env δ W (l :: us)) (hl : (l, .lst ds) ∈ W) (n : l ∉ us) (i : Nat) : Rx ob (env.set i (.own ds)) (δ.set i (.ref l)) W us := r.ownS (s := .own ds) (c := .lst ds) rfl rfl hl n i
theorem Rx.dct {ob : Option Bo} {env : En} {δ : List SD} {W : Own} {us : List Addr} {l : Addr} {kvs : List (List Int × PyData)} (r : Rx ob env δ W (l :: us)) (hl : (l, .dct l kvs) ∈ W) (n : l ∉ us) (i : Nat) : Rx ob (env.set i (.dct kvs)) (δ.set i (.ref l)) W us := r.ownS (s := .dct kvs) (c := .dct l kvs) rfl rfl hl n i
theorem Rx.of {ob : Option Bo} {env : En} {δ : List SD} {W W' : Own} {us : List Addr} (r : Rp ob env δ W') (r0 : Rp ob env δ W) (u : ∀ l ∈ us, ∀ c, (l, c) ∉ W) : Rx ob env δ W' us := ⟨r, fun i s l h1 hs h2 z => by
  obtain ⟨l2, c, a, b, _⟩ := r0.cel i s h1 hs
  rw [h2] at a
  cases a
  exact u l z c b⟩
theorem Rx.put {K : PySem.W.Frag} {G : Hp} {ob : Option Bo} {env : En} {δ : List SD} {σ : L2.St} {W : Own} {v : V} {s : Sl} {vs : List V} {ss : List Sl} {us : List Addr} (r : Rx ob env δ W us) (hq : SlD K G σ δ) (b : BR K G W (v :: vs) (s :: ss) us) (i : Nat) :
    ∃ δ' us', Rx ob (env.set i s) δ' W us' ∧ SlD K G (σ.set i (some v)) δ' ∧ BR K G W vs ss us' := by
  cases b with
  | dat h t => exact ⟨_, _, r.dat i _, hq.set (s := .dat _) h i, t⟩
  | own h n t => exact ⟨_, _, r.own h n i, hq.set (s := .ref _) rfl i, t⟩
  | dct h n t => exact ⟨_, _, r.dct h n i, hq.set (s := .ref _) rfl i, t⟩
theorem BR.ne {K : PySem.W.Frag} {G : Hp} {W : Own} {vs : List V} {s : Sl} {ss : List Sl} {us : List Addr} (b : BR K G W vs (s :: ss) us) : ∃ v vs', vs = v :: vs' := by
  cases b with
  | dat _ _ => exact ⟨_, _, rfl⟩
  | own _ _ _ => exact ⟨_, _, rfl⟩
  | dct _ _ _ => exact ⟨_, _, rfl⟩
theorem Rp.more {ob : Option Bo} {env : En} {δ : List SD} {W W' : Own} (r : Rp ob env δ W) (h : ∀ x ∈ W, x ∈ W') : Rp ob env δ W' := ⟨r.len, r.dat, r.box, fun i s e hs => by
  obtain ⟨l, c, a, b, o⟩ := r.cel i s e hs
  exact ⟨l, c, a, h _ b, o⟩, r.injA⟩
theorem BR.mono {K : PySem.W.Frag} {G G' : Hp} {W : Own} {vs : List V} {ss : List Sl} {us : List Addr} (b : BR K G W vs ss us) (g : ∀ a o, G a = some o → G' a = some o) : BR K G' W vs ss us := by
  induction b with
  | nil => exact .nil
  | dat h t ih => exact .dat (h.mono g) ih
  | own h n t ih => exact .own h n ih
  | dct h n t ih => exact .dct h n ih
theorem puts {K : PySem.W.Frag} {G : Hp} {ob : Option Bo} {W : Own} : ∀ (is : List Nat) {env : En} {δ : List SD} {σ : L2.St} {vs : List V} {ss : List Sl} {us : List Addr} {n : Nat} {Φ : En → Nat → Prop}, Rx ob env δ W us → SlD K G σ δ → BR K G W vs ss us → (putN env is ss).ok n Φ →
    vs.length = is.length ∧ ∃ env' δ' σ', Rp ob env' δ' W ∧ SlD K G σ' δ' ∧ Φ env' n ∧ ∀ (H : Hp) (Q : L2.St → Hp → Prop), Q σ' H → gNs is vs σ H Q
  | [], env, δ, σ, vs, [], us, n, Φ, r, hq, b, h => by
    cases b
    exact ⟨rfl, env, δ, σ, r.1, hq, h, fun H Q q => ⟨rfl, q⟩⟩
  | [], env, δ, σ, vs, _ :: _, us, n, Φ, r, hq, b, h => h.elim
  | _ :: _, env, δ, σ, vs, [], us, n, Φ, r, hq, b, h => h.elim
  | i :: is, env, δ, σ, vs, s :: ss, us, n, Φ, r, hq, b, h => by
    obtain ⟨v, vs, rfl⟩ := b.ne
    obtain ⟨δ1, us1, r1, q1, b1⟩ := r.put hq b i
    obtain ⟨e, env', δ', σ', r2, q2, p, k⟩ := puts is r1 q1 b1 (show (putN (env.set i s) is ss).ok n Φ from h)
    exact ⟨congrArg Nat.succ e, env', δ', σ', r2, q2, p, fun H Q q => ⟨v, vs, rfl, k H Q q⟩⟩
theorem asSeq_ok {d : PyData} {n : Nat} {Φ : List PyData → Nat → Prop} (h : (asSeq d).ok n Φ) : ∃ ds, IsSeq d ds ∧ Φ ds n := by
  cases d with
  | list ds => exact ⟨ds, .inl rfl, h⟩
  | tuple ds => exact ⟨ds, .inr rfl, h⟩
  | none => exact h.elim
  | bool _ => exact h.elim
  | int _ => exact h.elim
  | str _ => exact h.elim
  | dict _ => exact h.elim
section
variable {q : Gq} {ob : Option Bo} (hD : HD q.K q.w q.da) (hB : HB q ob)
include hD hB
theorem sB : ∀ (b : B) (env : En) δ W n Φ, Rp ob env δ W → (evB b env).ok n Φ → ∀ σ G H, SlD q.K G σ δ → Wd (ows q.K (mS ob) W) n G H → ∀ Q : List V → Hp → Prop,
    (∀ vs ss us W' n' G2 H2, Ms (mS ob).M W W' G H G2 H2 → Wd (ows q.K (mS ob) W') n' G2 H2 → BR q.K G2 W' vs ss us → (∀ x ∈ W, x ∈ W') → (∀ l ∈ us, ∀ c, (l, c) ∉ W) → Φ ss n' → Q vs H2) → tB q b σ H Q
  | .nil, env, δ, W, n, Φ, hR, hk, σ, G, H, hq, w, Q, hQ => hQ [] [] [] W n G H (.ofMw (Mv.refl w.sub)) w .nil (fun _ h => h) (fun _ h => nomatch h) hk
  | .consE e r, env, δ, W, n, Φ, hR, hk, σ, G, H, hq, w, Q, hQ => by
    refine sE hD hB e env δ W n _ hR (Dr.ok_bind.mp hk) σ G H hq w _ fun v d n1 G1 H1 m1 w1 hv hk1 => ?_
    refine sB r env δ W n1 _ hR (Dr.ok_bind.mp hk1) σ G1 H1 (hq.mono m1.gr) w1 _ fun vs ss us W' n2 G2 H2 m2 w2 b2 s2 u2 hk2 => ?_
    exact hQ (v :: vs) (.dat d :: ss) us W' n2 G2 H2 ((Ms.ofMw m1).trans m2) w2 (.dat (hv.mono m2.gr) b2) s2 u2 hk2
  | .consF f r, env, δ, W, n, Φ, hR, hk, σ, G, H, hq, w, Q, hQ => by
    refine sF hD hB f env δ W n _ hR (Dr.ok_bind.mp hk) σ G H hq w _ fun l xs ds n1 G1 H1 m1 w1 n0 g0 h0 dd hk1 => ?_
    obtain ⟨w2, m2⟩ := own_side m1 w w1 n0 g0 h0 dd
    refine sB r env δ ((l, .lst ds) :: W) n1 _ (hR.more fun x hx => List.mem_cons_of_mem _ hx) (Dr.ok_bind.mp hk1) σ G1 H1 (hq.mono m1.gr) w2 _ fun vs ss us W' n2 G2 H2 m3 w3 b3 s3 u3 hk2 => ?_
    refine hQ (.ref l :: vs) (.own ds :: ss) (l :: us) W' n2 G2 H2 (m2.trans m3) w3 (.own (s3 _ (List.mem_cons_self ..)) (fun z => u3 l z _ (List.mem_cons_self ..)) b3) (fun x hx => s3 x (List.mem_cons_of_mem _ hx)) (fun l' hl' c hc => ?_) hk2
    rcases List.mem_cons.mp hl' with e | hl'
    · subst e
      exact has_of w n0 c hc
    · exact u3 l' hl' c (List.mem_cons_of_mem _ hc)
  | .consD0 r, env, δ, W, n, Φ, hR, hk, σ, G, H, hq, w, Q, hQ => fun p o np dc => by
    obtain ⟨w2, m2⟩ := own_new (c := .dct p []) w np ⟨o, [], rfl, dc, (fun _ h => nomatch h), rfl, .nil⟩
    refine sB r env δ ((p, .dct p []) :: W) n _ (hR.more fun x hx => List.mem_cons_of_mem _ hx) (Dr.ok_bind.mp hk) σ G _ hq w2 _ fun vs ss us W' n2 G2 H2 m3 w3 b3 s3 u3 hk2 => ?_
    refine hQ (.ref p :: vs) (.dct [] :: ss) (p :: us) W' n2 G2 H2 (m2.trans m3) w3 (.dct (s3 _ (List.mem_cons_self ..)) (fun z => u3 p z _ (List.mem_cons_self ..)) b3) (fun x hx => s3 x (List.mem_cons_of_mem _ hx)) (fun l' hl' c hc => ?_) hk2
    rcases List.mem_cons.mp hl' with e | hl'
    · subst e
      exact has_of w np c hc
    · exact u3 l' hl' c (List.mem_cons_of_mem _ hc)
  | .consD1 k v r, env, δ, W, n, Φ, hR, hk, σ, G, H, hq, w, Q, hQ => fun p o0 np dc0 => by
    have nG : G p = none := by
      cases e : G p with
      | none => rfl
      | some o =>
        rw [w.sub p o e] at np
        cases np
    have nM : ¬ (ows q.K (mS ob) W).M p := fun z => by
      obtain ⟨o, e⟩ := (ows q.K (mS ob) W).dom w.inv z
      rw [e] at np
      cases np
    have nM' : ¬ (mS ob).M p := fun z => nM (.inl z)
    have m0 : Mv (mS ob).M G H G (upd H p (DX.xdO p o0)) := (Mv.refl w.sub).loc np nG
    have w0 := w.loc (o := DX.xdO p o0) nG nM
    refine sE hD hB k env δ W n _ hR (Dr.ok_bind.mp hk) σ G _ hq w0 _ fun x dx n1 G1 H1 m1 w1 hx hk1 => ?_
    have n1' : G1 p = none := (m1.old p _ upd_same).trans nG
    have h1 : H1 p = some (DX.xdO p o0) := m1.kp p _ upd_same nM'
    refine sE hD hB v env δ W n1 _ hR (Dr.ok_bind.mp hk1) σ G1 H1 (hq.mono m1.gr) w1 _ fun y dy n2 G2 H2 m2 w2 hy hk2 => ?_
    have n2' : G2 p = none := (m2.old p _ h1).trans n1'
    have h2 : H2 p = some (DX.xdO p o0) := m2.kp p _ h1 nM'
    obtain ⟨kk, b, rfl, hT, hk3⟩ := keyD_ok hx (Dr.ok_bind.mp hk2)
    have hT2 : SqT q.K G2 b (kk.map V.int) := sqm m2.gr hT
    refine ⟨b, kk, rfl, sqm w2.sub hT2, h2, fun o' dc => ?_⟩
    have m3 : Mv (mS ob).M G H G2 (upd H2 p (DX.xdO p o')) := ((m0.trans m1).trans m2).loc np n2'
    have w3 := w2.loc (o := DX.xdO p o') n2' nM
    obtain ⟨w4, m4⟩ := own_sideS (c0 := .dct p [(kk, dy)]) m3 w w3 np n2' upd_same ⟨o', [(kk, b, y)], rfl, dc, (fun e he => by rw [List.mem_singleton.mp he]; exact hT2), rfl, .cons hy .nil⟩
    refine sB r env δ ((p, .dct p [(kk, dy)]) :: W) n2 _ (hR.more fun x hx => List.mem_cons_of_mem _ hx) (Dr.ok_bind.mp hk3) σ G2 _ (hq.mono m3.gr) w4 _ fun vs ss us W' n5 G5 H5 m5 w5 b5 s5 u5 hk5 => ?_
    refine hQ (.ref p :: vs) (.dct [(kk, dy)] :: ss) (p :: us) W' n5 G5 H5 (m4.trans m5) w5 (.dct (s5 _ (List.mem_cons_self ..)) (fun z => u5 p z _ (List.mem_cons_self ..)) b5) (fun x hx => s5 x (List.mem_cons_of_mem _ hx)) (fun l' hl' c hc => ?_) hk5
    rcases List.mem_cons.mp hl' with e | hl'
    · subst e
      exact has_of w np c hc
    · exact u5 l' hl' c (List.mem_cons_of_mem _ hc)
theorem gput {i : Nat} {k : E} {env : En} {δ : List SD} {W : Own} {n : Nat} {α : Type} {F : List (List Int × PyData) → Dr α} {Φ : α → Nat → Prop} {m : List (List Int × PyData)} {v : V} {d : PyData} (hR : Rp ob env δ W) (ed : env[i]? = some (.dct m))
    {G H : Hp} (hv : DD q.K G v d) (hk : ((evE k env).bind fun x => (keyD x).bind fun kk => if m.length ≤ 100000 then F (BF.dput m kk d) else .bad).ok n Φ) {σ : L2.St} (hq : SlD q.K G σ δ) (w : Wd (ows q.K (mS ob) W) n G H) (Q : L2.St → Hp → Prop)
    (hQ : ∀ m' W' n' G' H', Ms (mS ob).M W W' G H G' H' → Wd (ows q.K (mS ob) W') n' G' H' → SlD q.K G' σ δ → Rp ob (env.set i (.dct m')) δ W' → (F m').ok n' Φ → Q σ H') : gSub (tVar i) (tE q k) (DX.rDSet q.K) v σ H Q := by
  obtain ⟨l, hl, hm⟩ := hR.dct i m ed
  obtain ⟨j, hW⟩ := List.mem_iff_getElem?.mp hm
  refine ⟨.ref l, hq.ref hl, sE hD hB k env δ W n _ hR (Dr.ok_bind.mp hk) σ G H hq w _ fun y d2 n2 G2 H2 m2 w2 hy hk3 => ?_⟩
  obtain ⟨kk, b, rfl, hT, hk4⟩ := keyD_ok hy (Dr.ok_bind.mp hk3)
  by_cases hle : m.length ≤ 100000
  · rw [if_pos hle] at hk4
    obtain ⟨nM, nG, o, L, h, c, ks, ke, dd⟩ := own_dct w2 hW
    obtain ⟨p1, p2, p3⟩ := dput_at (b := b) (hv.mono m2.gr) hT ks ke dd
    refine ⟨l, b, kk, L, o, rfl, rfl, h, c, keys_mono w2.sub ks, sqm w2.sub hT, ?_, fun o' dc' => ?_⟩
    · have := congrArg List.length ke
      rw [List.length_map, List.length_map] at this
      exact Nat.lt_of_le_of_lt (by rw [← this]; exact hle) (by decide)
    · exact hQ _ _ n2 G2 _ ((Ms.ofMw m2).trans (ms_put w2 hW)) (own_put (c' := .dct l (BF.dput m kk d)) w2 hW ⟨o', _, rfl, dc', p1, p2, p3⟩) (hq.mono m2.gr) (hR.putX ed hl hW _) hk4
  · rw [if_neg hle] at hk4
    exact hk4.elim
theorem parN_ok (is : List Nat) (b : B) (env : En) (hn16 : is.length ≤ 16) : SS q ob (tAsg (tTup (tB q b)) (gTup q.K is.length (gNs is))) env ((evB b env).bind fun xs => (putN env is xs).bind fun env' => .ret (.nx env')) := fun δ W n Φ hR hk σ G H hq w D x => by
  refine sB hD hB b env δ W n _ hR (Dr.ok_bind.mp hk) σ G H hq w _ fun vs ss us W' n1 G1 H1 m1 w1 br sW uW hk1 => ?_
  have hx : Rx ob env δ W' us := Rx.of (hR.more sW) hR uW
  have q0 := hq.mono m1.gr
  obtain ⟨el, env', δ', σ', r2, q2, k2, g⟩ := puts is hx q0 br (Dr.ok_bind.mp hk1)
  by_cases hz : vs.length ≤ sizeLine
  · refine ⟨hz, fun p np => ?_⟩
    have up : ∀ c o, H1 c = some o → upd H1 p (.tup vs) c = some o := fun c o e => by
      have ne : c ≠ p := fun z => by
        rw [z, np] at e
        cases e
      rw [upd_ne ne]
      exact e
    have mv : Mv (fun _ => False) G1 H1 G1 (upd H1 p (.tup vs)) := ⟨fun _ _ e => e, fun c o e => up c o (w1.sub c o e), fun _ _ _ => rfl, fun c o e _ => up c o e, fun c o e => ⟨o, up c o e⟩⟩
    exact ⟨p, _, rfl, .inl (.inl upd_same), el, g _ _ (x.nx _ _ _ W' n1 G1 _ (m1.trans (.ofMw (mv.weak (M' := (mS ob).M) fun _ f => f.elim))) (w1.pure mv) q2 r2 k2)⟩
  · exact absurd (by rw [el]; exact Nat.le_trans hn16 (by decide)) hz
theorem sS : ∀ (s : S) (env : En), SS q ob (tS q s) env (evS s env)
  | .next, env => fun δ W n Φ hR hk σ G H hq w D x => x.nx σ env δ W n G H (.ofMw (Mv.refl w.sub)) w hq hR hk
  | .seq a b, env => fun δ W n Φ hR hk σ G H hq w D x => by
    refine sS a env δ W n _ hR (Dr.ok_bind.mp hk) σ G H hq w _ ⟨fun σ' env' δ' W' n' G2 H2 m w2 q2 r2 k2 => ?_, fun v d W' n' G2 H2 m w2 q2 k2 => x.rt v d W' n' G2 H2 m w2 q2 k2, fun l xs ds W' n' G2 H2 m w2 b2 g2 h2 d2 k2 => x.rtO l xs ds W' n' G2 H2 m w2 b2 g2 h2 d2 k2, fun σ' env' δ' W' n' G2 H2 m w2 q2 r2 k2 => x.bk σ' env' δ' W' n' G2 H2 m w2 q2 r2 k2, fun σ' env' δ' W' n' G2 H2 m w2 q2 r2 k2 => x.ct σ' env' δ' W' n' G2 H2 m w2 q2 r2 k2, fun c fs W' n' G2 H2 m w2 k2 => x.ex c fs W' n' G2 H2 m w2 k2⟩
    exact sS b env' δ' W' n' Φ r2 k2 σ' G2 H2 q2 w2 D (x.at m)
  | .asg g e, env => fun δ W n Φ hR hk σ G H hq w D x => by
    refine sE hD hB e env δ W n _ hR (Dr.ok_bind.mp hk) σ G H hq w _ fun v d n1 G1 H1 m1 w1 hv hk1 => ?_
    obtain ⟨env', ep, hk2⟩ := Dr.ok_opt (Dr.ok_bind.mp hk1)
    obtain ⟨δ', hR', _, tg⟩ := sG (K := q.K) g ep hR
    exact tg v σ G1 H1 (hq.mono m1.gr) hv w1.sub _ fun σ2 q2 _ => x.nx σ2 env' δ' W n1 G1 H1 (.ofMw m1) w1 q2 hR' hk2
  | .asg2 i j e, env => fun δ W n Φ hR hk σ G H hq w D x => by
    refine sE hD hB e env δ W n _ hR (Dr.ok_bind.mp hk) σ G H hq w _ fun v d n1 G1 H1 m1 w1 hv hk1 => ?_
    exact x.nx _ _ _ W n1 G1 H1 (.ofMw m1) w1 (((hq.mono m1.gr).set (s := .dat d) hv i).set (s := .dat d) hv j) ((hR.setD i _).setD j _) hk1
  | .par i j as, env => fun δ W n Φ hR hk σ G H hq w D x => by
    refine sA hD hB as env δ W n _ hR (Dr.ok_bind.mp hk) σ G H hq w _ fun vs ds n1 G1 H1 m1 w1 hv hk1 => ?_
    cases hv with
    | nil => exact hk1.elim
    | cons h1 t =>
      cases t with
      | nil => exact hk1.elim
      | cons h2 t =>
        cases t with
        | cons _ _ => exact hk1.elim
        | nil => exact ⟨_, _, rfl, x.nx _ _ _ W n1 G1 H1 (.ofMw m1) w1 (((hq.mono m1.gr).set (s := .dat _) h1 i).set (s := .dat _) h2 j) ((hR.setD i _).setD j _) hk1⟩
  | .par3 i j k as, env => fun δ W n Φ hR hk σ G H hq w D x => by
    refine sA hD hB as env δ W n _ hR (Dr.ok_bind.mp hk) σ G H hq w _ fun vs ds n1 G1 H1 m1 w1 hv hk1 => ?_
    cases hv with
    | nil => exact hk1.elim
    | cons h1 t =>
      cases t with
      | nil => exact hk1.elim
      | cons h2 t =>
        cases t with
        | nil => exact hk1.elim
        | cons h3 t =>
          cases t with
          | cons _ _ => exact hk1.elim
          | nil => exact ⟨_, _, _, rfl, x.nx _ _ _ W n1 G1 H1 (.ofMw m1) w1 ((((hq.mono m1.gr).set (s := .dat _) h1 i).set (s := .dat _) h2 j).set (s := .dat _) h3 k) (((hR.setD i _).setD j _).setD k _) hk1⟩
  | .aug i o e, env => fun δ W n Φ hR hk σ G H hq w D x => by
    obtain ⟨d, ed, hk1⟩ := slot_ok (Dr.ok_bind.mp hk)
    obtain ⟨v, ev, dv⟩ := hq.dat (hR.dat i d ed)
    refine ⟨v, ev, sE hD hB e env δ W n _ hR (Dr.ok_bind.mp hk1) σ G H hq w _ fun u d2 n1 G1 H1 m1 w1 hu hk2 => ?_⟩
    obtain ⟨z, ez, hk3⟩ := Dr.ok_opt (Dr.ok_bind.mp hk2)
    refine o.ok q.K d d2 z ez v u G1 H1 (dv.mono m1.gr) hu w1.sub _ fun y s G3 H3 m3 hy hs => ?_
    subst hs
    have mm := m1.trans (m3.weak (M' := (mS ob).M) fun _ f => f.elim)
    exact x.nx _ _ _ W n1 G3 H3 (.ofMw mm) (w1.pure m3) ((hq.mono mm.gr).set hy i) (hR.setD i z) hk3
  | .newO i as, env => fun δ W n Φ hR hk σ G H hq w D x => by
    refine sA hD hB as env δ W n _ hR (Dr.ok_bind.mp hk) σ G H hq w _ fun vs ds n1 G1 H1 m1 w1 hv hk1 => ?_
    by_cases hl : ds.length ≤ 100000
    · rw [if_pos hl] at hk1
      refine ⟨Nat.le_trans (by rw [hv.len]; exact hl) (by decide), fun p np => ?_⟩
      obtain ⟨w3, m3⟩ := own_new (c := .lst ds) w1 np ⟨_, rfl, hv⟩
      exact x.nx _ _ _ _ n1 G1 _ ((Ms.ofMw m1).trans m3) w3 ((hq.mono m1.gr).set (s := .ref p) (v := .ref p) rfl i) (hR.new (has_of w1 np) i ds) hk1
    · rw [if_neg hl] at hk1
      exact hk1.elim
  | .newL i e, env => fun δ W n Φ hR hk σ G H hq w D x => by
    refine sE hD hB e env δ W n _ hR (Dr.ok_bind.mp hk) σ G H hq w _ fun v d n1 G1 H1 m1 w1 hv hk1 => ?_
    obtain ⟨ds, hs, hk2⟩ := asSeq_ok (Dr.ok_bind.mp hk1)
    have sq : ∃ a ys, v = .ref a ∧ (SqL q.K H1 a ys ∨ SqT q.K H1 a ys) ∧ DDs q.K G1 ys ds := by
      rcases hs with rfl | rfl
      · cases hv with
        | @lst a ys _ hh t => exact ⟨a, ys, rfl, .inl (.inl (.inl (w1.sub _ _ hh))), t⟩
      · cases hv with
        | @tup a ys _ hh t => exact ⟨a, ys, rfl, .inr ((sqm w1.sub hh)), t⟩
    obtain ⟨p0, ys, rfl, hsq, dd⟩ := sq
    refine ⟨p0, ys, rfl, hsq, fun p np => ?_⟩
    obtain ⟨w3, m3⟩ := own_new (c := .lst ds) w1 np ⟨_, rfl, dd⟩
    exact x.nx _ _ _ _ n1 G1 _ ((Ms.ofMw m1).trans m3) w3 ((hq.mono m1.gr).set (s := .ref p) (v := .ref p) rfl i) (hR.new (has_of w1 np) i ds) hk2
  | .app i e, env => fun δ W n Φ hR hk σ G H hq w D x => by
    obtain ⟨ds, eo, hk1⟩ := own_ok (Dr.ok_bind.mp hk)
    obtain ⟨l, hl, hm⟩ := hR.own i ds eo
    obtain ⟨j, hW⟩ := List.mem_iff_getElem?.mp hm
    obtain ⟨_, _, xs0, h0, _⟩ := own_lst w hW
    refine ⟨.ref l, hq.ref hl, .inl ⟨rfl, _, .inl (.inl h0)⟩, sE hD hB e env δ W n _ hR (Dr.ok_bind.mp hk1) σ G H hq w _ fun v d n1 G1 H1 m1 w1 hv hk2 => ?_⟩
    by_cases hle : ds.length ≤ 100000
    · rw [if_pos hle] at hk2
      obtain ⟨_, nG, xs, hx, dd⟩ := own_lst w1 hW
      refine ⟨l, xs, v, rfl, rfl, hx, Nat.lt_of_le_of_lt (by rw [dd.len]; exact hle) (by decide), ?_⟩
      exact x.nx σ _ δ _ n1 G1 _ ((Ms.ofMw m1).trans (ms_put w1 hW)) (own_putL w1 hW ⟨_, rfl, dd.snoc hv⟩) (hq.mono m1.gr) (hR.put eo hl hW _) hk2
    · rw [if_neg hle] at hk2
      exact hk2.elim
  | .setix i ix e, env => fun δ W n Φ hR hk σ G H hq w D x => by
    obtain ⟨ds, eo, hk1⟩ := own_ok (Dr.ok_bind.mp hk)
    obtain ⟨l, hl, hm⟩ := hR.own i ds eo
    obtain ⟨j, hW⟩ := List.mem_iff_getElem?.mp hm
    refine sE hD hB e env δ W n _ hR (Dr.ok_bind.mp hk1) σ G H hq w _ fun v d n1 G1 H1 m1 w1 hv hk2 => ?_
    refine ⟨.ref l, (hq.mono m1.gr).ref hl, sE hD hB ix env δ W n1 _ hR (Dr.ok_bind.mp hk2) σ G1 H1 (hq.mono m1.gr) w1 _ fun y d2 n2 G2 H2 m2 w2 hy hk3 => ?_⟩
    cases hy with
    | int k =>
      obtain ⟨m, em, hk4⟩ := Dr.ok_opt (show (Dr.opt (ixN ds.length k)).ok n2 _ from Dr.ok_bind.mp hk3)
      obtain ⟨_, nG, xs, hh, dd⟩ := own_lst w2 hW
      refine ⟨l, xs, k, m, rfl, rfl, hh, by rw [dd.len]; exact em, ?_⟩
      exact x.nx σ _ δ _ n2 G2 _ (((Ms.ofMw m1).trans (.ofMw m2)).trans (ms_put w2 hW)) (own_putL w2 hW ⟨_, rfl, DDs.setAt (hv.mono m2.gr) dd⟩) ((hq.mono m1.gr).mono m2.gr) (hR.put eo hl hW _) hk4
    | non => exact (Dr.ok_bind.mp hk3).elim
    | bl _ => exact (Dr.ok_bind.mp hk3).elim
    | str _ => exact (Dr.ok_bind.mp hk3).elim
    | lst _ _ => exact (Dr.ok_bind.mp hk3).elim
    | tup _ _ => exact (Dr.ok_bind.mp hk3).elim
    | obj _ _ _ => exact (Dr.ok_bind.mp hk3).elim
    | dct _ _ _ _ _ _ => exact (Dr.ok_bind.mp hk3).elim
  | .augix i ix o e, env => fun δ W n Φ hR hk σ G H hq w D x => by
    obtain ⟨ds, eo, hk1⟩ := own_ok (Dr.ok_bind.mp hk)
    obtain ⟨l, hl, hm⟩ := hR.own i ds eo
    obtain ⟨j, hW⟩ := List.mem_iff_getElem?.mp hm
    refine ⟨.ref l, hq.ref hl, sE hD hB ix env δ W n _ hR (Dr.ok_bind.mp hk1) σ G H hq w _ fun y d2 n2 G2 H2 m2 w2 hy hk3 => ?_⟩
    cases hy with
    | int k =>
      obtain ⟨m, em, hk4⟩ := Dr.ok_opt (show (Dr.opt (ixN ds.length k)).ok n2 _ from Dr.ok_bind.mp hk3)
      obtain ⟨d, ed, hk5⟩ := Dr.ok_opt (Dr.ok_bind.mp hk4)
      obtain ⟨_, nG, xs, hh, dd⟩ := own_lst w2 hW
      have ea : atI ds k = some d := by
        unfold atI
        rw [em]
        exact ed
      obtain ⟨v, hv, dv⟩ := atI_dd dd ea
      refine ⟨l, xs, k, v, rfl, rfl, .inl (.inl hh), hv, sE hD hB e env δ W n2 _ hR (Dr.ok_bind.mp hk5) σ G2 H2 (hq.mono m2.gr) w2 _ fun u d3 n3 G3 H3 m3 w3 hu hk6 => ?_⟩
      obtain ⟨z, ez, hk7⟩ := Dr.ok_opt (Dr.ok_bind.mp hk6)
      refine o.ok q.K d d3 z ez v u G3 H3 (dv.mono m3.gr) hu w3.sub _ fun y2 s G4 H4 m4 hy2 hs => ?_
      subst hs
      have w4 := w3.pure m4
      obtain ⟨_, nG4, xs4, hh4, dd4⟩ := own_lst w4 hW
      refine ⟨l, xs4, k, m, rfl, rfl, hh4, by rw [dd4.len]; exact em, ?_⟩
      exact x.nx σ _ δ _ n3 G4 _ ((((Ms.ofMw m2).trans (.ofMw m3)).trans (.ofMw (m4.weak (M' := (mS ob).M) fun _ f => f.elim))).trans (ms_put w4 hW)) (own_putL w4 hW ⟨_, rfl, DDs.setAt hy2 dd4⟩) (((hq.mono m2.gr).mono m3.gr).mono m4.gr) (hR.put eo hl hW _) hk7
    | non => exact (Dr.ok_bind.mp hk3).elim
    | bl _ => exact (Dr.ok_bind.mp hk3).elim
    | str _ => exact (Dr.ok_bind.mp hk3).elim
    | lst _ _ => exact (Dr.ok_bind.mp hk3).elim
    | tup _ _ => exact (Dr.ok_bind.mp hk3).elim
    | obj _ _ _ => exact (Dr.ok_bind.mp hk3).elim
    | dct _ _ _ _ _ _ => exact (Dr.ok_bind.mp hk3).elim
  | .rev i, env => fun δ W n Φ hR hk σ G H hq w D x => by
    obtain ⟨ds, eo, hk1⟩ := own_ok (Dr.ok_bind.mp hk)
    obtain ⟨l, hl, hm⟩ := hR.own i ds eo
    obtain ⟨j, hW⟩ := List.mem_iff_getElem?.mp hm
    obtain ⟨_, _, xs, h0, dd⟩ := own_lst w hW
    refine ⟨.ref l, hq.ref hl, .inl ⟨rfl, _, .inl (.inl h0)⟩, l, xs, rfl, rfl, h0, ?_⟩
    exact x.nx σ _ δ _ n G _ (ms_put w hW) (own_putL w hW ⟨_, rfl, dd.reverse⟩) hq (hR.put eo hl hW _) hk1
  | .setsl i ix e, env => fun δ W n Φ hR hk σ G H hq w D x => by
    obtain ⟨ds, eo, hk1⟩ := own_ok (Dr.ok_bind.mp hk)
    obtain ⟨l, hl, hm⟩ := hR.own i ds eo
    obtain ⟨j, hW⟩ := List.mem_iff_getElem?.mp hm
    refine sE hD hB e env δ W n _ hR (Dr.ok_bind.mp hk1) σ G H hq w _ fun v d n1 G1 H1 m1 w1 hv hk2 => ?_
    refine ⟨.ref l, (hq.mono m1.gr).ref hl, sE hD hB ix env δ W n1 _ hR (Dr.ok_bind.mp hk2) σ G1 H1 (hq.mono m1.gr) w1 _ fun y d2 n2 G2 H2 m2 w2 hy hk3 => ?_⟩
    obtain ⟨es, k, rfl, rfl, k0, k1, k2, hk4⟩ := slPut_ok (Dr.ok_bind.mp hk3)
    obtain ⟨_, nG, xs, hh, dd⟩ := own_lst w2 hW
    cases hy
    cases hv.mono m2.gr with
    | @lst b ys _ hb t =>
      refine ⟨k, rfl, l, b, xs, ys, k, rfl, rfl, rfl, fun z => ?_, hh, w2.sub _ _ hb, k0, by rw [dd.len]; exact k1, Nat.le_trans (by rw [dd.len, t.len]; exact k2) (by decide), ?_⟩
      · subst z
        rw [nG] at hb
        cases hb
      · exact x.nx σ _ δ _ n2 G2 _ (((Ms.ofMw m1).trans (.ofMw m2)).trans (ms_put w2 hW)) (own_putL w2 hW ⟨_, rfl, DDs.app t (DDs.dr _ dd)⟩) ((hq.mono m1.gr).mono m2.gr) (hR.put eo hl hW _) hk4
  | .ext i e, env => fun δ W n Φ hR hk σ G H hq w D x => by
    obtain ⟨ds, eo, hk1⟩ := own_ok (Dr.ok_bind.mp hk)
    obtain ⟨l, hl, hm⟩ := hR.own i ds eo
    obtain ⟨j, hW⟩ := List.mem_iff_getElem?.mp hm
    obtain ⟨_, _, xs0, h0, _⟩ := own_lst w hW
    refine ⟨.ref l, hq.ref hl, .inl ⟨rfl, _, .inl (.inl h0)⟩, sE hD hB e env δ W n _ hR (Dr.ok_bind.mp hk1) σ G H hq w _ fun v d n1 G1 H1 m1 w1 hv hk2 => ?_⟩
    obtain ⟨es, rfl, hle, hk3⟩ := exPut_ok (Dr.ok_bind.mp hk2)
    obtain ⟨_, nG, xs, hx, dd⟩ := own_lst w1 hW
    cases hv with
    | @lst b ys _ hb t =>
      refine ⟨l, b, xs, ys, rfl, rfl, hx, w1.sub _ _ hb, Nat.le_trans (by rw [dd.len, t.len]; exact hle) (by decide), ?_⟩
      exact x.nx σ _ δ _ n1 G1 _ ((Ms.ofMw m1).trans (ms_put w1 hW)) (own_putL w1 hW ⟨_, rfl, DDs.app dd t⟩) (hq.mono m1.gr) (hR.put eo hl hW _) hk3
  | .clr i, env => fun δ W n Φ hR hk σ G H hq w D x => by
    obtain ⟨ds, eo, hk1⟩ := own_ok (Dr.ok_bind.mp hk)
    obtain ⟨l, hl, hm⟩ := hR.own i ds eo
    obtain ⟨j, hW⟩ := List.mem_iff_getElem?.mp hm
    obtain ⟨_, _, xs, h0, dd⟩ := own_lst w hW
    refine ⟨.ref l, hq.ref hl, .inl ⟨rfl, _, .inl (.inl h0)⟩, l, xs, rfl, rfl, h0, ?_⟩
    exact x.nx σ _ δ _ n G _ (ms_put w hW) (own_putL w hW ⟨_, rfl, .nil⟩) hq (hR.put eo hl hW _) hk1
  | .pop i, env => fun δ W n Φ hR hk σ G H hq w D x => by
    obtain ⟨ds, eo, hk1⟩ := own_ok (Dr.ok_bind.mp hk)
    obtain ⟨l, hl, hm⟩ := hR.own i ds eo
    obtain ⟨j, hW⟩ := List.mem_iff_getElem?.mp hm
    obtain ⟨_, _, xs, h0, dd⟩ := own_lst w hW
    by_cases he : ds.isEmpty = true
    · rw [if_pos he] at hk1
      exact hk1.elim
    · rw [if_neg he] at hk1
      have hlen : 0 < xs.length := by
        rw [dd.len]
        cases ds with
        | nil => exact absurd rfl he
        | cons _ _ => exact Nat.succ_pos _
      refine ⟨.ref l, hq.ref hl, .inl ⟨rfl, _, .inl (.inl h0)⟩, l, xs, _, rfl, rfl, h0, List.getElem?_eq_getElem (by omega), ?_⟩
      exact x.nx σ _ δ _ n G _ (ms_put w hW) (own_putL w hW ⟨_, rfl, DDs.dl dd⟩) hq (hR.put eo hl hW _) hk1
  | .popA g i e, env => fun δ W n Φ hR hk σ G H hq w D x => by
    obtain ⟨ds, eo, hk1⟩ := own_ok (Dr.ok_bind.mp hk)
    obtain ⟨l, hl, hm⟩ := hR.own i ds eo
    obtain ⟨j, hW⟩ := List.mem_iff_getElem?.mp hm
    obtain ⟨_, _, xs0, h0, _⟩ := own_lst w hW
    refine ⟨.ref l, hq.ref hl, .inl ⟨rfl, _, .inl (.inl h0)⟩, sE hD hB e env δ W n _ hR (Dr.ok_bind.mp hk1) σ G H hq w _ fun v d n1 G1 H1 m1 w1 hv hk2 => ?_⟩
    obtain ⟨k, m, rfl, em, hk3⟩ := asIx_ok (Dr.ok_bind.mp hk2)
    obtain ⟨hle, hk3⟩ := few_ok hk3
    obtain ⟨y, ey, hk4⟩ := Dr.ok_opt (Dr.ok_bind.mp hk3)
    obtain ⟨env', ep, hk5⟩ := Dr.ok_opt (Dr.ok_bind.mp hk4)
    obtain ⟨_, nG, xs, hx, dd⟩ := own_lst w1 hW
    cases hv
    obtain ⟨v, hv, dv⟩ := atI_dd dd (show atI ds k = some y by unfold atI; rw [em]; exact ey)
    obtain ⟨h1, h2, h3, h4⟩ := ixN_seq em
    have hr := hR.put eo hl hW (ds.eraseIdx m)
    obtain ⟨δ', hR', _, tg⟩ := sG (K := q.K) g ep hr
    have hxm : xs[m]? = some v := by
      have : atI xs k = xs[m]? := by
        unfold atI
        rw [show ixN xs.length k = some m by rw [dd.len]; exact em]
        rfl
      rw [← this]
      exact hv
    refine ⟨l, xs, k, m, v, rfl, rfl, hx, by have := dd.len; omega, by have := dd.len; omega, by rw [dd.len]; exact h1, hxm, ?_⟩
    have w3 := own_put w1 hW (c' := .lst (ds.eraseIdx m)) (o' := .lst (xs.eraseIdx m)) ⟨_, rfl, DDs.er m dd⟩
    exact tg v σ G1 _ (hq.mono m1.gr) dv w3.sub _ fun σ2 q2 _ => x.nx σ2 env' δ' _ n1 G1 _ ((Ms.ofMw m1).trans (ms_put w1 hW)) w3 q2 hR' hk5
  | .ali k t i j f, env => fun δ W n Φ hR hk σ G H hq w D x => by
    refine sT hD hB t env δ W n _ hR (Dr.ok_bind.mp hk) σ G H hq w _ fun v d n1 G1 H1 m1 w1 hv hk1 => ?_
    cases hv
    obtain ⟨fs, ef, hk2⟩ := own_ok (Dr.ok_bind.mp hk1)
    obtain ⟨ds, es, hk3⟩ := own_ok (Dr.ok_bind.mp hk2)
    cases ds with
    | nil => exact hk3.elim
    | cons y r =>
    simp only at hk3
    obtain ⟨s, hs⟩ : ∃ s, (if v = true then i else j) = s := ⟨_, rfl⟩
    rw [hs] at es hk3
    by_cases c1 : fs.length ≤ 100000
    · rw [if_pos (decide_eq_true c1)] at hk3
      by_cases c2 : r.length ≤ 100000
      · rw [if_pos (decide_eq_true c2)] at hk3
        by_cases c3 : aliOk env k s f = true
        · rw [if_pos c3] at hk3
          unfold aliOk at c3
          simp only [Bool.and_eq_true, decide_eq_true_eq] at c3
          obtain ⟨⟨⟨c4, c5⟩, c6⟩, c7⟩ := c3
          obtain ⟨ls, hls, hms⟩ := hR.own s _ es
          obtain ⟨js, hWs⟩ := List.mem_iff_getElem?.mp hms
          obtain ⟨lf, hlf, hmf⟩ := hR.own f _ ef
          obtain ⟨jf, hWf⟩ := List.mem_iff_getElem?.mp hmf
          have hll : ls ≠ lf := fun e => c7 (hR.inj s f _ _ ls es ef hls (by rw [e]; exact hlf))
          have hjj : js ≠ jf := fun e => by
            subst e
            rw [hWs] at hWf
            injection hWf with e1
            injection e1 with e2 _
            exact hll e2
          have hq1 := hq.mono m1.gr
          have hq2 : SlD q.K G1 (σ.set k (some (.ref ls))) (δ.set k .unk) := hq1.set (s := .unk) (v := .ref ls) trivial k
          have lk : k < σ.length := by
            rw [hq.1, hR.len]
            exact c4
          obtain ⟨_, nG, xs, hx, dd⟩ := own_lst w1 hWs
          obtain ⟨_, nGf, xf, hxf, ddf⟩ := own_lst w1 hWf
          cases dd with
          | @cons a _ as _ da dr =>
          have w3 := own_putL w1 hWs ⟨_, rfl, dr⟩
          have hWf3 : (W.set js (ls, .lst r))[jf]? = some (lf, .lst fs) := by
            rw [List.getElem?_set_ne hjj]
            exact hWf
          obtain ⟨_, nG3, xs3, hx3, dd3⟩ := own_lst w3 hWf3
          have rs := (hR.setU k).put (by rw [List.getElem?_set_ne c5]; exact es) (by rw [List.getElem?_set_ne c5]; exact hls) hWs r
          have rf := rs.put (i := f) (by rw [List.getElem?_set_ne c7, List.getElem?_set_ne c6]; exact ef) (by rw [List.getElem?_set_ne c6]; exact hlf) hWf3 (fs ++ [y])
          have key : (tVar s) σ H1 fun x0 H2 => gName k x0 σ H2 fun σ2 H3 => tDrop (tBM q.K "list" rAppend (tVar f) (tCons (tBM q.K "list" rPopAt (tVar k) (tCons (tC (.int 0)) tNil)) tNil)) D σ2 H3 := by
            refine ⟨.ref ls, hq1.ref hls, ?_⟩
            refine ⟨.ref lf, hq2.ref (by rw [List.getElem?_set_ne c6]; exact hlf), .inl ⟨rfl, _, .inl (.inl hxf)⟩, ⟨.ref ls, List.getElem?_set_self lk, .inl ⟨rfl, _, .inl (.inl hx)⟩, ls, _, 0, 0, a, rfl, rfl, hx, by decide, by decide, (ixN_seq (show ixN (a :: as).length 0 = some 0 by unfold ixN; simp)).1, rfl, ?_⟩⟩
            refine ⟨lf, xs3, a, rfl, rfl, hx3, Nat.lt_of_le_of_lt (by rw [dd3.len]; exact c1) (by decide), ?_⟩
            exact x.nx _ _ _ _ n1 G1 _ (((Ms.ofMw m1).trans (ms_put w1 hWs)).trans (ms_put w3 hWf3)) (own_putL w3 hWf3 ⟨_, rfl, dd3.snoc da⟩) hq2 rf hk3
          cases v with
          | true => 
            have hs' : i = s := hs
            subst hs'
            exact iteT key
          | false => 
            have hs' : j = s := hs
            subst hs'
            exact iteF key
        · rw [if_neg c3] at hk3
          exact hk3.elim
      · rw [if_neg (by rw [decide_eq_false c2]; decide)] at hk3
        exact hk3.elim
    · rw [if_neg (by rw [decide_eq_false c1]; decide)] at hk3
      exact hk3.elim
  | .ins i ix e, env => fun δ W n Φ hR hk σ G H hq w D x => by
    obtain ⟨ds, eo, hk1⟩ := own_ok (Dr.ok_bind.mp hk)
    obtain ⟨l, hl, hm⟩ := hR.own i ds eo
    obtain ⟨j, hW⟩ := List.mem_iff_getElem?.mp hm
    obtain ⟨_, _, xs0, h0, _⟩ := own_lst w hW
    refine ⟨.ref l, hq.ref hl, .inl ⟨rfl, _, .inl (.inl h0)⟩, sE hD hB ix env δ W n _ hR (Dr.ok_bind.mp hk1) σ G H hq w _ fun v d n1 G1 H1 m1 w1 hv hk2 => ?_⟩
    refine sE hD hB e env δ W n1 _ hR (Dr.ok_bind.mp hk2) σ G1 H1 (hq.mono m1.gr) w1 _ fun u d2 n2 G2 H2 m2 w2 hu hk3 => ?_
    obtain ⟨k, rfl, k0, k1, k2, hk4⟩ := insPut_ok (Dr.ok_bind.mp hk3)
    obtain ⟨_, nG, xs, hx, dd⟩ := own_lst w2 hW
    cases hv
    refine ⟨l, xs, k, u, rfl, rfl, hx, Nat.lt_of_le_of_lt (by rw [dd.len]; exact k2) (by decide), k0, k1, ?_⟩
    exact x.nx σ _ δ _ n2 G2 _ (((Ms.ofMw m1).trans (.ofMw m2)).trans (ms_put w2 hW)) (own_putL w2 hW ⟨_, rfl, DDs.app (DDs.app (DDs.tk _ dd) (.cons hu .nil)) (DDs.dr _ dd)⟩) ((hq.mono m1.gr).mono m2.gr) (hR.put eo hl hW _) hk4
  | .newE i e, env => fun δ W n Φ hR hk σ G H hq w D x => by
    refine sF hD hB e env δ W n _ hR (Dr.ok_bind.mp hk) σ G H hq w _ fun l xs ds n1 G1 H1 m1 w1 n0 g0 h0 dd hk1 => ?_
    obtain ⟨w2, m2⟩ := own_side m1 w w1 n0 g0 h0 dd
    exact x.nx _ _ _ _ n1 G1 H1 m2 w2 ((hq.mono m1.gr).set (s := .ref l) (v := .ref l) rfl i) (hR.new (has_of w n0) i ds) hk1
  | .par2B i j b, env => fun δ W n Φ hR hk σ G H hq w D x => by
    refine sB hD hB b env δ W n _ hR (Dr.ok_bind.mp hk) σ G H hq w _ fun vs ss us W' n1 G1 H1 m1 w1 br sW uW hk1 => ?_
    have hx : Rx ob env δ W' us := Rx.of (hR.more sW) hR uW
    have q0 := hq.mono m1.gr
    match ss, hk1 with
    | [s1, s2], hk1 =>
      obtain ⟨v, vs, rfl⟩ := br.ne
      obtain ⟨δ1, us1, r1, q1, b1⟩ := hx.put q0 br i
      obtain ⟨u, vs, rfl⟩ := b1.ne
      obtain ⟨δ2, us2, r2, q2, b2⟩ := r1.put q1 b1 j
      cases b2
      exact ⟨v, u, rfl, x.nx _ _ δ2 W' n1 G1 H1 m1 w1 q2 r2.1 hk1⟩
    | [], hk1 => exact (Dr.ok_bind.mp hk1).elim
    | [_], hk1 => exact (Dr.ok_bind.mp hk1).elim
    | _ :: _ :: _ :: _, hk1 => exact (Dr.ok_bind.mp hk1).elim
  | .par2T i j b, env => fun δ W n Φ hR hk σ G H hq w D x => by
    refine sB hD hB b env δ W n _ hR (Dr.ok_bind.mp hk) σ G H hq w _ fun vs ss us W' n1 G1 H1 m1 w1 br sW uW hk1 => ?_
    have hx : Rx ob env δ W' us := Rx.of (hR.more sW) hR uW
    have q0 := hq.mono m1.gr
    match ss, hk1 with
    | [s1, s2], hk1 =>
      obtain ⟨v, vs, rfl⟩ := br.ne
      obtain ⟨δ1, us1, r1, q1, b1⟩ := hx.put q0 br i
      obtain ⟨u, vs, rfl⟩ := b1.ne
      obtain ⟨δ2, us2, r2, q2, b2⟩ := r1.put q1 b1 j
      cases b2
      refine ⟨by show 2 ≤ sizeLine; decide, fun p np => ?_⟩
      have up : ∀ a o, H1 a = some o → upd H1 p (.tup [v, u]) a = some o := fun a o e => by
        have ne : a ≠ p := fun z => by
          rw [z, np] at e
          cases e
        rw [upd_ne ne]
        exact e
      have mv : Mv (fun _ => False) G1 H1 G1 (upd H1 p (.tup [v, u])) := ⟨fun _ _ e => e, fun a o e => up a o (w1.sub a o e), fun _ _ _ => rfl, fun a o e _ => up a o e, fun a o e => ⟨o, up a o e⟩⟩
      exact ⟨p, _, rfl, .inl (.inl upd_same), rfl, _, _, rfl, _, _, rfl, rfl, x.nx _ _ δ2 W' n1 G1 _ (m1.trans (.ofMw (mv.weak (M' := (mS ob).M) fun _ f => f.elim))) (w1.pure mv) q2 r2.1 hk1⟩
    | [], hk1 => exact (Dr.ok_bind.mp hk1).elim
    | [_], hk1 => exact (Dr.ok_bind.mp hk1).elim
    | _ :: _ :: _ :: _, hk1 => exact (Dr.ok_bind.mp hk1).elim
  | .par3B i j k b, env => fun δ W n Φ hR hk σ G H hq w D x => by
    refine sB hD hB b env δ W n _ hR (Dr.ok_bind.mp hk) σ G H hq w _ fun vs ss us W' n1 G1 H1 m1 w1 br sW uW hk1 => ?_
    have hx : Rx ob env δ W' us := Rx.of (hR.more sW) hR uW
    have q0 := hq.mono m1.gr
    match ss, hk1 with
    | [s1, s2, s3], hk1 =>
      obtain ⟨v, vs, rfl⟩ := br.ne
      obtain ⟨δ1, us1, r1, q1, b1⟩ := hx.put q0 br i
      obtain ⟨u, vs, rfl⟩ := b1.ne
      obtain ⟨δ2, us2, r2, q2, b2⟩ := r1.put q1 b1 j
      obtain ⟨t, vs, rfl⟩ := b2.ne
      obtain ⟨δ3, us3, r3, q3, b3⟩ := r2.put q2 b2 k
      cases b3
      exact ⟨v, u, t, rfl, x.nx _ _ δ3 W' n1 G1 H1 m1 w1 q3 r3.1 hk1⟩
    | [], hk1 => exact (Dr.ok_bind.mp hk1).elim
    | [_], hk1 => exact (Dr.ok_bind.mp hk1).elim
    | [_, _], hk1 => exact (Dr.ok_bind.mp hk1).elim
    | _ :: _ :: _ :: _ :: _, hk1 => exact (Dr.ok_bind.mp hk1).elim
  | .retO i, env => fun δ W n Φ hR hk σ G H hq w D x => by
    obtain ⟨ds, eo, hk1⟩ := own_ok (Dr.ok_bind.mp hk)
    obtain ⟨l, hl, hm⟩ := hR.own i ds eo
    obtain ⟨j, hW⟩ := List.mem_iff_getElem?.mp hm
    obtain ⟨_, nG, xs, h0, dd⟩ := own_lst w hW
    exact ⟨.ref l, hq.ref hl, x.rtO l xs ds W n G H (.ofMw (Mv.refl w.sub)) w (.inl ⟨_, hm⟩) nG h0 dd hk1⟩
  | .retF e, env => fun δ W n Φ hR hk σ G H hq w D x => by
    exact sF hD hB e env δ W n _ hR (Dr.ok_bind.mp hk) σ G H hq w _ fun l xs ds n1 G1 H1 m1 w1 n0 g0 h0 dd hk1 => x.rtO l xs ds W n1 G1 H1 (.ofMw m1) w1 (.inr n0) g0 h0 dd hk1
  | .frz i s, env => fun δ W n Φ hR hk σ G H hq w D x => by
    obtain ⟨ds, eo, hk1⟩ := own_ok (Dr.ok_bind.mp hk)
    obtain ⟨l, hl, hm⟩ := hR.own i ds eo
    obtain ⟨j, hW⟩ := List.mem_iff_getElem?.mp hm
    obtain ⟨G1, d1, g1, w1, fix⟩ := own_frz w hW
    have q1 : SlD q.K G1 σ (δ.set i (.dat (.list ds))) := by
      have := (hq.mono g1).set (s := .dat (.list ds)) (v := .ref l) d1 i
      rwa [set_same_get (hq.ref hl)] at this
    exact sS s _ _ _ n Φ (hR.frz eo hl hW) hk1 σ G1 H q1 w1 D ⟨fun a b c d e f g m2 => x.nx a b c d e f g (fix m2), fun a b d e f g m2 => x.rt a b d e f g (fix m2), fun a b c d e f g m2 w2 b2 => x.rtO a b c d e f g (fix m2) w2 (back_frz hW b2), fun a b c d e f g m2 => x.bk a b c d e f g (fix m2), fun a b c d e f g m2 => x.ct a b c d e f g (fix m2), fun a b d e f g m2 => x.ex a b d e f g (fix m2)⟩
  | .newT i f as, env => fun δ W n Φ hR hk σ G H hq w D x => by
    show (match q.da 5 with | some C => tAsg (tMake C (spTN q.K C f) [] E0 (tA q as)) (gName i) | none => fun _ _ _ => True) D σ H
    cases ea : q.da 5 with
    | none => trivial
    | some C =>
      refine sA hD hB as env δ W n _ hR (Dr.ok_bind.mp hk) σ G H hq w _ fun v d n1 G1 H1 m1 w1 hv hk1 y dx ny ndx ne => ?_
      obtain ⟨z, ez, hk2⟩ := Dr.ok_pur (Dr.ok_bind.mp hk1)
      obtain ⟨zs, rfl, hk3⟩ := asTab_ok (Dr.ok_bind.mp hk2)
      rw [List.append_nil]
      refine ⟨y, dx, v, G1, H1, d, zs, rfl, rfl, ny, ndx, ne, w1.sub, hv, ez, fun dx' fs G2 H2 m2 gy hy hn dd => ⟨rfl, ?_⟩⟩
      have w2 := w1.pure m2
      have m12 := m1.trans (m2.weak (M' := (mS ob).M) fun _ f => f.elim)
      obtain ⟨w3, m3⟩ := own_sideT m12 w w2 (old_none m1 ny) gy hy (hD.c C ea) hn dd
      exact x.nx _ _ _ _ n1 G2 H2 m3 w3 ((hq.mono m12.gr).set (s := .ref y) (v := .ref y) rfl i) (hR.newT (has_of w (old_none m1 ny)) i zs) hk3
  | .newTD i f as, env => fun δ W n Φ hR hk σ G H hq w D x => by
    show (match q.da 5, q.da 12 with | some C, some dv => tAsg (tMake C (spTN q.K C f) [.ref dv] E0 (tA q as)) (gName i) | _, _ => fun _ _ _ => True) D σ H
    cases ea : q.da 5 with
    | none => trivial
    | some C =>
      cases eb : q.da 12 with
      | none => trivial
      | some dv =>
        refine sA hD hB as env δ W n _ hR (Dr.ok_bind.mp hk) σ G H hq w _ fun v d n1 G1 H1 m1 w1 hv hk1 y dx ny ndx ne => ?_
        obtain ⟨z, ez, hk2⟩ := Dr.ok_pur (Dr.ok_bind.mp hk1)
        obtain ⟨zs, rfl, hk3⟩ := asTab_ok (Dr.ok_bind.mp hk2)
        refine ⟨y, dx, v ++ [.ref dv], G1, H1, d ++ [.tuple []], zs, rfl, rfl, ny, ndx, ne, w1.sub, hv.append (.cons (dv_dd hD eb G1) .nil), ez, fun dx' fs G2 H2 m2 gy hy hn dd => ⟨rfl, ?_⟩⟩
        have w2 := w1.pure m2
        have m12 := m1.trans (m2.weak (M' := (mS ob).M) fun _ f => f.elim)
        obtain ⟨w3, m3⟩ := own_sideT m12 w w2 (old_none m1 ny) gy hy (hD.c C ea) hn dd
        exact x.nx _ _ _ _ n1 G2 H2 m3 w3 ((hq.mono m12.gr).set (s := .ref y) (v := .ref y) rfl i) (hR.newT (has_of w (old_none m1 ny)) i zs) hk3
  | .newM i k f e as, env => fun δ W n Φ hR hk σ G H hq w D x => by
    show (match q.da 5 with | some C => tAsg (tMeth C (tbM k) (spNT q.K C f) [] E0 (tE q e) (tA q as)) (gName i) | none => fun _ _ _ => True) D σ H
    cases ea : q.da 5 with
    | none => trivial
    | some C =>
      refine sE hD hB e env δ W n _ hR (Dr.ok_bind.mp hk) σ G H hq w _ fun v d n1 G1 H1 m1 w1 hv hk1 => ?_
      split at hk1
      · rename_i ho
        cases hv with
        | @obj a o m vs ds hG hO ht =>
          cases hO with
          | cl _ _ => cases ho
          | dk => cases ho
          | er _ _ _ => cases ho
          | @tb C' dx fs hC hn =>
            have ec : C' = C := by
              have e1 := hC.ns
              rw [(hD.c C ea).ns] at e1
              cases e1
              rfl
            subst ec
            refine ⟨a, dx, fs, rfl, w1.sub _ _ hG, look_no hn (tbM_no k), ?_⟩
            refine sA hD hB as env δ W n1 _ hR (Dr.ok_bind.mp hk1) σ G1 H1 (hq.mono m1.gr) w1 _ fun u e n2 G2 H2 m2 w2 hu hk2 => ?_
            obtain ⟨z, ez, hk3⟩ := Dr.ok_pur (Dr.ok_bind.mp hk2)
            obtain ⟨zs, rfl, hk4⟩ := asTab_ok (Dr.ok_bind.mp hk3)
            rw [List.append_nil]
            refine ⟨G2, _, zs, w2.sub, .cons ((DD.tbl hG hC hn ht).mono m2.gr) hu, ez, fun l dx' fs' G3 H3 m3 nl gl hl hn' dd => ?_⟩
            have m13 := (m1.trans m2).trans (m3.weak (M' := (mS ob).M) fun _ f => f.elim)
            have nl0 := old_none (m1.trans m2) nl
            obtain ⟨w4, m4⟩ := own_sideT m13 w (w2.pure m3) nl0 gl hl (hD.c C' ea) hn' dd
            exact x.nx _ _ _ _ n2 G3 H3 m4 w4 ((hq.mono m13.gr).set (s := .ref l) (v := .ref l) rfl i) (hR.newT (has_of w nl0) i zs) hk4
        | non => cases ho
        | bl _ => cases ho
        | int _ => cases ho
        | str _ => cases ho
        | lst _ _ => cases ho
        | tup _ _ => cases ho
        | dct _ _ _ _ _ _ => cases ho
      · exact hk1.elim
  | .setF i k e, env => fun δ W n Φ hR hk σ G H hq w D x => by
    obtain ⟨ds, eo, hk1⟩ := tab_ok (Dr.ok_bind.mp hk)
    obtain ⟨l, C, hl, hm⟩ := hR.tab i ds eo
    obtain ⟨j, hW⟩ := List.mem_iff_getElem?.mp hm
    refine sE hD hB e env δ W n _ hR (Dr.ok_bind.mp hk1) σ G H hq w _ fun v d n1 G1 H1 m1 w1 hv hk2 => ?_
    by_cases hk6 : k < 6
    · rw [if_pos hk6] at hk2
      obtain ⟨_, nG, dx, fs, hh, cC, nn, dd⟩ := own_tab w1 hW
      obtain ⟨p1, p2, p3⟩ := putF_at v nn hk6
      refine ⟨.ref l, (hq.mono m1.gr).ref hl, l, C, dx, fs, rfl, hh, cC.cl, tbN_at cC hk6, ?_, ?_⟩
      · have : fs.length = 6 := by
          have := congrArg List.length nn
          rwa [List.length_map] at this
        rw [this]
        decide
      · exact x.nx σ _ δ _ n1 G1 _ ((Ms.ofMw m1).trans (ms_put w1 hW)) (own_put (c' := .tab C (ds.set k d)) w1 hW ⟨dx, _, rfl, cC, p1, by rw [p2]; exact DDs.setAt hv dd⟩) (hq.mono m1.gr) (hR.putT eo hl hW _) hk2
    · rw [if_neg hk6] at hk2
      exact hk2.elim
  | .frzT i s, env => fun δ W n Φ hR hk σ G H hq w D x => by
    obtain ⟨ds, eo, hk1⟩ := tab_ok (Dr.ok_bind.mp hk)
    obtain ⟨l, C, hl, hm⟩ := hR.tab i ds eo
    obtain ⟨j, hW⟩ := List.mem_iff_getElem?.mp hm
    obtain ⟨G1, d1, g1, w1, fix⟩ := own_frzT w hW
    have q1 : SlD q.K G1 σ (δ.set i (.dat (obT ds))) := by
      have := (hq.mono g1).set (s := .dat (obT ds)) (v := .ref l) d1 i
      rwa [set_same_get (hq.ref hl)] at this
    exact sS s _ _ _ n Φ (hR.frzT eo hl hW) hk1 σ G1 H q1 w1 D ⟨fun a b c d e f g m2 => x.nx a b c d e f g (fix m2), fun a b d e f g m2 => x.rt a b d e f g (fix m2), fun a b c d e f g m2 w2 b2 => x.rtO a b c d e f g (fix m2) w2 (back_frz hW b2), fun a b c d e f g m2 => x.bk a b c d e f g (fix m2), fun a b c d e f g m2 => x.ct a b c d e f g (fix m2), fun a b d e f g m2 => x.ex a b d e f g (fix m2)⟩
  | .newD0 i, env => fun δ W n Φ hR hk σ G H hq w D x => fun p o np dc => by
    obtain ⟨w3, m3⟩ := own_new (c := .dct p []) w np ⟨o, [], rfl, dc, (fun _ h => nomatch h), rfl, .nil⟩
    exact x.nx _ _ _ _ n G _ m3 w3 (hq.set (s := .ref p) (v := .ref p) rfl i) (hR.newX (has_of w np) i []) hk
  | .putD i k e, env => fun δ W n Φ hR hk σ G H hq w D x => by
    refine sE hD hB e env δ W n _ hR (Dr.ok_bind.mp hk) σ G H hq w _ fun v d n1 G1 H1 m1 w1 hv hk1 => ?_
    obtain ⟨m, ed, hk2⟩ := dct_ok (Dr.ok_bind.mp hk1)
    exact gput hD hB hR ed (F := fun m' => Dr.ret (Fl.nx (env.set i (.dct m')))) hv hk2 (hq.mono m1.gr) w1 _ fun m' W' n' G' H' m2 w2 q2 r2 k2 => x.nx σ _ δ W' n' G' H' ((Ms.ofMw m1).trans m2) w2 q2 r2 k2
  | .putD2 i j k1 k2 v1 v2, env => fun δ W n Φ hR hk σ G H hq w D x => by
    refine sE hD hB v1 env δ W n _ hR (Dr.ok_bind.mp hk) σ G H hq w _ fun a da n1 G1 H1 m1 w1 ha hk1 => ?_
    refine sE hD hB v2 env δ W n1 _ hR (Dr.ok_bind.mp hk1) σ G1 H1 (hq.mono m1.gr) w1 _ fun b db n2 G2 H2 m2 w2 hb hk2 => ?_
    obtain ⟨m, ed, hk3⟩ := dct_ok (Dr.ok_bind.mp hk2)
    refine ⟨by show 2 ≤ sizeLine; decide, fun p np => ?_⟩
    have up : ∀ c o, H2 c = some o → upd H2 p (.tup [a, b]) c = some o := fun c o e => by
      have ne : c ≠ p := fun z => by
        rw [z, np] at e
        cases e
      rw [upd_ne ne]
      exact e
    have mv : Mv (fun _ => False) G2 H2 G2 (upd H2 p (.tup [a, b])) := ⟨fun _ _ e => e, fun c o e => up c o (w2.sub c o e), fun _ _ _ => rfl, fun c o e _ => up c o e, fun c o e => ⟨o, up c o e⟩⟩
    have m12 : Ms (mS ob).M W W G H G2 (upd H2 p (.tup [a, b])) := ((Ms.ofMw m1).trans (.ofMw m2)).trans (.ofMw (mv.weak (M' := (mS ob).M) fun _ f => f.elim))
    refine ⟨p, _, rfl, .inl (.inl upd_same), rfl, a, [b], rfl, gput hD hB hR ed (F := fun m' => (dctAt (env.set i (.dct m')) j).bind fun m2 => (evE k2 (env.set i (.dct m'))).bind fun y => (keyD y).bind fun ll => if m2.length ≤ 100000 then Dr.ret (Fl.nx ((env.set i (.dct m')).set j (.dct (BF.dput m2 ll db)))) else .bad) (ha.mono m2.gr) hk3 (hq.mono m12.gr) (w2.pure mv) _ fun m' W' n' G' H' m3 w3 q3 r3 k3 => ?_⟩
    obtain ⟨m2', ed2, hk4⟩ := dct_ok (Dr.ok_bind.mp k3)
    refine ⟨b, [], rfl, gput hD hB r3 ed2 (F := fun m'' => Dr.ret (Fl.nx ((env.set i (.dct m')).set j (.dct m'')))) (hb.mono m3.gr) hk4 q3 w3 _ fun m'' W'' n'' G'' H'' m4 w4 q4 r4 k4 => ?_⟩
    exact ⟨rfl, x.nx σ _ δ W'' n'' G'' H'' ((m12.trans m3).trans m4) w4 q4 r4 k4⟩
  | .parN is b, env => fun δ W n Φ hR hk σ G H hq w D x => by
    by_cases hn16 : is.length ≤ 16
    · rw [show evS (.parN is b) env = (evB b env).bind fun xs => (putN env is xs).bind fun env' => .ret (.nx env') from if_pos hn16] at hk
      exact parN_ok hD hB is b env hn16 δ W n Φ hR hk σ G H hq w D x
    · rw [show evS (.parN is b) env = .bad from if_neg hn16] at hk
      exact hk.elim
  | .frzX i s, env => fun δ W n Φ hR hk σ G H hq w D x => by
    obtain ⟨ds, eo, hk1⟩ := dct_ok (Dr.ok_bind.mp hk)
    obtain ⟨l, hl, hm⟩ := hR.dct i ds eo
    obtain ⟨j, hW⟩ := List.mem_iff_getElem?.mp hm
    obtain ⟨G1, d1, g1, w1, fix⟩ := own_frzX w hW
    have q1 : SlD q.K G1 σ (δ.set i (.dat (dctD ds))) := by
      have := (hq.mono g1).set (s := .dat (dctD ds)) (v := .ref l) d1 i
      rwa [set_same_get (hq.ref hl)] at this
    exact sS s _ _ _ n Φ (hR.frzX eo hl hW) hk1 σ G1 H q1 w1 D ⟨fun a b c d e f g m2 => x.nx a b c d e f g (fix m2), fun a b d e f g m2 => x.rt a b d e f g (fix m2), fun a b c d e f g m2 w2 b2 => x.rtO a b c d e f g (fix m2) w2 (back_frz hW b2), fun a b c d e f g m2 => x.bk a b c d e f g (fix m2), fun a b c d e f g m2 => x.ct a b c d e f g (fix m2), fun a b d e f g m2 => x.ex a b d e f g (fix m2)⟩
  | .ret e, env => fun δ W n Φ hR hk σ G H hq w D x => by
    exact sE hD hB e env δ W n _ hR (Dr.ok_bind.mp hk) σ G H hq w _ fun v d n1 G1 H1 m1 w1 hv hk1 => x.rt v d W n1 G1 H1 (.ofMw m1) w1 hv hk1
  | .cond c a b, env => fun δ W n Φ hR hk σ G H hq w D x => by
    refine sT hD hB c env δ W n _ hR (Dr.ok_bind.mp hk) σ G H hq w _ fun v d n1 G1 H1 m1 w1 hv hk1 => ?_
    cases hv
    cases v with
    | true => exact iteT (sS a env δ W n1 Φ hR hk1 σ G1 H1 (hq.mono m1.gr) w1 D (x.at (.ofMw m1)))
    | false => exact iteF (sS b env δ W n1 Φ hR hk1 σ G1 H1 (hq.mono m1.gr) w1 D (x.at (.ofMw m1)))
  | .loop it g b, env => fun δ W n Φ hR hk σ G H hq w D x => by
    refine sI hD hB it env δ W n _ hR (Dr.ok_bind.mp hk) σ G H hq w _ fun J its n2 G2 H2 m w2 ⟨A, Y, wk, hA, hY⟩ hk1 => ?_
    have x2 := x.at (.ofMw m)
    refine for_it wk (fun i σ' H3 => ∃ G3 env' δ' W' n', Ms (mS ob).M W W' G2 H2 G3 H3 ∧ Wd (ows q.K (mS ob) W') n' G3 H3 ∧ SlD q.K G3 σ' δ' ∧ Rp ob env' δ' W' ∧ (forL _ (its.drop i) env').ok n' Φ) ⟨G2, env, δ, W, n2, .ofMw (Mv.refl w2.sub), w2, hq.mono m.gr, hR, hk1⟩ (fun i σ' H3 _ ⟨G3, _, _, _, _, m3, _⟩ => hA H3 fun a o e => m3.sub a o (m3.gr a o e)) ?_ ?_
    · rintro i y σ' H3 H4 hlt ⟨G3, env', δ', W', n', m3, w3, q3, r3, k3⟩ hy
      have hd' : its[i]? = some its[i] := List.getElem?_eq_getElem hlt
      obtain ⟨G4, m4, dx⟩ := hY i its[i] G3 H3 y H4 hd' m3.gr w3.sub hy
      have w4 := w3.pure m4
      have m34 : Ms (mS ob).M W W' G2 H2 G4 H4 := m3.trans (.ofMw (m4.weak fun _ f => f.elim))
      rw [List.drop_eq_getElem_cons hlt] at k3
      have k4 := Dr.ok_bind.mp (Dr.ok_bind.mp k3)
      obtain ⟨env2, ep, k5⟩ := Dr.ok_opt k4
      obtain ⟨δ2, r5, _, tg⟩ := sG (K := q.K) g ep r3
      refine tg y σ' G4 H4 (q3.mono m4.gr) dx w4.sub _ fun σ2 q2 _ => ?_
      refine sS b env2 δ2 W' n' _ r5 k5 σ2 G4 H4 q2 w4 _ ⟨fun a b c d e f g m2 w2 q2 r2 k2 => ⟨f, b, c, d, e, m34.trans m2, w2, q2, r2, k2⟩, fun a b d e f g m2 w2 q2 k2 => x2.rt a b d e f g (m34.trans m2) w2 q2 k2, fun a b c d e f g m2 w2 b2 => x2.rtO a b c d e f g (m34.trans m2) w2 (back_at m34 b2), fun a b c d e f g m2 w2 q2 r2 k2 => x2.nx a b c d e f g (m34.trans m2) w2 q2 r2 k2, fun a b c d e f g m2 w2 q2 r2 k2 => ⟨f, b, c, d, e, m34.trans m2, w2, q2, r2, k2⟩, fun a b d e f g m2 w2 k2 => x2.ex a b d e f g (m34.trans m2) w2 k2⟩
    · rintro σ' H3 ⟨G3, env', δ', W', n', m3, w3, q3, r3, k3⟩
      rw [List.drop_length] at k3
      exact x2.nx σ' env' δ' W' n' G3 H3 m3 w3 q3 r3 k3
  | .whil mx c b, env => fun δ W n Φ hR hk σ G H hq w D x => by
    refine ⟨fun m σ' H3 => ∃ G3 env' δ' W' n', Ms (mS ob).M W W' G H G3 H3 ∧ Wd (ows q.K (mS ob) W') n' G3 H3 ∧ SlD q.K G3 σ' δ' ∧ Rp ob env' δ' W' ∧ (whileL (evT c) (evS b) m env').ok n' Φ, ⟨mx, G, env, δ, W, n, .ofMw (Mv.refl w.sub), w, hq, hR, hk⟩, ?_⟩
    rintro m σ' H3 ⟨G3, env', δ', W', n', m3, w3, q3, r3, k3⟩
    cases m with
    | zero => exact k3.elim
    | succ m =>
      refine sT hD hB c env' δ' W' n' _ r3 (Dr.ok_bind.mp k3) σ' G3 H3 q3 w3 _ fun v d n1 G1 H1 m1 w1 hv hk1 => ?_
      cases hv
      have mm := m3.trans (.ofMw m1)
      cases v with
      | false => exact iteF (x.nx σ' env' δ' W' n1 G1 H1 mm w1 (q3.mono m1.gr) r3 hk1)
      | true =>
        refine iteT ⟨fun σ'' H4 => ∃ G3 env' δ' W' n', Ms (mS ob).M W W' G H G3 H4 ∧ Wd (ows q.K (mS ob) W') n' G3 H4 ∧ SlD q.K G3 σ'' δ' ∧ Rp ob env' δ' W' ∧ (whileL (evT c) (evS b) m env').ok n' Φ, fun σ'' H4 h => ⟨m, Nat.lt_succ_self m, h⟩, ?_⟩
        refine sS b env' δ' W' n1 _ r3 (Dr.ok_bind.mp hk1) σ' G1 H1 (q3.mono m1.gr) w1 _ ⟨fun a b c d e f g m2 w2 q2 r2 k2 => ⟨f, b, c, d, e, mm.trans m2, w2, q2, r2, k2⟩, fun a b d e f g m2 w2 q2 k2 => x.rt a b d e f g (mm.trans m2) w2 q2 k2, fun a b c d e f g m2 w2 b2 => x.rtO a b c d e f g (mm.trans m2) w2 (back_at mm b2), fun a b c d e f g m2 w2 q2 r2 k2 => x.nx a b c d e f g (mm.trans m2) w2 q2 r2 k2, fun a b c d e f g m2 w2 q2 r2 k2 => ⟨f, b, c, d, e, mm.trans m2, w2, q2, r2, k2⟩, fun a b d e f g m2 w2 k2 => x.ex a b d e f g (mm.trans m2) w2 k2⟩
  | .brk, env => fun δ W n Φ hR hk σ G H hq w D x => x.bk σ env δ W n G H (.ofMw (Mv.refl w.sub)) w hq hR hk
  | .cnt, env => fun δ W n Φ hR hk σ G H hq w D x => x.ct σ env δ W n G H (.ofMw (Mv.refl w.sub)) w hq hR hk
  | .drop e, env => fun δ W n Φ hR hk σ G H hq w D x => by
    exact sE hD hB e env δ W n _ hR (Dr.ok_bind.mp hk) σ G H hq w _ fun v d n1 G1 H1 m1 w1 hv hk1 => x.nx σ env δ W n1 G1 H1 (.ofMw m1) w1 (hq.mono m1.gr) hR hk1
  | .stuck, env => fun δ W n Φ hR hk σ G H hq w D x => hk.elim
  | .tryC k f as r cs i h, env => fun δ W n Φ hR hk σ G H hq w D x => by
    show tryT q k f (tA q as) r cs i h D σ H
    unfold tryT
    cases hr : decide (r < 20) with
    | false => trivial
    | true =>
    have hr := of_decide_eq_true hr
    cases er : q.da (30 + r) with
    | none => trivial
    | some D0 =>
    cases hC : xcs q cs with
    | none => trivial
    | some Cs =>
    have key : ∀ Q : VK, (∀ v d n1 G1 H1, Mv (mS ob).M G H G1 H1 → Wd (ows q.K (mS ob) W) n1 G1 H1 → DD q.K G1 v d → (tryK k r cs i h env (.val d)).ok n1 Φ → Q v H1) → tCallS (spXf q.K (xcl q) f) (WE (XG.wT q.K Cs i (fun _ => tAsg (tVar i) (gName h)) (fun _ _ _ _ => False) D)) (tA q as) σ H Q := fun Q hQ => by
      refine sA hD hB as env δ W n _ hR (Dr.ok_bind.mp hk) σ G H hq w _ fun vs ds n1 G1 H1 m1 w1 hv hk1 => ?_
      obtain ⟨o, eo, hk2⟩ := Dr.ok_pur (Dr.ok_bind.mp hk1)
      refine ⟨G1, ds, w1.sub, hv, ⟨o, eo⟩, fun d v G2 H2 hd m2 dv => ?_, fun cl fl G2 H2 hx m2 => ?_⟩
      · have hd' : f ds = .ret (.val d) := hd
        rw [eo] at hd'
        cases hd'
        exact hQ v d n1 G2 H2 (m1.trans (m2.weak fun _ f => f.elim)) (w1.pure m2) dv hk2
      · obtain ⟨c, fs, ec, rfl, rfl⟩ := hx
        rw [eo] at ec
        cases ec
        refine ⟨(fun z => nomatch z), fun l el dd vs nd fv => ?_⟩
        cases el
        have hk3 : (if c = r ∧ r ∈ cs ∧ fs.map (·.1) = erF (exN r) ∧ i < env.length then Dr.ret (Fl.nx ((env.set h (.dat (excD r fs))).set i .unk)) else Dr.bad).ok n1 Φ := hk2
        by_cases hc : c = r ∧ r ∈ cs ∧ fs.map (·.1) = erF (exN r) ∧ i < env.length
        · rw [if_pos hc] at hk3
          obtain ⟨rfl, c2, c3, c4⟩ := hc
          have w2 := w1.pure m2
          have m3 := Mv.new (M := (mS ob).M) (o := .xd vs) w2.sub nd
          have w3 := w2.new (o := .xd vs) nd
          have X := hD.xr c D0 hr er
          have ecl : xcl q c = D0 := by
            unfold xcl
            rw [decide_eq_true hr, er]
          have exm := xcs_exm hD hr er hC
          rw [decide_eq_true c2] at exm
          show XG.wT q.K Cs i (fun _ => tAsg (tVar i) (gName h)) (fun _ _ _ _ => False) D (.ref (xcl q c)) (some dd) σ (upd H2 dd (.xd vs))
          rw [ecl]
          refine ⟨true, exm, fun _ ea na => ?_, fun z => nomatch z⟩
          have m4 := Mv.new (M := (mS ob).M) (o := XG.ExT (.ref D0) (some dd) ea) w3.sub na
          have w4 := w3.new (o := XG.ExT (.ref D0) (some dd) ea) na
          have ne : ea ≠ dd := fun z => by
            rw [z, upd_same] at na
            cases na
          have q1 := (hq.mono (m1.gr)).mono m2.gr
          have q2 := (q1.mono m3.gr).mono m4.gr
          have hi : i < δ.length := by rw [hR.len]; exact c4
          have q3 := q2.set (s := .ref ea) (v := .ref ea) rfl i
          have dv : DD q.K (upd (upd G2 dd (.xd vs)) ea (XG.ExT (.ref D0) (some dd) ea)) (.ref ea) (excD c fs) := .obj (vs := vs.map (·.2)) (m := .list [.str (exN c)]) upd_same (.er X (by rw [upd_ne ne.symm]; exact upd_same) (fv.1.trans c3)) (DDs.mono (fun a o e => m4.gr a o (m3.gr a o e)) fv.2)
          have q4 := (q3.set (s := .dat (excD c fs)) (v := .ref ea) dv h).none i
          refine ⟨.ref ea, q3.ref (by rw [List.getElem?_set_self hi]), ?_⟩
          refine x.nx _ ((env.set h (.dat (excD c fs))).set i .unk) ((δ.set h (.dat (excD c fs))).set i .unk) W n1 _ _ (.ofMw ((m1.trans (m2.weak fun _ f => f.elim)).trans (m3.trans m4))) w4 ?_ ((hR.setD h _).setU i) hk3
          have e : ((δ.set i (.ref ea)).set h (.dat (excD c fs))).set i .unk = (δ.set h (.dat (excD c fs))).set i .unk := by
            by_cases z : i = h
            · subst z
              rw [List.set_set, List.set_set, List.set_set]
            · rw [List.set_comm _ _ z, List.set_set]
          rw [← e]
          exact q4
        · rw [if_neg hc] at hk3
          exact hk3.elim
    cases k with
    | none =>
      exact key _ fun v d n1 G1 H1 m1 w1 hv hk1 => x.nx σ env δ W n1 G1 H1 (.ofMw m1) w1 (hq.mono m1.gr) hR hk1
    | some k =>
      exact key _ fun v d n1 G1 H1 m1 w1 hv hk1 => x.nx _ _ _ W n1 G1 H1 (.ofMw m1) w1 ((hq.mono m1.gr).set (s := .dat d) hv k) (hR.setD k _) hk1
  | .raise c f as, env => fun δ W n Φ hR hk σ G H hq w D x => by
    refine sA hD hB as env δ W n _ hR (Dr.ok_bind.mp hk) σ G H hq w _ fun vs ds n1 G1 H1 m1 w1 hv hk1 => ?_
    cases hv with
    | nil => exact hk1.elim
    | cons h1 t =>
      cases t with
      | cons _ _ => exact hk1.elim
      | nil => exact ⟨_, rfl, fun dd nd => x.ex c _ W n1 G1 H1 (.ofMw m1) w1 hk1 dd _ nd ⟨rfl, .cons h1 .nil⟩⟩
end
end DP
namespace DP
open PySem PySem.Spec PyProof.Rows L2 ZX DL RT
def rSumX (K : PySem.W.Frag) : List V → Hp → VK → Prop := fun vs H Q => ∃ (a : Addr) (ns : List Int), vs = [V.ref a] ∧ (SqL K H a (ns.map V.int) ∨ SqT K H a (ns.map V.int)) ∧ Q (.int ns.sum) H
theorem cr_sumX {X : Cx} (hc : X.calm = true) : CallR X (.builtin "sum") (rSumX X.K) := by
  intro pins s σ H vs us Q I r h
  obtain ⟨a, ns, rfl, hs, q⟩ := h
  rw [Vals.ref1 r]
  rcases hs with hs | hs
  · obtain ⟨its, rv, hl, _⟩ := I.list hs
    exact sum_raw (I.ok.hd hc) hl.isList rv.ints fun h' tk t' hk => ⟨.int _, H, I.kept hk, ⟨_, rfl⟩, q⟩
  · obtain ⟨its, rv, hl, _⟩ := I.tuple hs
    have hi := rv.ints
    obtain ⟨xs, e⟩ := hi.allInts.items
    have hn : numsOf (intItems xs).toList = ns := by rw [← e]; exact hi.numsOf
    rw [nums_intItems] at hn
    have hl2 : s.heap.IsTuple a its.toArray := hl
    rw [e] at hl2
    refine PySem.W.ktm_sumG (I.ok.hd hc) hl2 fun h' tk t' hk => ?_
    rw [preSum_eq, List.take_of_length_le (by simp), hn]
    exact ⟨.int _, H, I.kept hk, ⟨_, rfl⟩, q⟩
abbrev cI (n : Int) : E := .con ⟨.int n, .int n, fun _ _ => .int n⟩
abbrev cS (x : Str) : E := .con ⟨.str x, .str x, fun _ _ => .str x⟩
abbrev cB (b : Bool) : E := .con ⟨.bl b, .bool b, fun _ _ => .bl b⟩
abbrev cN : E := .con ⟨.non, .none, fun _ _ => .non⟩
def i2 (g : Int → Int → PyData) : PyData → PyData → Option PyData
  | .int i, .int j => some (g i j)
  | _, _ => none
def i2c (C : Int → Int → Bool) (g : Int → Int → PyData) : PyData → PyData → Option PyData
  | .int i, .int j => if C i j = true then some (g i j) else none
  | _, _ => none
theorem i2_of {g : Int → Int → PyData} {d e z : PyData} (h : i2 g d e = some z) : ∃ i j, d = .int i ∧ e = .int j ∧ z = g i j := by
  unfold i2 at h
  split at h
  · cases h
    exact ⟨_, _, rfl, rfl, rfl⟩
  · cases h
theorem i2c_of {C : Int → Int → Bool} {g : Int → Int → PyData} {d e z : PyData} (h : i2c C g d e = some z) : ∃ i j, d = .int i ∧ e = .int j ∧ C i j = true ∧ z = g i j := by
  unfold i2c at h
  split at h
  · split at h
    · cases h
      exact ⟨_, _, rfl, rfl, by assumption, rfl⟩
    · cases h
  · cases h
def oI (g : Int → Int → V) (gd : Int → Int → PyData) (ok : ∀ K G i j, DD K G (g i j) (gd i j)) : O2 where
  rel := fun _ => rI0 g
  f := i2 gd
  ok := fun K d e z h => by
    obtain ⟨i, j, rfl, rfl, rfl⟩ := i2_of h
    exact rv_I0 fun G => ok K G i j
def oIc (C : Int → Int → Prop) (c : Int → Int → Bool) (g : Int → Int → V) (gd : Int → Int → PyData) (hc : ∀ i j, c i j = true → C i j) (ok : ∀ K G i j, DD K G (g i j) (gd i j)) : O2 where
  rel := fun _ => rI C g
  f := i2c c gd
  ok := fun K d e z h => by
    obtain ⟨i, j, rfl, rfl, h2, rfl⟩ := i2c_of h
    exact rv_I (hc i j h2) fun G => ok K G i j
def oAdd : O2 := oI (fun i j => .int (i + j)) (fun i j => .int (i + j)) fun _ _ _ _ => .int _
def oSub : O2 := oI (fun i j => .int (i - j)) (fun i j => .int (i - j)) fun _ _ _ _ => .int _
def oLt : O2 := oI (fun i j => .bl (decide (i < j))) (fun i j => .bool (decide (i < j))) fun _ _ _ _ => .bl _
def oLe : O2 := oI (fun i j => .bl (decide (i ≤ j))) (fun i j => .bool (decide (i ≤ j))) fun _ _ _ _ => .bl _
def oGt : O2 := oI (fun i j => .bl (decide (j < i))) (fun i j => .bool (decide (j < i))) fun _ _ _ _ => .bl _
def oGe : O2 := oI (fun i j => .bl (decide (j ≤ i))) (fun i j => .bool (decide (j ≤ i))) fun _ _ _ _ => .bl _
def oMul : O2 := oIc CMul (fun i j => (decide (-(2 ^ 64) < i) && decide (i < 2 ^ 64)) || (decide (-(2 ^ 64) < j) && decide (j < 2 ^ 64))) (fun i j => .int (i * j)) (fun i j => .int (i * j)) (fun i j h => by
  unfold CMul
  simpa using h) fun _ _ _ _ => .int _
def oAddA : O2 where
  rel := fun _ => ipI fun i j => i + j
  f := i2 fun i j => .int (i + j)
  ok := fun K d e z h => by
    obtain ⟨i, j, rfl, rfl, rfl⟩ := i2_of h
    intro x y G H hx hy hs Q hQ
    cases hx
    cases hy
    exact ⟨i, j, rfl, rfl, hQ _ (.i (i + j)) G H (Mv.refl hs) (DD.int _) rfl⟩
def oSubA : O2 where
  rel := fun _ => ipI fun i j => i - j
  f := i2 fun i j => .int (i - j)
  ok := fun K d e z h => by
    obtain ⟨i, j, rfl, rfl, rfl⟩ := i2_of h
    intro x y G H hx hy hs Q hQ
    cases hx
    cases hy
    exact ⟨i, j, rfl, rfl, hQ _ (.i (i - j)) G H (Mv.refl hs) (DD.int _) rfl⟩
def eqF : PyData → PyData → Option Bool
  | .int i, .int j => some (decide (i = j))
  | .bool i, .bool j => some (i == j)
  | .str i, .str j => some (decide (i = j))
  | _, _ => none
theorem rv_eqS {K : PySem.W.Frag} {i j : Str} : RV K rEq (.dat (.str i)) (.dat (.str j)) (fun z => z = .b (decide (i = j))) := fun x y G H hx hy hs Q hQ => by
  cases hx
  cases hy
  refine ⟨rfl, hQ _ (.b (decide (i = j))) G H (Mv.refl hs) ?_ rfl⟩
  rw [show decide (V.str i = V.str j) = decide (i = j) from by
    by_cases h : i = j
    · subst h
      simp
    · rw [decide_eq_false h, decide_eq_false fun z => h (V.str.inj z)]]
  exact DD.bl _
theorem rv_neS {K : PySem.W.Frag} {i j : Str} : RV K rNe (.dat (.str i)) (.dat (.str j)) (fun z => z = .b (!decide (i = j))) := fun x y G H hx hy hs Q hQ => by
  cases hx
  cases hy
  refine ⟨rfl, hQ _ (.b (!decide (i = j))) G H (Mv.refl hs) ?_ rfl⟩
  rw [show decide (V.str i = V.str j) = decide (i = j) from by
    by_cases h : i = j
    · subst h
      simp
    · rw [decide_eq_false h, decide_eq_false fun z => h (V.str.inj z)]]
  exact DD.bl _
def oEq : O2 where
  rel := fun _ => rEq
  f := fun d e => (eqF d e).map .bool
  ok := fun K d e z h => by
    obtain ⟨c, hc, rfl⟩ := Option.map_eq_some_iff.mp h
    unfold eqF at hc
    split at hc
    · cases hc
      exact rv_eqI
    · cases hc
      exact rv_eqB
    · cases hc
      exact rv_eqS
    · cases hc
def oNe : O2 where
  rel := fun _ => rNe
  f := fun d e => (eqF d e).map fun c => .bool (!c)
  ok := fun K d e z h => by
    obtain ⟨c, hc, rfl⟩ := Option.map_eq_some_iff.mp h
    unfold eqF at hc
    split at hc
    · cases hc
      exact rv_neI
    · cases hc
      exact rv_neB
    · cases hc
      exact rv_neS
    · cases hc
def oEqD : O2 where
  rel := rEqD
  f := fun d e => if SeqAt.shaped d = true ∧ SeqAt.shaped e = true then some (.bool (PyData.eqv d e)) else none
  ok := fun K d e z h => by
    split at h
    · rename_i hc
      cases h
      exact rv_eqD hc.1 hc.2
    · cases h
def oNeD : O2 where
  rel := rNeD
  f := fun d e => if SeqAt.shaped d = true ∧ SeqAt.shaped e = true then some (.bool (!PyData.eqv d e)) else none
  ok := fun K d e z h => by
    split at h
    · rename_i hc
      cases h
      exact rv_neD hc.1 hc.2
    · cases h
def isNon : PyData → Bool
  | .none => true
  | _ => false
theorem rv_notN {K : PySem.W.Frag} {dd : PyData} : RV K (fun x y H Q => y = .non ∧ Q (.bl (!decide (x = .non))) H) (.dat dd) (.dat .none) (fun z => z = .b (!isNon dd)) := fun x y G H hx hy hs Q hQ => by
  cases hy
  refine ⟨rfl, hQ _ (.b _) G H (Mv.refl hs) ?_ rfl⟩
  cases hx <;> exact DD.bl _
def oIsN : O2 where
  rel := fun _ x y H Q => y = .non ∧ Q (.bl (decide (x = .non))) H
  f := fun d e => match e with
    | .none => some (.bool (isNon d))
    | _ => none
  ok := fun K d e z h => by
    split at h
    · cases h
      refine (rv_isN (s := .unk)).mono fun s e => ?_
      rw [e]
      cases d <;> rfl
    · cases h
def oNotN : O2 where
  rel := fun _ x y H Q => y = .non ∧ Q (.bl (!decide (x = .non))) H
  f := fun d e => match e with
    | .none => some (.bool (!isNon d))
    | _ => none
  ok := fun K d e z h => by
    split at h
    · cases h
      exact rv_notN
    · cases h
def strsOf : List PyData → Option (List Str)
  | [] => some []
  | .str x :: r => (strsOf r).map (x :: ·)
  | _ :: _ => none
theorem strs_v {K : PySem.W.Frag} {G : Hp} : ∀ {ds : List PyData} {ss : List Str} {vs : List V}, strsOf ds = some ss → DDs K G vs ds → vs = ss.map V.str
  | [], _, _, h, .nil => by
    cases h
    rfl
  | .str x :: r, _, _, h, .cons a t => by
    obtain ⟨l, hl, rfl⟩ := Option.map_eq_some_iff.mp (show (strsOf r).map (x :: ·) = _ from h)
    cases a
    rw [strs_v hl t]
    rfl
def inS (x : PyData) (y : PyData) : Option PyData :=
  match x, y with
  | .str z, .tuple ds => (strsOf ds).map fun ss => .bool (ss.contains z)
  | .str z, .list ds => (strsOf ds).map fun ss => .bool (ss.contains z)
  | _, _ => none
theorem in_strs (z : Str) : ∀ ss : List Str, inV (.str z) (ss.map V.str) = ss.contains z
  | [] => rfl
  | x :: ss => by
    show (eqV (.str x) (.str z) || inV (.str z) (ss.map V.str)) = ((z == x) || ss.contains z)
    rw [in_strs z ss]
    congr 1
    show (x == z) = (z == x)
    by_cases e : x = z
    · subst e
      rfl
    · rw [beq_eq_false_iff_ne.mpr e, beq_eq_false_iff_ne.mpr (Ne.symm e)]
theorem flat_strs : ∀ ss : List Str, (ss.map V.str).all flatV = true
  | [] => rfl
  | x :: ss => by
    show (true && (ss.map V.str).all flatV) = true
    rw [flat_strs ss]
    rfl
def oInS : O2 where
  rel := fun K => rIn K false
  f := inS
  ok := fun K d e z h => by
    unfold inS at h
    split at h
    · rename_i x ds
      obtain ⟨ss, hs, rfl⟩ := Option.map_eq_some_iff.mp h
      intro u v G H hx hy hs2 Q hQ
      cases hx
      cases hy with
      | @tup a xs _ hh t =>
        have e := strs_v hs t
        subst e
        refine ⟨a, _, rfl, .inr ((sqm hs2 hh)), rfl, flat_strs ss, hQ _ (.b (ss.contains x)) G H (Mv.refl hs2) ?_ rfl⟩
        show DD K G (.bl (inV (.str x) (ss.map V.str))) _
        rw [in_strs]
        exact DD.bl _
    · rename_i x ds
      obtain ⟨ss, hs, rfl⟩ := Option.map_eq_some_iff.mp h
      intro u v G H hx hy hs2 Q hQ
      cases hx
      cases hy with
      | @lst a xs _ hh t =>
        have e := strs_v hs t
        subst e
        refine ⟨a, _, rfl, .inl (.inl (.inl (hs2 _ _ hh))), rfl, flat_strs ss, hQ _ (.b (ss.contains x)) G H (Mv.refl hs2) ?_ rfl⟩
        show DD K G (.bl (inV (.str x) (ss.map V.str))) _
        rw [in_strs]
        exact DD.bl _
    · cases h
def ixLf : PyData → PyData → Option PyData
  | .list ds, .int i => atI ds i
  | _, _ => none
def ixTf : PyData → PyData → Option PyData
  | .tuple ds, .int i => atI ds i
  | _, _ => none
def oIxL : O2 where
  rel := rIxL
  f := ixLf
  ok := fun K d e z h => by
    unfold ixLf at h
    split at h
    · exact rv_ixL h
    · cases h
def oIxT : O2 where
  rel := rIxT
  f := ixTf
  ok := fun K d e z h => by
    unfold ixTf at h
    split at h
    · exact rv_ixT h
    · cases h
def ixSf : PyData → PyData → Option PyData
  | .str z, .int i => if z.length ≤ 1000000 then (atI z.cps.toList i).map fun c => .str ⟨#[c]⟩ else none
  | _, _ => none
def oIxS : O2 where
  rel := fun _ => rIxS
  f := ixSf
  ok := fun K d e z h => by
    unfold ixSf at h
    split at h
    · split at h
      · obtain ⟨c, hc, rfl⟩ := Option.map_eq_some_iff.mp h
        exact rv_ixS (by assumption) hc
      · cases h
    · cases h
def catLf : PyData → PyData → Option PyData
  | .list ds, .list es => if ds.length + es.length ≤ 100000 then some (.list (ds ++ es)) else none
  | _, _ => none
def catTf : PyData → PyData → Option PyData
  | .tuple ds, .tuple es => if ds.length + es.length ≤ 100000 then some (.tuple (ds ++ es)) else none
  | _, _ => none
def oCatL : O2 where
  rel := fun _ => rCat
  f := catLf
  ok := fun K d e z h => by
    unfold catLf at h
    split at h
    · split at h
      · cases h
        exact rv_cat (by assumption)
      · cases h
    · cases h
def oCatT : O2 where
  rel := rCatA
  f := catTf
  ok := fun K d e z h => by
    unfold catTf at h
    split at h
    · split at h
      · cases h
        exact rv_catA (by assumption)
      · cases h
    · cases h
def repTf : PyData → PyData → Option PyData
  | .tuple ds, .int n => if ((0 ≤ n ∧ n ≤ 1000) ∧ ds.length ≤ 1000) ∧ 0 < ds.length then some (.tuple (List.replicate n.toNat ds).flatten) else none
  | _, _ => none
theorem rep_dd {K : PySem.W.Frag} {G : Hp} {xs : List V} {ds : List PyData} (t : DDs K G xs ds) : ∀ m : Nat, DDs K G (List.replicate m xs).flatten (List.replicate m ds).flatten := fun m => by
  induction m with
  | zero => exact .nil
  | succ m ih =>
    rw [List.replicate_succ, List.replicate_succ, List.flatten_cons, List.flatten_cons]
    exact t.append ih
def oRepT : O2 where
  rel := rRepZ
  f := repTf
  ok := fun K d e z h => by
    unfold repTf at h
    split at h
    · split at h
      · rename_i ds n hc
        cases h
        intro x y G H hx hy hs Q hQ
        cases hy
        cases hx with
        | @tup a xs _ hh t =>
          have e0 := t.len
          refine ⟨a, _, xs, rfl, rfl, (sqm hs hh), fun z => ?_, hc.1.1.1, hc.1.1.2, by omega, fun e => ?_, fun _ p np => hQ _ (.dat (.tuple _)) _ _ (Mv.new hs np) (DD.tup (.inl (.inl upd_same)) ((rep_dd t _).mono (Mv.new (M := fun _ => False) hs np).gr)) rfl⟩
          · subst z
            have : ds.length = 0 := e0.symm
            omega
          · subst e
            refine hQ _ (.dat (.tuple ds)) G H (Mv.refl hs) (DD.tup hh t) ?_
            show _ = SD.dat (.tuple (ds ++ []))
            rw [List.append_nil]
      · cases h
    · cases h
def uNeg : O1 where
  rel := fun _ => rU fun i => .int (-i)
  f := fun d => match d with
    | .int i => some (.int (-i))
    | _ => none
  ok := fun K d z h x G H hx hs Q hQ => by
    split at h
    · cases h
      cases hx
      exact ⟨_, rfl, hQ _ G H (Mv.refl hs) (DD.int _)⟩
    · cases h
def uNot : O1 where
  rel := fun _ x H1 Q => ∃ c, x = .bl c ∧ Q (.bl (!c)) H1
  f := fun d => match d with
    | .bool i => some (.bool (!i))
    | _ => none
  ok := fun K d z h x G H hx hs Q hQ => by
    split at h
    · cases h
      cases hx
      exact ⟨_, rfl, hQ _ G H (Mv.refl hs) (DD.bl _)⟩
    · cases h
def uRevL : O1 where
  rel := fun K x H1 Q => ∃ a xs, x = .ref a ∧ SqL K H1 a xs ∧ ∀ p, H1 p = none → Q (.ref p) (upd H1 p (.lst xs.reverse))
  f := fun d => match d with
    | .list ds => some (.list ds.reverse)
    | _ => none
  ok := fun K d z h x G H hx hs Q hQ => by
    split at h
    · cases h
      cases hx with
      | @lst a xs _ hh t => exact ⟨a, xs, rfl, .inl (.inl (hs _ _ hh)), fun p np => hQ _ _ _ (Mv.new hs np) (DD.lst upd_same (t.reverse.mono (Mv.new (M := fun _ => False) hs np).gr))⟩
    · cases h
def uListRg : O1 where
  rel := fun _ x H1 Q => ∃ n, x = .int n ∧ RgOk 0 n ∧ ∀ q, H1 q = none → Q (.ref q) (upd H1 q (.lst (rgV 0 n)))
  f := fun d => match d with
    | .int n => if 0 ≤ n ∧ n ≤ 16777216 then some (.list (rangeD 0 n.toNat)) else none
    | _ => none
  ok := fun K d z h x G H hx hs Q hQ => by
    split at h
    · split at h
      · rename_i n hc
        cases h
        cases hx
        refine ⟨n, rfl, RgOk.of_le (by omega) hc.2 (by omega) hc.1, fun p np => hQ _ _ _ (Mv.new hs np) (DD.lst upd_same ?_)⟩
        show DDs K _ (rgV 0 n) _
        unfold rgV rangeD
        rw [Int.sub_zero]
        exact dds_rg _ _
      · cases h
    · cases h
def ob1 (g : PyData → Option PyData) : List PyData → Option PyData
  | [d] => g d
  | _ => none
def ob2 (g : Int → Int → PyData) : List PyData → Option PyData
  | [.int i, .int j] => some (g i j)
  | _ => none
def lenF : PyData → Option PyData
  | .list ds => some (.int ds.length)
  | .tuple ds => some (.int ds.length)
  | _ => none
def bLen : OB where
  rel := rLen
  f := ob1 lenF
  ok := fun K ds z h => by
    unfold ob1 at h
    split at h
    · unfold lenF at h
      split at h
      · cases h
        exact rc_lenL
      · cases h
        exact rc_lenT
      · cases h
    · cases h
def listF : PyData → Option PyData
  | .list ds => some (.list ds)
  | .tuple ds => some (.list ds)
  | _ => none
def bList : OB where
  rel := rList
  f := ob1 listF
  ok := fun K ds z h => by
    unfold ob1 at h
    split at h
    · unfold listF at h
      split at h
      · cases h
        exact rc_listL
      · cases h
        exact rc_listT
      · cases h
    · cases h
def tupF : PyData → Option PyData
  | .list ds => some (.tuple ds)
  | .tuple ds => some (.tuple ds)
  | _ => none
def bTup : OB where
  rel := fun K xs H Q => ∃ p ys, xs = [.ref p] ∧ ((SqL K H p ys ∧ ∀ l, H l = none → Q (.ref l) (upd H l (.tup ys))) ∨ (SqT K H p ys ∧ Q (.ref p) H))
  f := ob1 tupF
  ok := fun K ds z h => by
    unfold ob1 at h
    split at h
    · unfold tupF at h
      split at h
      · cases h
        exact rc_tupL
      · cases h
        exact rc_tupT
      · cases h
    · cases h
def absF : PyData → Option PyData
  | .int i => some (.int (if i < 0 then -i else i))
  | _ => none
def bAbs : OB where
  rel := fun _ xs H Q => ∃ i, xs = [.int i] ∧ Q (.int (if i < 0 then -i else i)) H
  f := ob1 absF
  ok := fun K ds z h => by
    unfold ob1 at h
    split at h
    · unfold absF at h
      split at h
      · cases h
        exact rc_abs
      · cases h
    · cases h
theorem ob2_of {g : Int → Int → PyData} {ds : List PyData} {z : PyData} (h : ob2 g ds = some z) : ∃ i j, ds = [.int i, .int j] ∧ z = g i j := by
  unfold ob2 at h
  split at h
  · cases h
    exact ⟨_, _, rfl, rfl⟩
  · cases h
def bMin : OB where
  rel := fun _ xs H Q => ∃ i j, xs = [.int i, .int j] ∧ Q (.int (if j < i then j else i)) H
  f := ob2 fun i j => .int (if j < i then j else i)
  ok := fun K ds z h => by
    obtain ⟨i, j, rfl, rfl⟩ := ob2_of h
    exact rc_min
def bMax : OB where
  rel := fun _ xs H Q => ∃ i j, xs = [.int i, .int j] ∧ Q (.int (if j > i then j else i)) H
  f := ob2 fun i j => .int (if j > i then j else i)
  ok := fun K ds z h => by
    obtain ⟨i, j, rfl, rfl⟩ := ob2_of h
    exact rc_max
def intsOf : List PyData → Option (List Int)
  | [] => some []
  | .int i :: r => (intsOf r).map (i :: ·)
  | _ :: _ => none
theorem intsOf_map : ∀ ns : List Int, intsOf (ns.map .int) = some ns
  | [] => rfl
  | n :: ns => by
    show (intsOf (ns.map .int)).map (n :: ·) = _
    rw [intsOf_map ns]
    rfl
theorem ints_v {K : PySem.W.Frag} {G : Hp} : ∀ {ds : List PyData} {ss : List Int} {vs : List V}, intsOf ds = some ss → DDs K G vs ds → vs = ss.map V.int
  | [], _, _, h, .nil => by
    cases h
    rfl
  | .int x :: r, _, _, h, .cons a t => by
    obtain ⟨l, hl, rfl⟩ := Option.map_eq_some_iff.mp (show (intsOf r).map (x :: ·) = _ from h)
    cases a
    rw [ints_v hl t]
    rfl
def sumF : PyData → Option PyData
  | .list ds => (intsOf ds).map fun ns => .int ns.sum
  | .tuple ds => (intsOf ds).map fun ns => .int ns.sum
  | _ => none
def bSum : OB where
  rel := rSumX
  f := ob1 sumF
  ok := fun K ds z h vs G H hv hs Q hQ => by
    unfold ob1 at h
    split at h
    · unfold sumF at h
      obtain ⟨v, rfl, hx⟩ := vds1 hv
      split at h
      · obtain ⟨ns, hn, rfl⟩ := Option.map_eq_some_iff.mp h
        cases hx with
        | @lst a xs _ hl t =>
          have e := ints_v hn t
          subst e
          exact ⟨a, ns, rfl, .inl (.inl (.inl (hs _ _ hl))), hQ _ (.i _) G H (Mv.refl hs) (DD.int _) rfl⟩
      · obtain ⟨ns, hn, rfl⟩ := Option.map_eq_some_iff.mp h
        cases hx with
        | @tup a xs _ hl t =>
          have e := ints_v hn t
          subst e
          exact ⟨a, ns, rfl, .inr ((sqm hs hl)), hQ _ (.i _) G H (Mv.refl hs) (DD.int _) rfl⟩
      · cases h
    · cases h
def boolsOf : List PyData → Option (List Bool)
  | [] => some []
  | .bool i :: r => (boolsOf r).map (i :: ·)
  | _ :: _ => none
def allF : PyData → Option PyData
  | .list ds => (boolsOf ds).map fun ns => .bool (ns.all id)
  | _ => none
def tB' : OT where
  rel := fun _ x H Q => ∃ c, x = .bl c ∧ Q c H
  f := fun d => match d with
    | .bool b => some b
    | _ => none
  ok := fun K d z h x G H hx hs Q hQ => by
    split at h
    · cases h
      cases hx
      exact ⟨_, rfl, hQ⟩
    · cases h
theorem wk_list {K : PySem.W.Frag} {G : Hp} {a : Addr} {xs : List V} {ds : List PyData} (hx : G a = some (.lst xs)) (ht : DDs K G xs ds) : Wk K G (Itl K a) ds :=
  ⟨fun H => SqL K H a xs, _, by rw [← ht.len]; exact walk_list (xs := xs), fun H3 g => .inl (.inl (g _ _ hx)), fun i d G3 H3 x H4 hd g1 g2 y => by
    obtain ⟨rfl, hy⟩ := y
    obtain ⟨d', h1, h2⟩ := ht.get hy
    cases h1.symm.trans hd
    exact ⟨G3, Mv.refl g2, h2.mono g1⟩⟩
theorem wk_tup {K : PySem.W.Frag} {G : Hp} {a : Addr} {xs : List V} {ds : List PyData} (hx : SqT K G a xs) (ht : DDs K G xs ds) : Wk K G (Itt K a) ds :=
  ⟨fun H => SqT K H a xs, _, by rw [← ht.len]; exact walk_tup (xs := xs), fun H3 g => sqm g hx, fun i d G3 H3 x H4 hd g1 g2 y => by
    obtain ⟨rfl, hy⟩ := y
    obtain ⟨d', h1, h2⟩ := ht.get hy
    cases h1.symm.trans hd
    exact ⟨G3, Mv.refl g2, h2.mono g1⟩⟩
def seqF : PyData → Option (List PyData)
  | .list ds => some ds
  | .tuple ds => some ds
  | _ => none
theorem seqF_of {d : PyData} {ds : List PyData} (h : seqF d = some ds) : IsSeq d ds := by
  unfold seqF at h
  split at h
  · cases h
    exact .inl rfl
  · cases h
    exact .inr rfl
  · cases h
def wSeq : OI where
  rel := fun K x H1 R => ∃ a xs, x = .ref a ∧ ((SqL K H1 a xs ∧ R (Itl K a) H1) ∨ (SqT K H1 a xs ∧ R (Itt K a) H1))
  f := seqF
  ok := fun K d its h x G H hx hs R hR => by
    rcases seqF_of h with rfl | rfl
    · cases hx with
      | @lst a xs _ hh t => exact ⟨a, xs, rfl, .inl ⟨.inl (.inl (hs _ _ hh)), hR _ (wk_list hh t)⟩⟩
    · cases hx with
      | @tup a xs _ hh t => exact ⟨a, xs, rfl, .inr ⟨(sqm hs hh), hR _ (wk_tup hh t)⟩⟩
def rngF : List PyData → Option (List PyData)
  | [.int n] => if -(2 ^ 62) ≤ n ∧ n < 2 ^ 62 then some (rangeD 0 n.toNat) else none
  | _ => none
def wRng : OIs where
  rel := fun _ vs H1 R => ∃ j : Int, vs = [.int j] ∧ -(2 ^ 62) ≤ j ∧ j < 2 ^ 62 ∧ R (Itr 0 j.toNat) H1
  f := rngF
  ok := fun K ds its h xs G H hx hs R hR => by
    unfold rngF at h
    split at h
    · split at h
      · rename_i n hc
        cases h
        cases hx with
        | cons a t =>
          cases t
          cases a
          refine ⟨n, rfl, hc.1, hc.2, hR _ ⟨_, _, by rw [rangeD_len]; exact walk_range, fun _ _ => trivial, fun i d G3 H3 x H4 hd g1 g2 y => ?_⟩⟩
          obtain ⟨rfl, rfl⟩ := y
          obtain ⟨_, rfl⟩ := rangeD_get hd
          exact ⟨G3, Mv.refl g2, .int _⟩
      · cases h
    · cases h
def zipF : List PyData → Option (List PyData)
  | [d, e] => (seqF d).bind fun ds => (seqF e).map fun es => zipD ds es
  | _ => none
def wZip : OIs where
  rel := fun K vs H1 R => ∃ c e a b xs ys, vs = [.ref a, .ref b] ∧ SqX K c H1 a xs ∧ SqX K e H1 b ys ∧ R (ItX K c e a b) H1
  f := zipF
  ok := fun K ds its h xs G H hx hs R hR => by
    unfold zipF at h
    split at h
    · obtain ⟨ds, h1, h2⟩ := Option.bind_eq_some_iff.mp h
      obtain ⟨es, h3, rfl⟩ := Option.map_eq_some_iff.mp h2
      cases hx with
      | cons hv t =>
        cases t with
        | cons hu t =>
          cases t
          obtain ⟨c, a, xs, rfl, t1, q1⟩ := sqX_of (H := H) hv (seqF_of h1)
          obtain ⟨e, b, ys, rfl, t2, q2⟩ := sqX_of (H := H) hu (seqF_of h3)
          refine ⟨c, e, a, b, xs, ys, rfl, q1 H hs, q2 H hs, hR _ ⟨fun H => SqX K c H a xs ∧ SqX K e H b ys, _, walkX (by rw [t1.len, t2.len]; simp [zipD]), fun H3 g => ⟨q1 H3 g, q2 H3 g⟩, fun i d' G3 H3 x H4 hd g1 g2 y => ?_⟩⟩
          obtain ⟨T, x1, x2, rfl, nT, rfl, e1, e2⟩ := y
          obtain ⟨f1, c1, k1⟩ := t1.get e1
          obtain ⟨f2, c2, k2⟩ := t2.get e2
          have ed : d' = .tuple [f1, f2] := by
            unfold zipD at hd
            rw [List.getElem?_zipWith, c1, c2] at hd
            exact (Option.some.inj hd).symm
          subst ed
          have mm : Mv (fun _ => False) G3 H3 (upd G3 T (.tup [x1, x2])) (upd H3 T (.tup [x1, x2])) := Mv.new g2 nT
          exact ⟨_, mm, DD.tup (.inl (.inl upd_same)) (.cons (k1.mono fun a o z => mm.gr _ _ (g1 _ _ z)) (.cons (k2.mono fun a o z => mm.gr _ _ (g1 _ _ z)) .nil))⟩
    · cases h
def cutTf : PyData → Option Int → Option Int → Option PyData
  | .tuple ds, l, h => some (.tuple (cutD ds l h))
  | _, _, _ => none
theorem cutTf_of {d : PyData} {l h : Option Int} {z : PyData} (e : cutTf d l h = some z) : ∃ ds, d = .tuple ds ∧ z = .tuple (cutD ds l h) := by
  unfold cutTf at e
  split at e
  · cases e
    exact ⟨_, rfl, rfl⟩
  · cases e
def sTup : OS where
  rel := rSlA
  f := cutTf
  ok := fun K d l h z e x G H hx hs Q hQ => by
    obtain ⟨ds, rfl, rfl⟩ := cutTf_of e
    cases hx with
    | @tup a xs _ hh t =>
      have hl := t.len
      have cut : DDs K G (cutV xs l h) (cutD ds l h) := by
        unfold cutV cutD
        rw [hl]
        exact (t.drop _).take _
      refine ⟨a, xs, rfl, (sqm hs hh), fun w => ?_, fun _ p np => hQ _ _ _ (Mv.new hs np) (DD.tup (.inl (.inl upd_same)) (cut.mono (Mv.new (M := fun _ => False) hs np).gr))⟩
      refine hQ _ G H (Mv.refl hs) ?_
      have e : cutD ds l h = ds := by
        unfold cutD
        rw [hl] at w
        rw [w.1, w.2, List.drop_zero, Nat.sub_zero, List.take_length]
      rw [e]
      exact DD.tup hh t
def cutLf : PyData → Option Int → Option Int → Option PyData
  | .list ds, l, h => some (.list (cutD ds l h))
  | _, _, _ => none
theorem cutLf_of {d : PyData} {l h : Option Int} {z : PyData} (e : cutLf d l h = some z) : ∃ ds, d = .list ds ∧ z = .list (cutD ds l h) := by
  unfold cutLf at e
  split at e
  · cases e
    exact ⟨_, rfl, rfl⟩
  · cases e
def sLst : OS where
  rel := rSlL
  f := cutLf
  ok := fun K d l h z e x G H hx hs Q hQ => by
    obtain ⟨ds, rfl, rfl⟩ := cutLf_of e
    cases hx with
    | @lst a xs _ hh t =>
      have hl := t.len
      have cut : DDs K G (cutV xs l h) (cutD ds l h) := by
        unfold cutV cutD
        rw [hl]
        exact (t.drop _).take _
      exact ⟨a, xs, rfl, .inl (.inl (hs _ _ hh)), fun p np => hQ _ _ _ (Mv.new hs np) (DD.lst upd_same (cut.mono (Mv.new (M := fun _ => False) hs np).gr))⟩
def ixQf : PyData → PyData → Option PyData
  | .list ds, .int i => atI ds i
  | .tuple ds, .int i => atI ds i
  | _, _ => none
def oIxQ : O2 where
  rel := fun K x y H Q => rIxL K x y H Q ∨ rIxT K x y H Q
  f := ixQf
  ok := fun K d e z h x y G H hx hy hs Q hQ => by
    unfold ixQf at h
    split at h
    · exact .inl (rv_ixL h x y G H hx hy hs Q hQ)
    · exact .inr (rv_ixT h x y G H hx hy hs Q hQ)
    · cases h
section
variable {X : Cx} {K : PySem.W.Frag}
theorem ix_q : IxR X (fun x y H Q => rIxL X.K x y H Q ∨ rIxT X.K x y H Q) := IxR.or ix_list ix_tup
end
def minI : List Int → Int
  | [] => 0
  | [x] => x
  | x :: y :: l => if minI (y :: l) < x then minI (y :: l) else x
end DP
namespace DP
open PySem PySem.Spec PyProof.Rows L2 ZX DL RT
theorem tail_no {n : Nat} {ds : List PyData} {i : Nat} {s : Sl} (h : (ds.map Sl.dat ++ List.replicate n Sl.unk)[i]? = some s) : s = .unk ∨ ∃ d, s = .dat d ∧ ds[i]? = some d := by
  by_cases hi : i < ds.length
  · rw [List.getElem?_append_left (by simpa using hi), List.getElem?_map] at h
    obtain ⟨e, he, hd⟩ := Option.map_eq_some_iff.mp h
    exact .inr ⟨e, hd.symm, he⟩
  · rw [List.getElem?_append_right (by simpa using Nat.not_lt.mp hi), List.getElem?_replicate] at h
    split at h
    · exact .inl (Option.some.inj h).symm
    · cases h
theorem startE_rp {ob : Option Bo} (N : List Str) (ds : List PyData) : Rp ob (startE N.length ds) (startD N ds) [] := by
  refine Rp.start (by simp [startE, startD]) (fun i d h => ?_) (fun i o h => ?_) (fun i s h => ?_)
  · unfold startE at h
    unfold startD
    by_cases hi : i < ds.length
    · rw [List.getElem?_append_left (by simpa using hi), List.getElem?_map] at h ⊢
      obtain ⟨e, he, hd⟩ := Option.map_eq_some_iff.mp h
      rw [he]
      cases hd
      rfl
    · rw [List.getElem?_append_right (by simpa using Nat.not_lt.mp hi), List.getElem?_replicate] at h
      split at h <;> cases h
  · exfalso
    unfold startE at h
    rcases tail_no h with e | ⟨d', e, hd⟩ <;> cases e
  · unfold startE at h
    rcases tail_no h with e | ⟨d', e, hd⟩ <;> rw [e] <;> rfl
theorem startO_rp {b : Bo} {o : Option (List PyData)} (N : List Str) (ds : List PyData) (hb : b.fl = o) : Rp (some b) (.bx o :: (ds.map Sl.dat ++ List.replicate (N.length - (ds.length + 1)) Sl.unk)) (DL.startB N b.a ds) [] := by
  refine Rp.start (by simp [DL.startB]) (fun i d h => ?_) (fun i u h => ?_) (fun i s h => ?_)
  · cases i with
    | zero => cases h
    | succ i =>
      rw [List.getElem?_cons_succ] at h
      rcases tail_no h with e | ⟨d', e, hd⟩
      · cases e
      · cases e
        unfold DL.startB
        have hi : i < ds.length := (List.getElem?_eq_some_iff.mp hd).1
        rw [List.getElem?_cons_succ, List.getElem?_append_left (by simpa using hi), List.getElem?_map, hd]
        rfl
  · cases i with
    | zero =>
      cases h
      exact ⟨b, rfl, hb, rfl⟩
    | succ i =>
      rw [List.getElem?_cons_succ] at h
      rcases tail_no h with e | ⟨d', e, hd⟩ <;> cases e
  · cases i with
    | zero =>
      cases h
      rfl
    | succ i =>
      rw [List.getElem?_cons_succ] at h
      rcases tail_no h with e | ⟨d', e, hd⟩ <;> rw [e] <;> rfl
theorem startX_rp (N : List Str) (b : Addr) (ds : List PyData) : Rp (some (Bo.law b)) (startX N.length ds) (DL.startB N b ds) [] := startO_rp (b := Bo.law b) N ds rfl
theorem told_ok {f : Fl} {n : Nat} {Φ : PyData → Nat → Prop} (h : (told f).ok n Φ) : (∃ d, f = .rt d ∧ Φ d n) ∨ ∃ ds, f = .rtO ds ∧ Φ (.list ds) n := by
  cases f with
  | rt d => exact .inl ⟨d, rfl, h⟩
  | rtO d => exact .inr ⟨d, rfl, h⟩
  | nx _ => exact h.elim
  | bk _ => exact h.elim
  | ct _ => exact h.elim
  | ex _ _ => exact h.elim
theorem frz_side {K : PySem.W.Frag} {M : Addr → Prop} {G H G2 H2 : Hp} {l : Addr} {xs : List V} {ds : List PyData} (m : Mv M G H G2 H2) (n0 : H l = none) (g0 : G2 l = none) (h : H2 l = some (.lst xs)) (d : DDs K G2 xs ds) : Mv M G H (upd G2 l (.lst xs)) H2 ∧ DD K (upd G2 l (.lst xs)) (.ref l) (.list ds) := by
  have k : ∀ a u, G2 a = some u → upd G2 l (.lst xs) a = some u := fun a u e => by
    rw [upd_ne (ne_of_none e g0)]
    exact e
  refine ⟨⟨fun a o e => k a o (m.gr a o e), fun a o e => ?_, fun a o e => ?_, m.kp, m.dom⟩, DD.lst upd_same (d.mono k)⟩
  · by_cases ea : a = l
    · subst ea
      rw [upd_same] at e
      rw [← e]
      exact h
    · rw [upd_ne ea] at e
      exact m.sub a o e
  · rw [upd_ne (ne_of_none e n0)]
    exact m.old a o e
theorem wd_more {S : MS} {n : Nat} {G H : Hp} {l : Addr} {o : HO} (w : Wd S n G H) (nM : ¬ S.M l) (g0 : G l = none) (h : H l = some o) : Wd S n (upd G l o) H := by
  refine ⟨fun a u e => ?_, fun a ha => ?_, S.fr w.inv (fun a u e => ?_) fun _ _ _ e => e⟩
  · by_cases ea : a = l
    · subst ea
      rw [upd_same] at e
      rw [← e]
      exact h
    · rw [upd_ne ea] at e
      exact w.sub a u e
  · rw [upd_ne (show a ≠ l from fun e => nM (e ▸ ha))]
    exact w.no a ha
  · rw [upd_ne (ne_of_none e g0)]
    exact e
theorem no_has {l : Addr} {H : Hp} (h : Own.has [] l ∨ H l = none) : H l = none := h.elim (fun ⟨_, z⟩ => nomatch z) fun z => z
abbrev gqX (K : PySem.W.Frag) (w : World) (da : Nat → Option Addr) (cls : Nat → Addr) (E : XK) : Gq := ⟨K, w, da, cls, E, 0, fun _ => False, fun _ => Str.empty, fun _ => Str.empty, true⟩
abbrev gq (K : PySem.W.Frag) (w : World) (da : Nat → Option Addr) : Gq := gqX K w da (fun _ => 0) fun _ _ _ => False
theorem hb_none {K : PySem.W.Frag} {w : World} {da : Nat → Option Addr} {cls : Nat → Addr} {E : XK} : HB (gqX K w da cls E) none := ⟨fun _ z => (by cases z), fun _ {_ _ _ _} h => h, fun _ _ z => (by cases z), fun _ _ z => z.elim⟩
theorem hb_law {K : PySem.W.Frag} {w : World} {da : Nat → Option Addr} {cls : Nat → Addr} {E : XK} {a : Addr} : HB (gqX K w da cls E) (some (Bo.law a)) := ⟨fun _ z _ => (by cases z; rfl), fun _ {_ _ _ _} h => h, fun _ _ z z2 => (by cases z; cases z2), fun _ _ z => z.elim⟩
section
variable {P : Program} {w : World} {K : PySem.W.Frag} {mg : Str → Option Value} {base : Heap} {da : Nat → Option Addr} {x qual : Str} {st : Stmt} {f : Addr} {fd : FuncData} {N ps : List Str} {k : Nat} {b : S}
theorem fnP (hD : HD K w da) (F : Fun K x qual st f fd) (Sc : FnScope N ps (defScope st))
    (body : ∀ (cdv : Value) (A : Around) (outer : List Env) (s : Shared) (H : Hp) (E : XK), Room k (A.deeper (envOfC qual (defScope st) s.heap.objs.size f cdv)) →
      PSs (cxOf CX0 P w K mg base N qual (defScope st) f cdv A outer s H E).nox (defBody st) (tS (gq K w da) b)) : FnOk P w K mg base CX0 (k + 1) f fd ps (spF K (run N.length ps.length b)) := by
  refine F.ok Sc (fun vs H Q E h => ?_) (fun cdv A outer s H vs Q E hr h => ?_)
  · obtain ⟨G, ds, d, _, dd, hp, _⟩ := h
    rw [dd.len]
    unfold run at hp
    split at hp
    · assumption
    · cases hp
  · obtain ⟨G, ds, d, hs, dd, hp, q⟩ := h
    refine ⟨_, body cdv A outer s H E hr, ?_⟩
    have hp2 : ((evS b (startE N.length ds)).bind told).ok 0 (fun z _ => z = d) := by
      unfold run at hp
      split at hp
      · rw [hp]
        rfl
      · cases hp
    refine sS (q := gq K w da) (ob := none) hD hb_none b _ _ [] 0 _ (startE_rp N ds) (Dr.ok_bind.mp hp2) _ G H (start_slots dd) (ows_nil (wd_pu hs)) _ ⟨fun _ _ _ _ _ _ _ _ _ _ _ z => z.elim, fun v z W' n G2 H2 m _ hv hz => ?_, fun l xs ds' W' n' G2 H2 m w2 b2 g2 h2 d2 hz => ?_, fun _ _ _ _ _ _ _ _ _ _ _ z => z.elim, fun _ _ _ _ _ _ _ _ _ _ _ z => z.elim, fun _ _ _ _ _ _ _ _ z => z.elim⟩
    · rcases told_ok hz with ⟨z', ez, hz⟩ | ⟨_, ez, _⟩
      · cases ez
        cases hz
        exact q v G2 H2 m.toMv hv
      · cases ez
    · rcases told_ok hz with ⟨_, ez, _⟩ | ⟨z', ez, hz⟩
      · cases ez
      · cases ez
        obtain ⟨m2, d3⟩ := frz_side m.toMv (no_has b2) g2 h2 d2
        rw [hz] at d3
        exact q _ _ H2 m2 d3
def runT (N p i : Nat) (b : S) : Fs := fun ds => if ds.length = p then (evS b (startE N ds)).bind fun f => match f with
  | .nx env => (tabAt env i).bind fun fs => .ret (obT fs)
  | _ => .bad else .bad
theorem fnB (hD : HD K w da) (F : Fun K x qual st f fd) (Sc : FnScope N ps (defScope st))
    (body : ∀ (cdv : Value) (A : Around) (outer : List Env) (s : Shared) (H : Hp) (E : XK), Room k (A.deeper (envOfC qual (defScope st) s.heap.objs.size f cdv)) →
      PSs (cxOf CX0 P w K mg base N qual (defScope st) f cdv A outer s H E).nox (defBody st) (tS (gq K w da) b)) : FnOk P w K mg base CX0 (k + 1) f fd ps (spD K (runB N.length ps.length b)) := by
  refine F.ok Sc (fun vs H Q E h => ?_) (fun cdv A outer s H vs Q E hr h => ?_)
  · obtain ⟨a, vs', G, ds, n, Φ, rfl, dd, _, hp, _⟩ := h
    rw [List.length_cons, dd.len]
    unfold runB at hp
    split at hp
    · assumption
    · exact hp.elim
  · obtain ⟨a, vs', G, ds, n, Φ, rfl, dd, hw, hp, q⟩ := h
    refine ⟨_, body cdv A outer s H E hr, ?_⟩
    have hp2 : ((evS b (startX N.length ds)).bind told).ok n Φ := by
      unfold runB at hp
      split at hp
      · exact hp
      · exact hp.elim
    refine sS (q := gq K w da) (ob := some (Bo.law a)) hD hb_law b _ _ [] n _ (startX_rp N a ds) (Dr.ok_bind.mp hp2) _ G H (start_box dd) (ows_nil hw) _ ⟨fun _ _ _ _ _ _ _ _ _ _ _ z => z.elim, fun v z W' n' G2 H2 m w2 hv hz => ?_, fun l xs ds' W' n' G2 H2 m w2 b2 g2 h2 d2 hz => ?_, fun _ _ _ _ _ _ _ _ _ _ _ z => z.elim, fun _ _ _ _ _ _ _ _ _ _ _ z => z.elim, fun _ _ _ _ _ _ _ _ z => z.elim⟩
    · rcases told_ok hz with ⟨z', ez, hz⟩ | ⟨_, ez, _⟩
      · cases ez
        exact q v z n' G2 H2 m.toMv (owsD w2) hv hz
      · cases ez
    · rcases told_ok hz with ⟨_, ez, _⟩ | ⟨z', ez, hz⟩
      · cases ez
      · cases ez
        obtain ⟨m2, d3⟩ := frz_side m.toMv (no_has b2) g2 h2 d2
        refine q _ _ n' _ H2 m2 (wd_more (owsD w2) (fun z => ?_) g2 h2) d3 hz
        obtain ⟨o, e⟩ := (bx a).dom hw.inv z
        rw [no_has b2] at e
        cases e
theorem ret_of {α β : Type} {t : Dr α} {g : α → Dr β} {z : β} (h : t.bind g = .ret z) : ∃ a, t = .ret a ∧ g a = .ret z := by
  cases t with
  | ret a => exact ⟨a, rfl, h⟩
  | bad => cases h
  | draw m k => cases h
theorem run_X {N p : Nat} {b : S} {ds : List PyData} {d : PyData} (h : run N p b ds = .ret d) : runX N p b ds = .ret (.val d) := by
  unfold run at h
  unfold runX
  split at h
  · rename_i e
    rw [if_pos e]
    obtain ⟨a, ha, h2⟩ := ret_of h
    rw [ha]
    cases a with
    | rt z =>
      cases h2
      rfl
    | rtO z =>
      cases h2
      rfl
    | nx _ => cases h2
    | bk _ => cases h2
    | ct _ => cases h2
    | ex _ _ => cases h2
  · cases h
theorem fnC {n p : Nat} {cls : Nat → Addr} (F : FnOk P w K mg base (L2.CX P w) k f fd ps (spX K (fun ds => ∃ o, runX n p b ds = .ret o) (fun ds d => runX n p b ds = .ret (.val d)) (fun ds cl fl => ∃ c fs, runX n p b ds = .ret (.exc c fs) ∧ cl = .ref (cls c) ∧ fl = some fs))) : FnOk P w K mg base CX0 k f fd ps (spF K (run n p b)) := by
  have F2 := fn_calmX F
  have h : ∀ vs H Q E, spF K (run n p b) vs H Q E → spP K (fun ds d => (∃ o, runX n p b ds = .ret o) ∧ (∀ e, runX n p b ds = .ret (.val e) → e = d) ∧ ∀ (cls' : Value) (fl : Option (List (Str × PyData))), ¬ ∃ c fs, runX n p b ds = .ret (.exc c fs) ∧ cls' = .ref (cls c) ∧ fl = some fs) vs H Q E := fun vs H Q E ⟨G, ds, d, sub, dd, hp, q⟩ => by
    have hx := run_X hp
    refine ⟨G, ds, d, sub, dd, ⟨⟨_, hx⟩, fun e he => ?_, fun cl fl ⟨c, fs, he, _⟩ => ?_⟩, q⟩
    · rw [hx] at he
      cases he
      rfl
    · rw [hx] at he
      cases he
  exact ⟨fun vs H Q E q => F2.len vs H Q E (h vs H Q E q), fun A outer s H args us vs Q E hr he hb hv hs => F2.run A outer s H args us vs Q E hr he hb hv (h vs H Q E hs)⟩
def takeF : Fs := fun ds => match ds with
  | [.int m] => .draw m fun j => .ret (.int j)
  | _ => .bad
theorem fn_take {f : Addr} {fd : FuncData} {k : Nat} {ps : List Str} (F2 : FnOk P w K mg base CX0 k f fd ps (spB K Rtake)) : FnOk P w K mg base CX0 k f fd ps (spD K takeF) := by
  have h : ∀ vs H Q E, spD K takeF vs H Q E → spB K Rtake vs H Q E := fun vs H Q E ⟨b, vs', G, ds, n, Φ, e, dd, hw, hp, q⟩ => by
    unfold takeF at hp
    split at hp
    · rename_i m
      obtain ⟨n', rfl, h1, h2, h3⟩ := hp
      exact ⟨b, vs', G, _, n', 1, _, e, dd, hw, ⟨m, rfl, h1, h2, rfl, rfl⟩, fun v d G2 H2 m2 w2 dv ⟨i, ei, i0, i1⟩ => by
        subst ei
        exact q v _ n' G2 H2 m2 w2 dv (h3 i i0 i1)⟩
    · exact hp.elim
  exact ⟨fun vs H Q E q => F2.len vs H Q E (h vs H Q E q), fun A outer s H args us vs Q E hr he hb hv hs => F2.run A outer s H args us vs Q E hr he hb hv (h vs H Q E hs)⟩
theorem fn_holds {g : Fs} {c : Nat} {f : Addr} {fd : FuncData} {k : Nat} {ps : List Str} (F2 : FnOk P w K mg base CX0 k f fd ps (spD K g)) (hg : (g []).ok c fun d _ => d = .bool true) : FnOk P w K mg base CX0 k f fd ps (spB K fun ds c' Φ => ds = [] ∧ c' = c ∧ Φ = fun d => d = .bool true) := by
  have h : ∀ vs H Q E, spB K (fun ds c' Φ => ds = [] ∧ c' = c ∧ Φ = fun d => d = .bool true) vs H Q E → spD K g vs H Q E := fun vs H Q E ⟨b, vs', G, ds, r, c', Φ, e, dd, hw, ⟨e1, e2, e3⟩, q⟩ => by
    subst e1 e2 e3
    refine ⟨b, vs', G, [], r + c', fun d n' => d = .bool true ∧ r ≤ n', e, dd, hw, ?_, fun v d n' G2 H2 m2 w2 dv ⟨hd, hn⟩ => q v d G2 H2 m2 (Wd.dn (j := n' - r) (w2.eq (by omega))) dv hd⟩
    have key : ∀ {α : Type} (t : Dr α) (n r : Nat) (Ψ : α → Nat → Prop), t.ok n Ψ → t.ok (r + n) fun a n' => r ≤ n' ∧ Ψ a (n' - r) := fun {α} t => by
      induction t with
      | ret a =>
        intro n r Ψ h
        refine ⟨by omega, ?_⟩
        rw [Nat.add_sub_cancel_left]
        exact h
      | bad => exact fun _ _ _ h => h
      | draw m k ih =>
        rintro n r Ψ ⟨n', rfl, h1, h2, h3⟩
        exact ⟨r + n', rfl, h1, h2, fun j a b => ih j n' r Ψ (h3 j a b)⟩
    exact Dr.ok_mono (fun a n h => ⟨h.2, h.1⟩) (key _ _ r _ hg)
  exact ⟨fun vs H Q E q => F2.len vs H Q E (h vs H Q E q), fun A outer s H args us vs Q E hr he hb hv hs => F2.run A outer s H args us vs Q E hr he hb hv (h vs H Q E hs)⟩
end
end DP
namespace DP
open PySem PySem.Spec PyProof.Rows L2 ZX DL RT
def intF : List PyData → Option PyData
  | [.int i] => some (.int i)
  | [.bool b] => some (.int (if b then 1 else 0))
  | _ => none
def bInt : OB where
  rel := fun _ xs H Q => (∃ i, xs = [.int i] ∧ Q (.int i) H) ∨ ∃ k, xs = [.bl k] ∧ Q (.int (if k then 1 else 0)) H
  f := intF
  ok := fun K ds z h vs G H hv hs Q hQ => by
    unfold intF at h
    split at h
    · cases h
      obtain ⟨v, rfl, hx⟩ := vds1 hv
      cases hx
      exact .inl ⟨_, rfl, hQ _ (.i _) G H (Mv.refl hs) (DD.int _) rfl⟩
    · cases h
      obtain ⟨v, rfl, hx⟩ := vds1 hv
      cases hx
      exact .inr ⟨_, rfl, hQ _ (.i _) G H (Mv.refl hs) (DD.int _) rfl⟩
    · cases h
def oOdd : O2 where
  rel := fun _ x y H Q => ∃ (i : Int) (k : Nat), x = .int i ∧ y = .int (2 ^ k - 1) ∧ Q (.int (i % 2 ^ k)) H
  f := fun d e => match d, e with
    | .int i, .int j => if j = 1 then some (.int (i % 2)) else none
    | _, _ => none
  ok := fun K d e z h => by
    split at h
    · split at h
      · rename_i hc
        subst hc
        cases h
        intro x y G H hx hy hs Q hQ
        cases hx
        cases hy
        exact ⟨_, 1, rfl, rfl, hQ _ (.i _) G H (Mv.refl hs) (DD.int _) rfl⟩
      · cases h
    · cases h
def oShr : O2 := oIc (fun _ j => 0 ≤ j) (fun _ j => decide (0 ≤ j)) (fun i j => .int (i / 2 ^ j.toNat)) (fun i j => .int (i / 2 ^ j.toNat)) (fun i j h => by simpa using h) fun _ _ _ _ => .int _
theorem pss_frz {X : Cx} {ss : List Stmt} {q : Gq} {i : Nat} {s : S} (h : PSs X ss (tS q s)) : PSs X ss (tS q (.frz i s)) := h
def fList : OFB where
  rel := rList
  f := fun ds => match ds with
    | [.list es] => some es
    | [.tuple es] => some es
    | _ => none
  ok := fun K ds zs h vs G H hv hs Q hQ => by
    split at h
    · cases h
      cases hv with
      | cons h1 t1 =>
        cases t1
        cases h1 with
        | @lst a xs _ hh t => exact ⟨a, xs, rfl, .inl (.inl (.inl (hs _ _ hh))), fun l hl => hQ _ l t hl⟩
    · cases h
      cases hv with
      | cons h1 t1 =>
        cases t1
        cases h1 with
        | @tup a xs _ hh t => exact ⟨a, xs, rfl, .inr ((sqm hs hh)), fun l hl => hQ _ l t hl⟩
    · cases h
section
variable {X : Cx} {K : PySem.W.Frag}
end
end DP
namespace DP
open PySem PySem.Spec PyProof.Rows L2 ZX DL RT
def Pl : Nat → PyData → Prop
  | _, .none => True
  | _, .bool _ => True
  | _, .int _ => True
  | _, .str x => PyData.strOk x = true
  | 0, .list _ => False
  | 0, .tuple _ => False
  | n + 1, .list xs => xs.length ≤ 100000 ∧ ∀ y ∈ xs, Pl n y
  | n + 1, .tuple xs => xs.length ≤ 100000 ∧ ∀ y ∈ xs, Pl n y
  | _, .dict _ => False
def Rsame (n : Nat) : List PyData → PyData → Prop := fun ds d => ∃ x, ds = [x, x] ∧ Pl n x ∧ d = .bool true
def RsameN : Nat → List PyData → PyData → Prop
  | 0 => fun _ _ => False
  | n + 1 => Rsame n
open Classical in
noncomputable def sameF : Fs := fun ds => match ds with
  | [x, y] => if x = y ∧ Pl 4 x then .ret (.bool true) else .bad
  | _ => .bad
theorem sameF_eq {x y : PyData} (h : x = y) (hp : Pl 4 x) : sameF [x, y] = .ret (.bool true) := by
  unfold sameF
  exact if_pos ⟨h, hp⟩
theorem sameF_of {ds : List PyData} {d : PyData} (h : sameF ds = .ret d) : RsameN 5 ds d := by
  unfold sameF at h
  split at h
  · split at h
    · rename_i x y hc
      cases h
      obtain ⟨rfl, hp⟩ := hc
      exact ⟨x, rfl, hp, rfl⟩
    · cases h
  · cases h
theorem gds0_of {z : Str} {d : PyData} (e : gds 0 z = some d) : (z = "R+" ∧ d = .int 0) ∨ (z = "R-" ∧ d = .int 1) ∨ (z = "L+" ∧ d = .int 2) ∨ (z = "L-" ∧ d = .int 3) := by
  replace e : (if z = "R+" then some (PyData.int 0) else (if z = "R-" then some (PyData.int 1) else (if z = "L+" then some (PyData.int 2) else (if z = "L-" then some (PyData.int 3) else none)))) = some d := e
  split at e
  · cases e
    exact .inl ⟨by assumption, rfl⟩
  split at e
  · cases e
    exact .inr (.inl ⟨by assumption, rfl⟩)
  split at e
  · cases e
    exact .inr (.inr (.inl ⟨by assumption, rfl⟩))
  split at e
  · cases e
    exact .inr (.inr (.inr ⟨by assumption, rfl⟩))
  cases e
section
variable {P : Program} {w : World} {K : PySem.W.Frag} {mg : Str → Option Value} {base : Heap}
theorem fn_same {f : Addr} {fd : FuncData} {k : Nat} {ps : List Str} (F2 : FnOk P w K mg base CX0 k f fd ps (spP K (RsameN 5))) : FnOk P w K mg base CX0 k f fd ps (spF K sameF) := by
  have h : ∀ vs H Q E, spF K sameF vs H Q E → spP K (RsameN 5) vs H Q E := fun vs H Q E ⟨G, ds, d, sub, dd, hp, q⟩ => ⟨G, ds, d, sub, dd, sameF_of hp, q⟩
  exact ⟨fun vs H Q E q => F2.len vs H Q E (h vs H Q E q), fun A outer s H args us vs Q E hr he hb hv hs => F2.run A outer s H args us vs Q E hr he hb hv (h vs H Q E hs)⟩
end
end DP
namespace DP
open PySem PySem.Spec PyProof.Rows L2 ZX DL RT
structure CM (P : Program) (w : World) (K : PySem.W.Frag) (mg : Str → Option Value) (base : Heap) (k : Nat) (C : Addr) (m q : Str) (st : Stmt) (ps : List Str) (sp : Sp) : Prop where
  ex : ∃ (f : Addr) (fd : FuncData), Fun K m q st f fd ∧ FnOk P w K mg base CX0 k f fd ps sp ∧ Meth K C m f ∧ Binds K fd ps []
section
variable {X : Cx} {k j : Nat} {C : Addr} {m q : Str} {st : Stmt} {ps : List Str} {sp : Sp} {pos apos : Pos} {o e : Expr} {es : List Expr} {ta : TE} {t : TA} {pl : Sem Bool}
end
structure CI (P : Program) (w : World) (K : PySem.W.Frag) (mg : Str → Option Value) (base : Heap) (k : Nat) (C : Addr) (x q : Str) (st : Stmt) (ps : List Str) (sp : Sp) : Prop where
  ex : ∃ (f : Addr) (fd : FuncData), Fun K "__init__" q st f fd ∧ FnOk P w K mg base CX0 k f fd ps sp ∧ Mk K C f ∧ Binds K fd ps [] ∧ mg x = some (.ref C)
def Ent (K : PySem.W.Frag) (G : Hp) (R : Int → Int → PyData → Prop) (p : List L2.Key × V) : Prop := ∃ i m d, p.1 = [.inl i, .inl m] ∧ 0 ≤ i ∧ i < 64 ∧ 0 ≤ m ∧ m < 100000 ∧ DD K G p.2 d ∧ R i m d
theorem Ent.mono {K : PySem.W.Frag} {G G' : Hp} {R : Int → Int → PyData → Prop} {p : List L2.Key × V} (h : Ent K G R p) (g : ∀ a o, G a = some o → G' a = some o) : Ent K G' R p := by
  obtain ⟨i, m, d, a, b, c, e, f, x, y⟩ := h
  exact ⟨i, m, d, a, b, c, e, f, x.mono g, y⟩
structure TC (K : PySem.W.Frag) (C : Addr) : Prop where
  cl : Cls K C
  n0 : NoAttr K C "row_rooms"
  n1 : NoAttr K C "runs"
  n2 : NoAttr K C "net"
  n3 : NoAttr K C "known"
section
variable {P : Program} {w : World} {K : PySem.W.Frag} {mg : Str → Option Value} {base : Heap} {da : Nat → Option Addr} {qual : Str} {st : Stmt} {f C : Addr} {fd : FuncData} {k : Nat}
def iEnv (N : Nat) (ds : List PyData) : En := .unk :: (ds.map Sl.dat ++ List.replicate (N - (ds.length + 1)) Sl.unk)
theorem mv_at {G H G1 H1 : Hp} {x : Addr} {o : HO} (m : Mv (fun _ => False) G H G1 H1) (nx : H x = none) (gx : G1 x = none) (hx : ∃ u, H1 x = some u) : Mv (fun _ => False) G H G1 (upd H1 x o) where
  gr := m.gr
  sub := fun a u e => by
    rw [upd_ne (ne_of_none e gx)]
    exact m.sub a u e
  old := m.old
  kp := fun a u e n => by
    rw [upd_ne (ne_of_none e nx)]
    exact m.kp a u e n
  dom := fun a u e => ⟨u, by
    rw [upd_ne (ne_of_none e nx)]
    exact m.kp a u e fun z => z⟩
end
end DP
namespace GG
open PySem PySem.Spec PyProof.Rows L2 ZX DL RT DP
structure FnG (P : Program) (w : World) (K : PySem.W.Frag) (mg : Str → Option Value) (base : Heap) (k : Nat) (f : Addr) (fd : FuncData) (ps : List Str) (sp : Sp) : Prop where
  len : ∀ vs H Q E, sp vs H Q E → vs.length = ps.length
  run : ∀ (A : Around) (out : List Env) (s : Shared) (H : Hp) (ar : Args) (us : List Value) (vs : List V) (Q : VK) (E : XK), Room k A → A.guards = some [] → Env0 P w K mg base A out s H → BindsTo s fd ar (ps.zip us) → Vals vs us → sp vs H Q E →
    codeAny (model P w) A (.call (.ref f) ar) (CR CX0 out P w H s Q E) s
section
variable {P : Program} {w : World} {K : PySem.W.Frag} {mg : Str → Option Value} {base : Heap} {k : Nat} {f : Addr} {fd : FuncData} {ps : List Str} {sp sp' : Sp}
theorem FnG.imp (F : FnG P w K mg base k f fd ps sp) (h : ∀ vs H Q E, sp' vs H Q E → sp vs H Q E) : FnG P w K mg base k f fd ps sp' :=
  ⟨fun vs H Q E q => F.len vs H Q E (h _ _ _ _ q), fun A out s H ar us vs Q E hr hg e0 hb r q => F.run A out s H ar us vs Q E hr hg e0 hb r (h _ _ _ _ q)⟩
end
structure ClG (P : Program) (w : World) (K : PySem.W.Frag) (mg : Str → Option Value) (base : Heap) (k : Nat) (x : Str) (st : Stmt) (ps : List Str) (sp : Sp) : Prop where
  ex : ∃ (f : Addr) (fd : FuncData), Fun K x x st f fd ∧ FnG P w K mg base k f fd ps sp ∧ mg x = some (.ref f) ∧ Binds K fd ps []
section
variable {X : Cx} {k j n : Nat} {x : Str} {st : Stmt} {ps : List Str} {sp : Sp} {p pos : Pos} {e : Expr} {es : List Expr} {t : TA}
end
section
variable {P : Program} {w : World} {K : PySem.W.Frag} {mg mb : Str → Option Value} {k : Nat} {fa a : Addr} {fd : FuncData} {x : Str} {sp : Sp} {s : Shared} {vs : List Value} {ns : List Int}
end
mutual
theorem rd {X : Cx} {pins : List (Addr × Obj)} {σ : L2.St} {H G : Hp} {s : Shared} (I : Inv X pins σ H s) (hs : ∀ a o, G a = some o → H a = some o) : ∀ {d : PyData} {v : V} {u : Value}, DD X.K G v d → RelV v u → d.hasDict = false → ∃ as, Reads s.heap u d as
  | _, _, u, .non, r, _ => by
    cases (show u = Value.none from r)
    exact ⟨_, .none⟩
  | _, _, u, .bl c, r, _ => by
    cases (show u = Value.bool c from r)
    exact ⟨_, .bool c⟩
  | _, _, u, .int i, r, _ => by
    obtain ⟨t, rfl⟩ := r
    exact ⟨_, .int i t⟩
  | _, _, u, .str x, r, _ => by
    obtain ⟨t, rfl⟩ := r
    exact ⟨_, .str x t⟩
  | _, _, u, @DD.lst _ _ a xs ds hg t, r, n => by
    cases (show u = Value.ref a from r)
    obtain ⟨its, rv, ⟨o, _, h1, h2, _, h3⟩, _⟩ := I.list (.inl (.inl (hs _ _ hg)))
    obtain ⟨as, q⟩ := rds I hs t rv (by simpa [PyData.hasDict] using n)
    exact ⟨_, .list h1 h2 h3 (by simpa using q)⟩
  | _, _, u, @DD.tup _ _ a xs ds hg t, r, n => by
    cases (show u = Value.ref a from r)
    obtain ⟨its, rv, ⟨o, h1, h2, _, h3⟩, _⟩ := I.tuple (sqm hs hg)
    obtain ⟨as, q⟩ := rds I hs t rv (by simpa [PyData.hasDict] using n)
    exact ⟨_, .tuple h1 h2 h3 (by simpa using q)⟩
  | _, _, _, .obj _ _ _, _, n => by simp [PyData.hasDict] at n
  | _, _, _, .dct _ _ _ _ _ _, _, n => by simp [PyData.hasDict] at n
theorem rds {X : Cx} {pins : List (Addr × Obj)} {σ : L2.St} {H G : Hp} {s : Shared} (I : Inv X pins σ H s) (hs : ∀ a o, G a = some o → H a = some o) : ∀ {ds : List PyData} {vs : List V} {us : List Value}, DDs X.K G vs ds → Vals vs us → PyData.hasDictAll ds = false → ∃ as, ReadsAll s.heap us ds as
  | _, _, _, .nil, .nil, _ => ⟨_, .nil⟩
  | _, _, _, .cons h t, .cons r q, n => by
    simp only [PyData.hasDictAll, Bool.or_eq_false_iff] at n
    obtain ⟨as, r1⟩ := rd I hs h r n.1
    obtain ⟨bs, r2⟩ := rds I hs t q n.2
    exact ⟨_, .cons r1 r2⟩
end
end GG
namespace DP
open PySem PySem.Spec PyProof.Rows L2 ZX DL RT GG
structure Sh (d : PyData) (B p : Nat) : Prop where
  s : d.showable = true
  dp : d.depth ≤ p
  nd : d.hasDict = false
  l : d.shown.length ≤ B
theorem Sh.up {d : PyData} {B B' p p' : Nat} (h : Sh d B p) (h1 : B ≤ B') (h2 : p ≤ p') : Sh d B' p' := ⟨h.s, Nat.le_trans h.dp h2, h.nd, Nat.le_trans h.l h1⟩
section
variable {P : Program} {w : World} {K : PySem.W.Frag} {mg : Str → Option Value} {base : Heap} {da : Nat → Option Addr} {x qual : Str} {st : Stmt} {f : Addr} {fd : FuncData} {N ps : List Str} {k : Nat} {b : S}
end
end DP
namespace DP
open PySem PySem.Spec PyProof.Rows L2 ZX DL RT
end DP
namespace DP
open PySem PySem.Spec PyProof.Rows L2 ZX DL RT
def fldO (k : Nat) (n : Str) (hk : ∀ v0 v1 v2 v3 v4 v5, (fsT v0 v1 v2 v3 v4 v5).lookup n = [v0, v1, v2, v3, v4, v5][k]?) (hna : ∀ K C, TbC K C → NoAttr K C n) : O1 where
  rel := fun K x H Q => ∃ a C dx fs v, x = .ref a ∧ H a = some (.ins C dx fs) ∧ Cls K C ∧ NoAttr K C n ∧ fs.lookup n = some v ∧ Q v H
  f := fun d => match d with
    | .dict [(.none, .list ds)] => ds[k]?
    | _ => none
  ok := fun K d z h x G H hx hs Q hQ => by
    split at h
    · cases hx with
      | @obj a o m vs ds hG hO t =>
        cases hO
        rename_i C dx fs hC hn
        obtain ⟨v0, v1, v2, v3, v4, v5, rfl⟩ := fs_of hn
        obtain ⟨v, hv, dv⟩ := DDs.got t h
        exact ⟨a, C, dx, _, v, rfl, hs _ _ hG, hC.cl, hna K C hC, (hk v0 v1 v2 v3 v4 v5).trans hv, hQ v G H (Mv.refl hs) dv⟩
    · cases h
theorem lk {n m : Str} {v : V} {r : List (Str × V)} (h : (n == m) = false) : List.lookup n ((m, v) :: r) = List.lookup n r := by
  rw [List.lookup_cons, h]
def uF0 : O1 := fldO 0 "row_rooms" (fun _ _ _ _ _ _ => List.lookup_cons_self) fun _ _ c => c.n0
def uF1 : O1 := fldO 1 "gap" (fun _ _ _ _ _ _ => by rw [lk (by decide +kernel)]; exact List.lookup_cons_self) fun _ _ c => c.n1
def uF2 : O1 := fldO 2 "net" (fun _ _ _ _ _ _ => by rw [lk (by decide +kernel), lk (by decide +kernel)]; exact List.lookup_cons_self) fun _ _ c => c.n2
def uF3 : O1 := fldO 3 "totals" (fun _ _ _ _ _ _ => by rw [lk (by decide +kernel), lk (by decide +kernel), lk (by decide +kernel)]; exact List.lookup_cons_self) fun _ _ c => c.n3
def uF4 : O1 := fldO 4 "lows" (fun _ _ _ _ _ _ => by rw [lk (by decide +kernel), lk (by decide +kernel), lk (by decide +kernel), lk (by decide +kernel)]; exact List.lookup_cons_self) fun _ _ c => c.n4
def uF5 : O1 := fldO 5 "highs" (fun _ _ _ _ _ _ => by rw [lk (by decide +kernel), lk (by decide +kernel), lk (by decide +kernel), lk (by decide +kernel), lk (by decide +kernel)]; exact List.lookup_cons_self) fun _ _ c => c.n5
inductive It' where
  | st (n : Str) (e : E)
  | asg (i : Nat) (e : E)
  | two (i g : Nat)
def sumS (K : PySem.W.Frag) (lo hi : TO) : TE := tCB (rSumX K) (tCons (L2.tSl (sTup.rel K) (tFld K (tVar 0) "row_rooms") lo hi) tNil)
def it1 (q : Gq) : It' → TS
  | .st n e => sFld q.K (tVar 0) (tE q e) n
  | .asg i e => tAsg (tE q e) (gName i)
  | .two i g => tAsg (tTup (tCons (sumS q.K tNoPart (tPart (tVar g))) (tCons (sumS q.K (tPart (tVar g)) tNoPart) tNil))) (gName i)
def sumC (d : PyData) (lo hi : Option Int) : Option PyData := (cutTf d lo hi).bind fun z => bSum.f [z]
def twoF (fs : List PyData) (g : PyData) : Dr PyData :=
  match fs[0]?, g with
  | some d, .int k => (Dr.opt (sumC d none (some k))).bind fun a => (Dr.opt (sumC d (some k) none)).bind fun b => .ret (.tuple [a, b])
  | _, _ => .bad
def itF : List It' → En → List PyData → Dr (List PyData)
  | [], _, fs => .ret fs
  | .st _ e :: r, env, fs => (evE e env).bind fun d => itF r env (fs ++ [d])
  | .asg i e :: r, env, fs => (evE e env).bind fun d => itF r (env.set i (.dat d)) fs
  | .two i g :: r, env, fs => (slot env g).bind fun k => (twoF fs k).bind fun d => itF r (env.set i (.dat d)) fs
def iniT (N p : Nat) (its : List It') : Fs := fun ds => if ds.length + 1 = p then (itF its (iEnv N ds) []).bind fun fs => if fs.length = 6 then .ret (obT fs) else .bad else .bad
structure StT (x C dx : Addr) (G0 H0 : Hp) (fs : List (Str × V)) (G H : Hp) : Prop where
  M : Mv (fun _ => False) G0 H0 G H
  at_ : H x = some (.ins C dx fs)
  gx : G x = none
theorem StT.ev {x C dx : Addr} {G0 H0 G H G1 H1 : Hp} {fs : List (Str × V)} (s : StT x C dx G0 H0 fs G H) (m : Mv (fun _ => False) G H G1 H1) : StT x C dx G0 H0 fs G1 H1 :=
  ⟨s.M.trans m, m.kp _ _ s.at_ fun z => z, (m.old _ _ s.at_).trans s.gx⟩
theorem StT.put {x C dx : Addr} {G0 H0 G H : Hp} {fs fs' : List (Str × V)} (s : StT x C dx G0 H0 fs G H) (nx : H0 x = none) : StT x C dx G0 H0 fs' G (upd H x (.ins C dx fs')) :=
  ⟨mv_at s.M nx s.gx ⟨_, s.at_⟩, upd_same, s.gx⟩
theorem putF_new {f : Str} {v : V} : ∀ {fs : List (Str × V)}, f ∉ fs.map (·.1) → putF f v fs = fs ++ [(f, v)]
  | [], _ => rfl
  | (g, x) :: r, h => by
    have h1 : g ≠ f := fun z => h (by simp [z])
    have h2 : f ∉ r.map (·.1) := fun z => h (List.mem_cons_of_mem _ z)
    show (if g = f then (g, v) :: r else (g, x) :: putF f v r) = _
    rw [if_neg h1, putF_new h2]
    rfl
section
variable {P : Program} {w : World} {K : PySem.W.Frag} {da : Nat → Option Addr} {x C dx : Addr} {G0 H0 : Hp}
structure FsT (K : PySem.W.Frag) (G : Hp) (fs : List (Str × V)) (ns : List Str) (ds : List PyData) : Prop where
  n : fs.map (·.1) = ns
  d : DDs K G (fs.map (·.2)) ds
theorem FsT.mono {G G1 : Hp} {fs : List (Str × V)} {ns : List Str} {ds : List PyData} (f : FsT K G fs ns ds) (h : ∀ a o, G a = some o → G1 a = some o) : FsT K G1 fs ns ds := ⟨f.n, f.d.mono h⟩
end
section
variable {P : Program} {w : World} {K : PySem.W.Frag} {mg : Str → Option Value} {base : Heap} {da : Nat → Option Addr} {C : Addr} {qual : Str} {st : Stmt} {f : Addr} {fd : FuncData} {N : List Str} {k : Nat} {dvs : List V}
end
structure CIT (P : Program) (w : World) (K : PySem.W.Frag) (mg : Str → Option Value) (base : Heap) (k : Nat) (C : Addr) (ps : List Str) (sp : Sp) : Prop where
  ex : ∃ (f : Addr) (fd : FuncData), FnOk P w K mg base CX0 k f fd ps sp ∧ Mk K C f ∧ Binds K fd ps [] ∧ mg "Table" = some (.ref C)
section
variable {X : Cx} {k j : Nat} {C : Addr} {m q : Str} {st : Stmt} {ps : List Str} {sp : Sp} {pos apos : Pos} {o : Expr} {ta : TE} {pl : Sem Bool}
end
end DP
namespace XG
open PySem PySem.Spec PyProof.Rows L2
end XG
namespace DP
open PySem PySem.Spec PyProof.Rows L2 ZX DL RT
structure FX (P : Program) (w : World) (K : PySem.W.Frag) (mg : Str → Option Value) (base : Heap) (x : Str) (k : Nat) (f : Addr) (fd : FuncData) (ps : List Str) (sp : Sp) : Prop where
  ok : FnOk P w K mg base (L2.CX P w) k f fd ps sp
  gm : mg x = some (.ref f)
  kp : PySem.W.keepIn K (.ref f) = true
  bi : Binds K fd ps []
section
variable {K : PySem.W.Frag} {P S L : Addr} {b : Bool}
structure CN (K : PySem.W.Frag) (x : Str) (C : Addr) : Prop where
  a : PySem.W.nsIn K mainGlobals x = some (some (.ref C))
  e : PySem.W.subIn K (.ref C) (.type "BaseException") = some true
  i : PySem.W.isClsIn K C = true
  t : PySem.W.typeIn K (.ref C) = some (.type "type")
structure CR (K : PySem.W.Frag) (C : Addr) (base : String) : Prop where
  ga : PySem.W.findIn K (.ref C) "__getattribute__" = some (some (.builtin "BaseException.__getattribute__"))
  gg : PySem.W.findIn K (.ref C) "__getattr__" = some none
  hC : PySem.W.hasDictIn K C = true
  ca : PySem.W.findIn K (.ref C) "__class__" = some (some (.builtin "object.__class__"))
  cn : PySem.W.specialIn K (.builtin "object.__class__") "__get__" = some (some (.builtin "getset_descriptor.__get__"))
  ck : PySem.W.takesIn K (.builtin "object.__class__") = some true
  cm : PySem.W.mroIn K C (.type "object") = some true
  sS : PySem.W.subIn K (.ref C) (.ref C) = some true
  sL : PySem.W.subIn K (.ref C) (.type base) = some true
  kI : PySem.W.mroIn K C (.type "int") = some false
  kB : PySem.W.mroIn K C (.type "bool") = some false
  kS : PySem.W.mroIn K C (.type "str") = some false
  kL : PySem.W.mroIn K C (.type "list") = some false
  kT : PySem.W.mroIn K C (.type "tuple") = some false
end
end DP
namespace DP
open PySem PySem.Spec PyProof.Rows L2 ZX DL RT
end DP
namespace DP
open PySem PySem.Spec PyProof.Rows L2 ZX DL RT
section
variable {prog : Program} {w : World} {A : Around} {E : Value → Shared → Prop} {s : Shared} {K : PySem.W.Frag} {x C f : Addr} {ox : Obj} {od : Option Obj} {b : Value}
end
section
variable {X : Cx} {n j : Nat} {C f : Addr} {fd : FuncData} {ps : List Str} {sp : Sp}
end
structure CITD (P : Program) (w : World) (K : PySem.W.Frag) (mg : Str → Option Value) (base : Heap) (k : Nat) (C dv : Addr) (ps : List Str) (sp : Sp) : Prop where
  ex : ∃ (f : Addr) (fd : FuncData), FnOk P w K mg base CX0 k f fd ps sp ∧ Mk K C f ∧ Binds K fd ps [Value.ref dv] ∧ mg "Table" = some (.ref C)
theorem CITD.mono {P : Program} {w : World} {K : PySem.W.Frag} {mg : Str → Option Value} {base : Heap} {k : Nat} {C dv : Addr} {ps : List Str} {s1 s2 : Sp} (c : CITD P w K mg base k C dv ps s1) (h : ∀ f fd, FnOk P w K mg base CX0 k f fd ps s1 → FnOk P w K mg base CX0 k f fd ps s2) : CITD P w K mg base k C dv ps s2 := by
  obtain ⟨f, fd, G, M, b, hm⟩ := c.ex
  exact ⟨f, fd, h f fd G, M, b, hm⟩
theorem CIT.mono {P : Program} {w : World} {K : PySem.W.Frag} {mg : Str → Option Value} {base : Heap} {k : Nat} {C : Addr} {ps : List Str} {s1 s2 : Sp} (c : CIT P w K mg base k C ps s1) (h : ∀ f fd, FnOk P w K mg base CX0 k f fd ps s1 → FnOk P w K mg base CX0 k f fd ps s2) : CIT P w K mg base k C ps s2 := by
  obtain ⟨f, fd, G, M, b, hm⟩ := c.ex
  exact ⟨f, fd, h f fd G, M, b, hm⟩
theorem CM.mono {P : Program} {w : World} {K : PySem.W.Frag} {mg : Str → Option Value} {base : Heap} {k : Nat} {C : Addr} {m q : Str} {st : Stmt} {ps : List Str} {s1 s2 : Sp} (c : CM P w K mg base k C m q st ps s1) (h : ∀ f fd, FnOk P w K mg base CX0 k f fd ps s1 → FnOk P w K mg base CX0 k f fd ps s2) : CM P w K mg base k C m q st ps s2 := by
  obtain ⟨f, fd, F, G, M, b⟩ := c.ex
  exact ⟨f, fd, F, h f fd G, M, b⟩
section
variable {X : Cx} {k j : Nat} {C : Addr} {q : Str} {st : Stmt} {ps : List Str} {sp : Sp}
end
end DP
namespace DP
open PySem PySem.Spec PyProof.Rows L2 ZX DL RT
end DP
namespace DP
open PySem PySem.Spec PyProof.Rows L2 ZX DL RT
section
variable {X : Cx} {k j : Nat} {C : Addr} {m q : Str} {st : Stmt} {ps ks : List Str} {sp : Sp} {pos apos : Pos} {o : Expr} {kws : List Keyword} {ta : TE} {t : TA} {pl : Sem Bool}
end
end DP
namespace DP
open PySem PySem.Spec PyProof.Rows L2 ZX DL RT
end DP
namespace LT
open PySem PySem.Spec PyProof.Rows L2 ZX DL RT DP
inductive Tr where
  | d (x : PyData)
  | lst (ts : List Tr)
  | dct (ks : List Key) (ts : List Tr)
  | ins (nm : Str) (ts : List Tr)
structure Ck where
  cl : Nat → Addr
mutual
inductive TR (C : Ck) (K : PySem.W.Frag) (G H : Hp) : V → Tr → List Addr → Prop
  | d {v : V} {x : PyData} (h : DD K G v x) : TR C K G H v (.d x) []
  | lst {a : Addr} {xs : List V} {ts : List Tr} {F : List Addr} (h : H a = some (.lst xs)) (g : G a = none) (t : TRs C K G H xs ts F) (n : a ∉ F) : TR C K G H (.ref a) (.lst ts) (a :: F)
  | dct {a : Addr} {kvs : List (Key × V)} {ks : List Key} {ts : List Tr} {F : List Addr} (h : H a = some (.dK kvs)) (g : G a = none) (e : kvs.map (·.1) = ks) (t : TRs C K G H (kvs.map (·.2)) ts F) (n : a ∉ F) : TR C K G H (.ref a) (.dct ks ts) (a :: F)
  | ins {a cc dx : Addr} {c : Str} {fs : List (Str × V)} {ts : List Tr} {F : List Addr} (h : H a = some (.ins cc dx fs)) (g : G a = none) (e : ClC K cc c ∧ fs.map (·.1) = (clN c).take fs.length) (t : TRs C K G H (fs.map (·.2)) ts F) (n : a ∉ F) : TR C K G H (.ref a) (.ins c ts) (a :: F)
inductive TRs (C : Ck) (K : PySem.W.Frag) (G H : Hp) : List V → List Tr → List Addr → Prop
  | nil : TRs C K G H [] [] []
  | cons {v : V} {vs : List V} {t : Tr} {ts : List Tr} {F F' : List Addr} (h : TR C K G H v t F) (r : TRs C K G H vs ts F') (dj : ∀ a ∈ F, a ∉ F') : TRs C K G H (v :: vs) (t :: ts) (F ++ F')
end
def isT : HO → Bool
  | .lst _ => true
  | .dK _ => true
  | .ins _ _ _ => true
  | _ => false
section
variable {C : Ck} {K : PySem.W.Frag} {G H G' H' : Hp}
mutual
theorem TR.keep (hG : ∀ a o, G a = some o → G' a = some o) : ∀ {v : V} {t : Tr} {F : List Addr}, (∀ a ∈ F, H' a = H a ∧ G' a = none) → TR C K G H v t F → TR C K G' H' v t F
  | _, _, _, _, .d h => .d (h.mono hG)
  | _, _, _, k, .lst h g t n => .lst (by rw [(k _ (List.mem_cons_self ..)).1]; exact h) (k _ (List.mem_cons_self ..)).2 (TRs.keep hG (fun a ha => k a (List.mem_cons_of_mem _ ha)) t) n
  | _, _, _, k, .dct h g e t n => .dct (by rw [(k _ (List.mem_cons_self ..)).1]; exact h) (k _ (List.mem_cons_self ..)).2 e (TRs.keep hG (fun a ha => k a (List.mem_cons_of_mem _ ha)) t) n
  | _, _, _, k, .ins h g e t n => .ins (by rw [(k _ (List.mem_cons_self ..)).1]; exact h) (k _ (List.mem_cons_self ..)).2 e (TRs.keep hG (fun a ha => k a (List.mem_cons_of_mem _ ha)) t) n
theorem TRs.keep (hG : ∀ a o, G a = some o → G' a = some o) : ∀ {vs : List V} {ts : List Tr} {F : List Addr}, (∀ a ∈ F, H' a = H a ∧ G' a = none) → TRs C K G H vs ts F → TRs C K G' H' vs ts F
  | _, _, _, _, .nil => .nil
  | _, _, _, k, .cons h r dj => .cons (TR.keep hG (fun a ha => k a (List.mem_append_left _ ha)) h) (TRs.keep hG (fun a ha => k a (List.mem_append_right _ ha)) r) dj
end
mutual
theorem TR.foot : ∀ {v : V} {t : Tr} {F : List Addr}, TR C K G H v t F → ∀ a ∈ F, G a = none ∧ ∃ o, H a = some o ∧ isT o = true
  | _, _, _, .d h, a, ha => nomatch ha
  | _, _, _, .lst h g t n, a, ha => by
    rcases List.mem_cons.mp ha with rfl | ha
    · exact ⟨g, _, h, rfl⟩
    · exact TRs.foot t a ha
  | _, _, _, .dct h g e t n, a, ha => by
    rcases List.mem_cons.mp ha with rfl | ha
    · exact ⟨g, _, h, rfl⟩
    · exact TRs.foot t a ha
  | _, _, _, .ins h g e t n, a, ha => by
    rcases List.mem_cons.mp ha with rfl | ha
    · exact ⟨g, _, h, rfl⟩
    · exact TRs.foot t a ha
theorem TRs.foot : ∀ {vs : List V} {ts : List Tr} {F : List Addr}, TRs C K G H vs ts F → ∀ a ∈ F, G a = none ∧ ∃ o, H a = some o ∧ isT o = true
  | _, _, _, .nil, a, ha => nomatch ha
  | _, _, _, .cons h r dj, a, ha => by
    rcases List.mem_append.mp ha with ha | ha
    · exact TR.foot h a ha
    · exact TRs.foot r a ha
end
theorem TRs.len : ∀ {vs : List V} {ts : List Tr} {F : List Addr}, TRs C K G H vs ts F → vs.length = ts.length
  | _, _, _, .nil => rfl
  | _, _, _, .cons _ r _ => congrArg Nat.succ (TRs.len r)
theorem TRs.ofD : ∀ {vs : List V} {ds : List PyData}, DDs K G vs ds → TRs C K G H vs (ds.map Tr.d) []
  | _, _, .nil => .nil
  | _, _, .cons h t => TRs.cons (F := []) (F' := []) (.d h) (TRs.ofD t) fun a ha => nomatch ha
end
mutual
def rd : Tr → Option PyData
  | .d x => some x
  | .lst ts => (rds ts).map .list
  | .dct ks ts => (rds ts).map fun ds => .dict [(.tuple (ks.map kyD), .list ds)]
  | .ins c ts => (rds ts).map fun ds => .dict [(.str c, .list ds)]
def rds : List Tr → Option (List PyData)
  | [] => some []
  | t :: r => (rd t).bind fun x => (rds r).map (x :: ·)
end
section
variable {C : Ck} {K : PySem.W.Frag} {G H G' : Hp}
mutual
theorem TR.read (hG : ∀ a o, G a = some o → G' a = some o) : ∀ {v : V} {t : Tr} {F : List Addr} {x : PyData}, (∀ a ∈ F, G' a = H a) → TR C K G H v t F → rd t = some x → DD K G' v x
  | _, _, _, x, _, .d h, e => by
    cases (show some _ = some x from e)
    exact h.mono hG
  | _, _, _, x, k, .lst h g t n, e => by
    obtain ⟨ds, e1, rfl⟩ := Option.map_eq_some_iff.mp (show (rds _).map .list = some x from e)
    exact .lst (by rw [k _ (List.mem_cons_self ..)]; exact h) (TRs.read hG (fun a ha => k a (List.mem_cons_of_mem _ ha)) t e1)
  | _, _, _, x, k, .dct h g e t n, e' => by
    obtain ⟨ds, e1, rfl⟩ := Option.map_eq_some_iff.mp (show (rds _).map _ = some x from e')
    subst e
    rw [List.map_map]
    exact .obj (by rw [k _ (List.mem_cons_self ..)]; exact h) .dk (TRs.read hG (fun a ha => k a (List.mem_cons_of_mem _ ha)) t e1)
  | _, _, _, x, k, .ins h g e t n, e' => by
    obtain ⟨ds, e1, rfl⟩ := Option.map_eq_some_iff.mp (show (rds _).map _ = some x from e')
    exact .obj (by rw [k _ (List.mem_cons_self ..)]; exact h) (.cl e.1 e.2) (TRs.read hG (fun a ha => k a (List.mem_cons_of_mem _ ha)) t e1)
theorem TRs.read (hG : ∀ a o, G a = some o → G' a = some o) : ∀ {vs : List V} {ts : List Tr} {F : List Addr} {xs : List PyData}, (∀ a ∈ F, G' a = H a) → TRs C K G H vs ts F → rds ts = some xs → DDs K G' vs xs
  | _, _, _, xs, _, .nil, e => by
    cases (show some [] = some xs from e)
    exact .nil
  | _, _, _, xs, k, .cons (t := t) (ts := ts) h r dj, e => by
    obtain ⟨x, e1, e2⟩ := Option.bind_eq_some_iff.mp (show (rd t).bind (fun x => (rds ts).map (x :: ·)) = some xs from e)
    obtain ⟨ys, e3, rfl⟩ := Option.map_eq_some_iff.mp e2
    exact .cons (TR.read hG (fun a ha => k a (List.mem_append_left _ ha)) h e1) (TRs.read hG (fun a ha => k a (List.mem_append_right _ ha)) r e3)
end
end
mutual
def clean : PyData → Bool
  | .none => true
  | .bool _ => true
  | .int _ => true
  | .str _ => true
  | .tuple ds => cleans ds
  | .list _ => false
  | .dict _ => false
def cleans : List PyData → Bool
  | [] => true
  | d :: r => clean d && cleans r
end
section
variable {K : PySem.W.Frag} {G G' : Hp}
mutual
theorem DD.shrink (h : ∀ a o, G a = some o → isT o = false → G' a = some o) : ∀ {v : V} {x : PyData}, DD K G v x → clean x = true → DD K G' v x
  | _, _, .non, _ => .non
  | _, _, .bl c, _ => .bl c
  | _, _, .int i, _ => .int i
  | _, _, .str s, _ => .str s
  | _, _, .lst _ _, e => by simp [clean] at e
  | _, _, .dct _ _ _ h1 _ _, e => by
    subst h1
    simp [clean] at e
  | _, _, .obj _ _ _, e => by simp [clean] at e
  | _, _, .tup s t, e => .tup (s.elim (fun s => .inl (s.elim (fun s => .inl (h _ _ s rfl)) fun ⟨o, s⟩ => .inr ⟨o, h _ _ s rfl⟩)) .inr) (DDs.shrink h t (by simpa [clean] using e))
theorem DDs.shrink (h : ∀ a o, G a = some o → isT o = false → G' a = some o) : ∀ {vs : List V} {xs : List PyData}, DDs K G vs xs → cleans xs = true → DDs K G' vs xs
  | _, _, .nil, _ => .nil
  | _, _, .cons a t, e => by
    simp only [cleans, Bool.and_eq_true] at e
    exact .cons (DD.shrink h a e.1) (DDs.shrink h t e.2)
end
end
inductive LSl where
  | unk
  | tr (t : Tr)
  | pn (t : Tr)
  | bx
abbrev LEn := List LSl
def LSl.tree : LSl → Option Tr
  | .tr t => some t
  | .pn t => some t
  | _ => none
def toB (bw : Bool) : LSl → Sl
  | .unk => .unk
  | .bx => .bx none
  | .tr t => match (if bw = true then rd t else match t with
      | .d x => some x
      | _ => none) with
    | some x => .dat x
    | none => .unk
  | .pn t => match (if bw = true then rd t else match t with
      | .d x => some x
      | _ => none) with
    | some x => .dat x
    | none => .unk
structure Sta (C : Ck) (K : PySem.W.Frag) (ob : Option Bo) (pin : Nat → V) (env : LEn) (Fs : Nat → List Addr) (n : Nat) (σ : L2.St) (G H : Hp) : Prop where
  len : σ.length = env.length
  tr : ∀ (i : Nat) (t : Tr), env[i]? = some (LSl.tr t) → ∃ v, σ[i]? = some (some v) ∧ TR C K G H v t (Fs i)
  pn : ∀ (i : Nat) (t : Tr), env[i]? = some (LSl.pn t) → σ[i]? = some (some (pin i)) ∧ TR C K G H (pin i) t (Fs i)
  bx : ∀ (i : Nat), env[i]? = some LSl.bx → ∃ b, ob = some b ∧ b.fl = none ∧ σ[i]? = some (some (V.ref b.a))
  un : ∀ (i : Nat), (env[i]?.bind LSl.tree) = none → Fs i = []
  dj : ∀ i j a, i ≠ j → a ∈ Fs i → a ∉ Fs j
  nm : ∀ i a, a ∈ Fs i → ¬ (mS ob).M a
  wd : Wd (mS ob) n G H
section
variable {C : Ck} {K : PySem.W.Frag} {ob : Option Bo} {pin : Nat → V} {env : LEn} {Fs : Nat → List Addr} {n : Nat} {σ : L2.St} {G H : Hp}
theorem Sta.at (s : Sta C K ob pin env Fs n σ G H) {i : Nat} {e : LSl} {t : Tr} (h : env[i]? = some e) (ht : e.tree = some t) : ∃ v, σ[i]? = some (some v) ∧ TR C K G H v t (Fs i) := by
  cases e with
  | unk => cases ht
  | bx => cases ht
  | tr u =>
    cases (show some u = some t from ht)
    exact s.tr i t h
  | pn u =>
    cases (show some u = some t from ht)
    exact ⟨_, s.pn i t h⟩
theorem Sta.foot (s : Sta C K ob pin env Fs n σ G H) {i : Nat} {a : Addr} (h : a ∈ Fs i) : G a = none ∧ ∃ o, H a = some o ∧ isT o = true := by
  cases e : env[i]?.bind LSl.tree with
  | none =>
    rw [s.un i e] at h
    cases h
  | some t =>
    obtain ⟨u, e1, e2⟩ := Option.bind_eq_some_iff.mp e
    obtain ⟨v, _, q⟩ := s.at e1 e2
    exact q.foot a h
theorem Sta.step (s : Sta C K ob pin env Fs n σ G H) {n' : Nat} {G2 H2 : Hp} (m : Mv (mS ob).M G H G2 H2) (w : Wd (mS ob) n' G2 H2) : Sta C K ob pin env Fs n' σ G2 H2 := by
  have k : ∀ i, ∀ a ∈ Fs i, H2 a = H a ∧ G2 a = none := fun i a ha => by
    obtain ⟨g, o, ho, _⟩ := s.foot ha
    exact ⟨by rw [m.kp a o ho (s.nm i a ha), ho], by rw [m.old a o ho, g]⟩
  exact ⟨s.len, fun i t h => (s.tr i t h).imp fun v ⟨a, b⟩ => ⟨a, b.keep m.gr (k i)⟩, fun i t h => ⟨(s.pn i t h).1, (s.pn i t h).2.keep m.gr (k i)⟩, s.bx, s.un, s.dj, s.nm, w⟩
def toD (ob : Option Bo) : Sl → SD
  | .dat x => .dat x
  | .bx _ => match ob with
    | some b => .ref b.a
    | none => .unk
  | _ => .unk
def dlt (ob : Option Bo) (bw : Bool) (env : LEn) : List SD := env.map fun e => toD ob (toB bw e)
theorem toB_dat {bw : Bool} {e : LSl} {x : PyData} (h : toB bw e = .dat x) : ∃ t, e.tree = some t ∧ rd t = some x ∧ (bw = false → t = .d x) := by
  have key : ∀ t : Tr, (match (if bw = true then rd t else match t with
      | .d x => some x
      | _ => none) with
    | some x => Sl.dat x
    | none => .unk) = .dat x → rd t = some x ∧ (bw = false → t = .d x) := fun t h => by
    cases bw
    · cases t with
      | d y =>
        cases h
        exact ⟨rfl, fun _ => rfl⟩
      | lst _ => cases h
      | dct _ _ => cases h
      | ins _ _ => cases h
    · have h' : (match rd t with
        | some x => Sl.dat x
        | none => .unk) = .dat x := h
      cases e : rd t with
      | none => rw [e] at h'; cases h'
      | some y =>
        rw [e] at h'
        cases h'
        exact ⟨rfl, fun z => Bool.noConfusion z⟩
  cases e with
  | unk => cases h
  | bx => cases h
  | tr t => exact ⟨t, rfl, key t h⟩
  | pn t => exact ⟨t, rfl, key t h⟩
theorem toB_not {bw : Bool} {e : LSl} {s : Sl} (h : toB bw e = s) : isOwn s = false ∧ ∀ o, s = .bx o → e = .bx ∧ o = none := by
  subst h
  cases e with
  | unk => exact ⟨rfl, fun o z => nomatch z⟩
  | bx => exact ⟨rfl, fun o z => by cases z; exact ⟨rfl, rfl⟩⟩
  | tr t =>
    show isOwn (match _ with
      | some x => Sl.dat x
      | none => Sl.unk) = false ∧ _
    generalize (if bw = true then rd t else match t with
      | .d x => some x
      | _ => none) = y
    cases y with
    | none => exact ⟨rfl, fun o z => by simp [toB] at z; split at z <;> cases z⟩
    | some x => exact ⟨rfl, fun o z => by simp [toB] at z; split at z <;> cases z⟩
  | pn t =>
    show isOwn (match _ with
      | some x => Sl.dat x
      | none => Sl.unk) = false ∧ _
    generalize (if bw = true then rd t else match t with
      | .d x => some x
      | _ => none) = y
    cases y with
    | none => exact ⟨rfl, fun o z => by simp [toB] at z; split at z <;> cases z⟩
    | some x => exact ⟨rfl, fun o z => by simp [toB] at z; split at z <;> cases z⟩
theorem dlt_rp (s : Sta C K ob pin env Fs n σ G H) (bw : Bool) : Rp ob (env.map (toB bw)) (dlt ob bw env) [] := by
  refine Rp.start (by simp [dlt]) (fun i x h => ?_) (fun i o h => ?_) (fun i u h => ?_)
  · rw [List.getElem?_map] at h
    obtain ⟨e, he, hx⟩ := Option.map_eq_some_iff.mp h
    unfold dlt
    rw [List.getElem?_map, he, Option.map_some, hx]
    rfl
  · rw [List.getElem?_map] at h
    obtain ⟨e, he, hx⟩ := Option.map_eq_some_iff.mp h
    obtain ⟨e1, e2⟩ := (toB_not hx).2 o rfl
    subst e1 e2
    obtain ⟨b, hb, hf, _⟩ := s.bx i he
    refine ⟨b, hb, hf, ?_⟩
    unfold dlt
    rw [List.getElem?_map, he, Option.map_some, hx, hb]
    rfl
  · rw [List.getElem?_map] at h
    obtain ⟨e, he, hx⟩ := Option.map_eq_some_iff.mp h
    exact (toB_not hx).1
noncomputable def lent (Fs : Nat → List Addr) (G H : Hp) : Hp := fun a => open Classical in if ∃ i, a ∈ Fs i then H a else G a
theorem lent_in {i : Nat} {a : Addr} (h : a ∈ Fs i) : lent Fs G H a = H a := by
  unfold lent
  exact if_pos ⟨i, h⟩
theorem lent_out {a : Addr} (h : ∀ i, a ∉ Fs i) : lent Fs G H a = G a := by
  unfold lent
  exact if_neg fun ⟨i, z⟩ => h i z
theorem Sta.lentG (s : Sta C K ob pin env Fs n σ G H) : ∀ a o, G a = some o → lent Fs G H a = some o := fun a o e => by
  rw [lent_out fun i z => ?_]
  · exact e
  · rw [(s.foot z).1] at e
    cases e
theorem dlt_sl (s : Sta C K ob pin env Fs n σ G H) (bw : Bool) {G' : Hp} (hG : ∀ a o, G a = some o → G' a = some o) (hF : bw = true → ∀ i, ∀ a ∈ Fs i, G' a = H a) : SlD K G' σ (dlt ob bw env) := by
  refine ⟨by rw [s.len]; simp [dlt], fun i u h => ?_⟩
  unfold dlt at h
  rw [List.getElem?_map] at h
  obtain ⟨e, he, hx⟩ := Option.map_eq_some_iff.mp h
  cases hb : toB bw e with
  | dat x =>
    rw [hb] at hx
    subst hx
    obtain ⟨t, h1, h2, h3⟩ := toB_dat hb
    obtain ⟨v, hv, q⟩ := s.at he h1
    refine .inr ⟨v, hv, ?_⟩
    cases bw with
    | false =>
      rw [h3 rfl] at q
      generalize Fs i = F at q
      cases q with
      | d h => exact h.mono hG
    | true => exact q.read hG (hF rfl i) h2
  | bx o =>
    obtain ⟨e1, e2⟩ := (toB_not hb).2 o rfl
    subst e1
    obtain ⟨b, ob', hf, hv⟩ := s.bx i he
    rw [hb, ob'] at hx
    subst hx
    exact .inr ⟨_, hv, rfl⟩
  | unk =>
    rw [hb] at hx
    exact .inl hx.symm
  | own _ => exact absurd (toB_not hb).1 (by simp [isOwn])
  | tab _ => exact absurd (toB_not hb).1 (by simp [isOwn])
  | dct _ => exact absurd (toB_not hb).1 (by simp [isOwn])
end
section
variable {q : Gq} {C : Ck} {ob : Option Bo} {pin : Nat → V} {env : LEn} {Fs : Nat → List Addr} {n : Nat} {σ : L2.St} {G H : Hp}
theorem wd_pure {S : MS} {n : Nat} {G H : Hp} {K : PySem.W.Frag} (w : Wd (ows K S []) n G H) : Wd S n G H := ⟨w.sub, fun a m => w.no a (.inl m), w.inv.1⟩
theorem emb0 {α ω : Type} {tr : L2.St → Hp → (ω → Hp → Prop) → Prop} {rel : Hp → ω → α → Prop} {t : Dr α} (h : Sm q.K ob tr rel (env.map (toB false)) t) (s : Sta C q.K ob pin env Fs n σ G H) {Φ : α → Nat → Prop} (ht : t.ok n Φ) {Q : ω → Hp → Prop}
    (hQ : ∀ v a n' G2 H2, Mv (mS ob).M G H G2 H2 → Sta C q.K ob pin env Fs n' σ G2 H2 → rel G2 v a → Φ a n' → Q v H2) : tr σ H Q :=
  h _ [] n Φ (dlt_rp s false) ht σ G H (dlt_sl s false (fun _ _ e => e) fun z => Bool.noConfusion z) (ows_nil s.wd) Q fun v a n' G2 H2 m w r k => hQ v a n' G2 H2 m (s.step m (wd_pure w)) r k
theorem embB (hI : ∀ {r : Nat} {G G' H : Hp}, (mS ob).inv r G H → (mS ob).inv r G' H) {α ω : Type} {tr : L2.St → Hp → (ω → Hp → Prop) → Prop} {rel : Hp → ω → α → Prop} {t : Dr α} (h : Sm q.K ob tr rel (env.map (toB true)) t) (s : Sta C q.K ob pin env Fs n σ G H) {Φ : α → Nat → Prop} (ht : t.ok n Φ) {Q : ω → Hp → Prop}
    (hS : ∀ a n' G2 G3 v, Φ a n' → rel G2 v a → (∀ b o, G2 b = some o → isT o = false → G3 b = some o) → rel G3 v a)
    (hQ : ∀ v a n' G2 H2, Mv (mS ob).M G H G2 H2 → Sta C q.K ob pin env Fs n' σ G2 H2 → rel G2 v a → Φ a n' → Q v H2) : tr σ H Q := by
  have gl := s.lentG
  have lH : ∀ a o, lent Fs G H a = some o → H a = some o := fun a o e => by
    by_cases c : ∃ i, a ∈ Fs i
    · obtain ⟨i, hi⟩ := c
      rw [lent_in hi] at e
      exact e
    · rw [lent_out fun i z => c ⟨i, z⟩] at e
      exact s.wd.sub a o e
  refine h _ [] n Φ (dlt_rp s true) ht σ (lent Fs G H) H (dlt_sl s true gl fun _ i a ha => lent_in ha) (ows_nil ⟨lH, fun a m => ?_, hI s.wd.inv⟩) Q fun v a n' G2 H2 m w r k => ?_
  · rw [lent_out fun i z => s.nm i a z m]
    exact s.wd.no a m
  · have w' := wd_pure w
    have fT : ∀ i, ∀ b ∈ Fs i, ∃ o, G2 b = some o ∧ isT o = true := fun i b hb => by
      obtain ⟨_, o, ho, ht'⟩ := s.foot hb
      exact ⟨o, m.gr b o (by rw [lent_in hb]; exact ho), ht'⟩
    let G3 : Hp := fun b => open Classical in if ∃ i, b ∈ Fs i then none else G2 b
    have g3in : ∀ i b, b ∈ Fs i → G3 b = none := fun i b hb => if_pos ⟨i, hb⟩
    have g3out : ∀ b, (∀ i, b ∉ Fs i) → G3 b = G2 b := fun b hb => if_neg fun ⟨i, z⟩ => hb i z
    have g3sub : ∀ b o, G3 b = some o → G2 b = some o := fun b o e => by
      by_cases c : ∃ i, b ∈ Fs i
      · obtain ⟨i, hi⟩ := c
        rw [g3in i b hi] at e
        cases e
      · rw [g3out b fun i z => c ⟨i, z⟩] at e
        exact e
    have m3 : Mv (mS ob).M G H G3 H2 := by
      refine ⟨fun b o e => ?_, fun b o e => m.sub b o (g3sub b o e), fun b o e => ?_, m.kp, m.dom⟩
      · have nb : ∀ i, b ∉ Fs i := fun i z => by
          rw [(s.foot z).1] at e
          cases e
        rw [g3out b nb]
        exact m.gr b o (gl b o e)
      · by_cases c : ∃ i, b ∈ Fs i
        · obtain ⟨i, hi⟩ := c
          rw [g3in i b hi, (s.foot hi).1]
        · rw [g3out b fun i z => c ⟨i, z⟩, m.old b o e, lent_out fun i z => c ⟨i, z⟩]
    have w3 : Wd (mS ob) n' G3 H2 := ⟨fun b o e => w'.sub b o (g3sub b o e), fun b mb => by
      rw [g3out b fun i z => s.nm i b z mb]
      exact w'.no b mb, hI w'.inv⟩
    refine hQ v a n' G3 H2 m3 (s.step m3 w3) (hS a n' G2 G3 v k r fun b o e ht' => ?_) k
    have nb : ∀ i, b ∉ Fs i := fun i z => by
      obtain ⟨o', e', t'⟩ := fT i b z
      rw [e] at e'
      cases e'
      rw [ht'] at t'
      cases t'
    rw [g3out b nb]
    exact e
end
end LT
namespace LT
open PySem PySem.Spec PyProof.Rows L2 ZX DL RT DP
structure Fx (M F0 : Addr → Prop) (G H G2 H2 : Hp) : Prop where
  gr : ∀ a o, G a = some o → G2 a = some o
  sub : ∀ a o, G2 a = some o → H2 a = some o
  old : ∀ a o, H a = some o → ¬ F0 a → G2 a = G a
  kp : ∀ a o, H a = some o → ¬ F0 a → ¬ M a → H2 a = some o
  dom : ∀ a o, H a = some o → ∃ u, H2 a = some u
section
variable {M F0 F1 : Addr → Prop} {G0 H0 G H G2 H2 : Hp}
theorem Fx.refl (h : ∀ a o, G a = some o → H a = some o) : Fx M F0 G H G H := ⟨fun _ _ e => e, h, fun _ _ _ _ => rfl, fun _ _ e _ _ => e, fun _ o e => ⟨o, e⟩⟩
theorem Fx.trans (x : Fx M F0 G0 H0 G H) (y : Fx M F1 G H G2 H2) (h : ∀ a, F1 a → F0 a ∨ H0 a = none) : Fx M F0 G0 H0 G2 H2 where
  gr := fun a o e => y.gr a o (x.gr a o e)
  sub := y.sub
  old := fun a o e n => by
    obtain ⟨u, eu⟩ := x.dom a o e
    have n1 : ¬ F1 a := fun z => (h a z).elim n fun w => by rw [e] at w; cases w
    rw [y.old a u eu n1, x.old a o e n]
  kp := fun a o e n m => by
    have n1 : ¬ F1 a := fun z => (h a z).elim n fun w => by rw [e] at w; cases w
    exact y.kp a o (x.kp a o e n m) n1 m
  dom := fun a o e => by
    obtain ⟨u, eu⟩ := x.dom a o e
    exact y.dom a u eu
theorem Fx.ofMv (m : Mv M G H G2 H2) : Fx M F0 G H G2 H2 := ⟨m.gr, m.sub, fun a o e _ => m.old a o e, fun a o e _ n => m.kp a o e n, m.dom⟩
theorem Fx.step (x : Fx M F0 G0 H0 G H) (m : Mv M G H G2 H2) : Fx M F0 G0 H0 G2 H2 := x.trans (F1 := fun _ => False) (.ofMv m) fun _ z => z.elim
theorem Fx.upd {a : Addr} {o u : HO} (x : Fx M F0 G0 H0 G H) (ha : F0 a ∨ H0 a = none) (e : H a = some u) (g : G a = none) : Fx M F0 G0 H0 G (upd H a o) :=
  x.trans (F1 := fun b => b = a) ⟨fun _ _ e => e, fun b w e2 => by rw [upd_ne (fun z => by rw [z, g] at e2; cases e2)]; exact x.sub b w e2, fun _ _ _ _ => rfl, fun b w e2 n _ => by rw [upd_ne n]; exact e2, fun b w e2 => by
    by_cases c : b = a
    · exact ⟨o, by rw [c, upd_same]⟩
    · exact ⟨w, by rw [upd_ne c]; exact e2⟩⟩ fun b z => by rw [z]; exact ha
theorem Fx.new {p : Addr} {o : HO} (x : Fx M F0 G0 H0 G H) (np : H p = none) : Fx M F0 G0 H0 G (L2.upd H p o) :=
  x.trans (F1 := fun _ => False) ⟨fun _ _ e => e, fun b w e2 => by rw [upd_ne (ne_of_none (x.sub b w e2) np)]; exact x.sub b w e2, fun _ _ _ _ => rfl, fun b w e2 _ _ => by rw [upd_ne (ne_of_none e2 np)]; exact e2, fun b w e2 => ⟨w, by rw [upd_ne (ne_of_none e2 np)]; exact e2⟩⟩ fun _ z => z.elim
theorem Fx.fresh (x : Fx M F0 G0 H0 G H) {p : Addr} (np : H p = none) : H0 p = none := by
  cases e : H0 p with
  | none => rfl
  | some o =>
    obtain ⟨u, eu⟩ := x.dom p o e
    rw [np] at eu
    cases eu
end
def updF (Fs : Nat → List Addr) (i : Nat) (F : List Addr) : Nat → List Addr := fun j => if j = i then F else Fs j
theorem updF_at {Fs : Nat → List Addr} {i : Nat} {F : List Addr} : updF Fs i F i = F := if_pos rfl
theorem updF_ne {Fs : Nat → List Addr} {i j : Nat} {F : List Addr} (h : j ≠ i) : updF Fs i F j = Fs j := if_neg h
def LSl.wth : LSl → Tr → LSl
  | .pn _, t => .pn t
  | _, t => .tr t
def LSl.isPn : LSl → Bool
  | .pn _ => true
  | _ => false
section
variable {C : Ck} {K : PySem.W.Frag} {ob : Option Bo} {pin : Nat → V} {env : LEn} {Fs : Nat → List Addr} {n : Nat} {σ : L2.St} {G H : Hp}
theorem dj_upd {i : Nat} {F : List Addr} (dj : ∀ i j a, i ≠ j → a ∈ Fs i → a ∉ Fs j) (h : ∀ j a, j ≠ i → a ∈ F → a ∉ Fs j) : ∀ k j a, k ≠ j → a ∈ updF Fs i F k → a ∉ updF Fs i F j := fun k j a ne ha hb => by
  by_cases c : k = i
  · subst c
    rw [updF_at] at ha
    rw [updF_ne ne.symm] at hb
    exact h j a ne.symm ha hb
  · rw [updF_ne c] at ha
    by_cases c2 : j = i
    · subst c2
      rw [updF_at] at hb
      exact h k a c hb ha
    · rw [updF_ne c2] at hb
      exact dj k j a ne ha hb
theorem setE_of {α : Type} {xs : List α} {i j : Nat} {a b : α} (h : (xs.set i a)[j]? = some b) : (j = i ∧ b = a ∧ i < xs.length) ∨ (j ≠ i ∧ xs[j]? = some b) := by
  rcases set_of h with ⟨e, e2, e3⟩ | ⟨e, e2⟩
  · exact .inl ⟨e.symm, e2, e3⟩
  · exact .inr ⟨fun z => e z.symm, e2⟩
theorem Sta.setT (s : Sta C K ob pin env Fs n σ G H) {i : Nat} {v : V} {t : Tr} {F : List Addr} (hi : i < env.length) (h : TR C K G H v t F) (dj : ∀ j a, j ≠ i → a ∈ F → a ∉ Fs j) (nm : ∀ a ∈ F, ¬ (mS ob).M a) :
    Sta C K ob pin (env.set i (.tr t)) (updF Fs i F) n (σ.set i (some v)) G H := by
  have hs : i < σ.length := by rw [s.len]; exact hi
  refine ⟨by rw [List.length_set, List.length_set]; exact s.len, fun j u e => ?_, fun j u e => ?_, fun j e => ?_, fun j e => ?_, dj_upd s.dj dj, fun j a ha => ?_, s.wd⟩
  · rcases setE_of e with ⟨rfl, e2, _⟩ | ⟨ne, e2⟩
    · cases e2
      exact ⟨v, List.getElem?_set_self hs, by rw [updF_at]; exact h⟩
    · rw [updF_ne ne, List.getElem?_set_ne (Ne.symm ne)]
      exact s.tr j u e2
  · rcases setE_of e with ⟨rfl, e2, _⟩ | ⟨ne, e2⟩
    · cases e2
    · rw [updF_ne ne, List.getElem?_set_ne (Ne.symm ne)]
      exact s.pn j u e2
  · rcases setE_of e with ⟨rfl, e2, _⟩ | ⟨ne, e2⟩
    · cases e2
    · rw [List.getElem?_set_ne (Ne.symm ne)]
      exact s.bx j e2
  · by_cases c : j = i
    · subst c
      rw [List.getElem?_set_self hi] at e
      cases e
    · rw [updF_ne c]
      rw [List.getElem?_set_ne (Ne.symm c)] at e
      exact s.un j e
  · by_cases c : j = i
    · subst c
      rw [updF_at] at ha
      exact nm a ha
    · rw [updF_ne c] at ha
      exact s.nm j a ha
theorem Sta.setD (s : Sta C K ob pin env Fs n σ G H) {i : Nat} {v : V} {x : PyData} (hi : i < env.length) (h : DD K G v x) : Sta C K ob pin (env.set i (.tr (.d x))) (updF Fs i []) n (σ.set i (some v)) G H :=
  s.setT hi (.d h) (fun _ _ _ z => nomatch z) (fun _ z => nomatch z)
theorem Sta.put (s : Sta C K ob pin env Fs n σ G H) {i : Nat} {e : LSl} {t0 t : Tr} {v : V} {F : List Addr} {a : Addr} {o : HO} (he : env[i]? = some e) (ht : e.tree = some t0) (hv : σ[i]? = some (some v)) (h : TR C K G (upd H a o) v t F) (ha : a ∈ Fs i) (dj : ∀ j b, j ≠ i → b ∈ F → b ∉ Fs j) (nm : ∀ b ∈ F, ¬ (mS ob).M b) :
    Sta C K ob pin (env.set i (e.wth t)) (updF Fs i F) n σ G (upd H a o) := by
  have hi : i < env.length := (List.getElem?_eq_some_iff.mp he).1
  obtain ⟨ga, ua, ea, _⟩ := s.foot ha
  have kf : ∀ j, j ≠ i → ∀ b ∈ Fs j, upd H a o b = H b ∧ G b = none := fun j ne b hb => ⟨upd_ne fun z => by rw [z] at hb; exact s.dj i j a ne.symm ha hb, (s.foot hb).1⟩
  refine ⟨by rw [List.length_set]; exact s.len, fun j u e2 => ?_, fun j u e2 => ?_, fun j e2 => ?_, fun j e2 => ?_, dj_upd s.dj dj, fun j b hb => ?_, ?_⟩
  · rcases setE_of e2 with ⟨rfl, e3, _⟩ | ⟨ne, e3⟩
    · rw [updF_at]
      cases e with
      | tr w =>
        cases e3
        exact ⟨v, hv, h⟩
      | pn w => cases e3
      | unk => cases ht
      | bx => cases ht
    · rw [updF_ne ne]
      obtain ⟨w, x, y⟩ := s.tr j u e3
      exact ⟨w, x, y.keep (fun _ _ e => e) (kf j ne)⟩
  · rcases setE_of e2 with ⟨rfl, e3, _⟩ | ⟨ne, e3⟩
    · rw [updF_at]
      cases e with
      | tr w => cases e3
      | pn w =>
        cases e3
        obtain ⟨x, _⟩ := s.pn j _ he
        rw [hv] at x
        cases x
        exact ⟨hv, h⟩
      | unk => cases ht
      | bx => cases ht
    · rw [updF_ne ne]
      obtain ⟨x, y⟩ := s.pn j u e3
      exact ⟨x, y.keep (fun _ _ e => e) (kf j ne)⟩
  · rcases setE_of e2 with ⟨rfl, e3, _⟩ | ⟨ne, e3⟩
    · cases e <;> cases e3
    · exact s.bx j e3
  · by_cases c : j = i
    · subst c
      rw [List.getElem?_set_self hi] at e2
      cases e with
      | tr w => cases e2
      | pn w => cases e2
      | unk => cases ht
      | bx => cases ht
    · rw [updF_ne c]
      rw [List.getElem?_set_ne (Ne.symm c)] at e2
      exact s.un j e2
  · by_cases c : j = i
    · subst c
      rw [updF_at] at hb
      exact nm b hb
    · rw [updF_ne c] at hb
      exact s.nm j b hb
  · refine ⟨fun b w e2 => by rw [upd_ne (fun z => by rw [z, ga] at e2; cases e2)]; exact s.wd.sub b w e2, s.wd.no, (mS ob).fr s.wd.inv (fun _ _ e => e) fun b w m e2 => by rw [upd_ne (fun z => by rw [z] at m; exact s.nm i a ha m)]; exact e2⟩
structure Rel (C : Ck) (K : PySem.W.Frag) (ob : Option Bo) (pin : Nat → V) (F0 : Addr → Prop) (G0 H0 : Hp) (env : LEn) (Fs : Nat → List Addr) (n : Nat) (σ : L2.St) (G H : Hp) : Prop where
  s : Sta C K ob pin env Fs n σ G H
  x : Fx (mS ob).M F0 G0 H0 G H
  f : ∀ i a, a ∈ Fs i → F0 a ∨ H0 a = none
variable {F0 : Addr → Prop} {G0 H0 : Hp}
theorem Rel.step (r : Rel C K ob pin F0 G0 H0 env Fs n σ G H) {n' : Nat} {G2 H2 : Hp} (m : Mv (mS ob).M G H G2 H2) (s : Sta C K ob pin env Fs n' σ G2 H2) : Rel C K ob pin F0 G0 H0 env Fs n' σ G2 H2 := ⟨s, r.x.step m, r.f⟩
theorem f_upd {i : Nat} {F : List Addr} (h : ∀ i a, a ∈ Fs i → F0 a ∨ H0 a = none) (hF : ∀ a ∈ F, F0 a ∨ H0 a = none) : ∀ j a, a ∈ updF Fs i F j → F0 a ∨ H0 a = none := fun j a ha => by
  by_cases c : j = i
  · subst c
    rw [updF_at] at ha
    exact hF a ha
  · rw [updF_ne c] at ha
    exact h j a ha
theorem Rel.setD (r : Rel C K ob pin F0 G0 H0 env Fs n σ G H) {i : Nat} {v : V} {x : PyData} (hi : i < env.length) (h : DD K G v x) : Rel C K ob pin F0 G0 H0 (env.set i (.tr (.d x))) (updF Fs i []) n (σ.set i (some v)) G H :=
  ⟨r.s.setD hi h, r.x, f_upd r.f fun _ z => nomatch z⟩
theorem Rel.setN (r : Rel C K ob pin F0 G0 H0 env Fs n σ G H) {i : Nat} {l : Addr} {xs : List V} {ds : List PyData} {Hb : Hp} (hi : i < env.length) (hl : H l = some (.lst xs)) (gl : G l = none) (dd : DDs K G xs ds) (nb : Hb l = none) (hb : ∀ j a, a ∈ Fs j → ∃ o, Hb a = some o) (nm : ¬ (mS ob).M l) (n0 : H0 l = none) :
    Rel C K ob pin F0 G0 H0 (env.set i (.tr (.lst (ds.map .d)))) (updF Fs i [l]) n (σ.set i (some (.ref l))) G H := by
  refine ⟨r.s.setT hi (.lst hl gl (TRs.ofD dd) (by simp)) (fun j a _ ha hj => ?_) (fun a ha => ?_), r.x, f_upd r.f fun a ha => ?_⟩
  · rw [List.mem_singleton.mp ha] at hj
    obtain ⟨o, e⟩ := hb j l hj
    rw [nb] at e
    cases e
  · rw [List.mem_singleton.mp ha]
    exact nm
  · rw [List.mem_singleton.mp ha]
    exact .inr n0
theorem Rel.putL (r : Rel C K ob pin F0 G0 H0 env Fs n σ G H) {i : Nat} {e : LSl} {ts us : List Tr} {a : Addr} {ys : List V} {F : List Addr} (he : env[i]? = some e) (ht : e.tree = some (.lst ts)) (hv : σ[i]? = some (some (.ref a))) (hF : Fs i = a :: F) (hn : a ∉ F) (hy : TRs C K G H ys us F) :
    Rel C K ob pin F0 G0 H0 (env.set i (e.wth (.lst us))) (updF Fs i (a :: F)) n σ G (upd H a (.lst ys)) := by
  have ha : a ∈ Fs i := by rw [hF]; exact List.mem_cons_self ..
  obtain ⟨ga, o, eo, _⟩ := r.s.foot ha
  refine ⟨r.s.put he ht hv (.lst upd_same ga (hy.keep (fun _ _ e => e) fun b hb => ⟨upd_ne fun z => hn (by rw [← z]; exact hb), (r.s.foot (i := i) (by rw [hF]; exact List.mem_cons_of_mem _ hb)).1⟩) hn) ha (fun j b ne hb => ?_) (fun b hb => ?_), r.x.upd (r.f i a ha) eo ga, f_upd r.f fun b hb => ?_⟩
  · rw [← hF] at hb
    exact r.s.dj i j b ne.symm hb
  · rw [← hF] at hb
    exact r.s.nm i b hb
  · rw [← hF] at hb
    exact r.f i b hb
theorem Rel.putI (r : Rel C K ob pin F0 G0 H0 env Fs n σ G H) {i : Nat} {e : LSl} {ts us : List Tr} {a b : Addr} {xs : List V} {o : HO} {F : List Addr} (he : env[i]? = some e) (ht : e.tree = some (.lst ts)) (hv : σ[i]? = some (some (.ref a))) (hF : Fs i = a :: F) (hn : a ∉ F) (hx : H a = some (.lst xs)) (hb : b ∈ F) (hy : TRs C K G (upd H b o) xs us F) :
    Rel C K ob pin F0 G0 H0 (env.set i (e.wth (.lst us))) (updF Fs i (a :: F)) n σ G (upd H b o) := by
  have hbF : b ∈ Fs i := by rw [hF]; exact List.mem_cons_of_mem _ hb
  have haF : a ∈ Fs i := by rw [hF]; exact List.mem_cons_self ..
  obtain ⟨gb, o', eo, _⟩ := r.s.foot hbF
  have ne : a ≠ b := fun z => hn (by rw [z]; exact hb)
  refine ⟨r.s.put he ht hv (.lst (by rw [upd_ne ne]; exact hx) (r.s.foot haF).1 hy hn) hbF (fun j c ne hc => ?_) (fun c hc => ?_), r.x.upd (r.f i b hbF) eo gb, f_upd r.f fun c hc => ?_⟩
  · rw [← hF] at hc
    exact r.s.dj i j c ne.symm hc
  · rw [← hF] at hc
    exact r.s.nm i c hc
  · rw [← hF] at hc
    exact r.f i c hc
theorem Rel.list (r : Rel C K ob pin F0 G0 H0 env Fs n σ G H) {i : Nat} {e : LSl} {ts : List Tr} (he : env[i]? = some e) (ht : e.tree = some (.lst ts)) : ∃ a xs F, σ[i]? = some (some (.ref a)) ∧ H a = some (.lst xs) ∧ G a = none ∧ TRs C K G H xs ts F ∧ Fs i = a :: F ∧ a ∉ F := by
  obtain ⟨v, hv, q⟩ := r.s.at he ht
  generalize hF : Fs i = F at q
  cases q with
  | @lst a xs _ F' h g t n => exact ⟨a, xs, F', hv, h, g, t, rfl, n⟩
theorem Rel.putO (r : Rel C K ob pin F0 G0 H0 env Fs n σ G H) {i : Nat} {e : LSl} {t0 t : Tr} {a : Addr} {o : HO} {F : List Addr} (he : env[i]? = some e) (ht : e.tree = some t0) (hv : σ[i]? = some (some (.ref a))) (hF : Fs i = a :: F) (hy : TR C K G (upd H a o) (.ref a) t (a :: F)) :
    Rel C K ob pin F0 G0 H0 (env.set i (e.wth t)) (updF Fs i (a :: F)) n σ G (upd H a o) := by
  have ha : a ∈ Fs i := by rw [hF]; exact List.mem_cons_self ..
  obtain ⟨ga, o', eo, _⟩ := r.s.foot ha
  refine ⟨r.s.put he ht hv hy ha (fun j b ne hb => ?_) (fun b hb => ?_), r.x.upd (r.f i a ha) eo ga, f_upd r.f fun b hb => ?_⟩
  · rw [← hF] at hb
    exact r.s.dj i j b ne.symm hb
  · rw [← hF] at hb
    exact r.s.nm i b hb
  · rw [← hF] at hb
    exact r.f i b hb
theorem Rel.dict (r : Rel C K ob pin F0 G0 H0 env Fs n σ G H) {i : Nat} {e : LSl} {ks : List Key} {ts : List Tr} (he : env[i]? = some e) (ht : e.tree = some (.dct ks ts)) : ∃ a kvs F, σ[i]? = some (some (.ref a)) ∧ H a = some (.dK kvs) ∧ G a = none ∧ kvs.map (·.1) = ks ∧ TRs C K G H (kvs.map (·.2)) ts F ∧ Fs i = a :: F ∧ a ∉ F := by
  obtain ⟨v, hv, q⟩ := r.s.at he ht
  generalize hF : Fs i = F at q
  cases q with
  | @dct a kvs _ _ F' h g e t n => exact ⟨a, kvs, F', hv, h, g, e, t, rfl, n⟩
end
def getT : List Nat → Tr → Option Tr
  | [], t => some t
  | k :: p, .lst ts => (ts[k]?).bind (getT p)
  | k :: p, .ins _ ts => (ts[k]?).bind (getT p)
  | _ :: _, _ => none
def putT : List Nat → Tr → Tr → Tr
  | [], _, u => u
  | k :: p, .lst ts, u => match ts[k]? with
    | some t => .lst (ts.set k (putT p t u))
    | none => .lst ts
  | k :: p, .ins c ts, u => match ts[k]? with
    | some t => .ins c (ts.set k (putT p t u))
    | none => .ins c ts
  | _ :: _, t, _ => t
def VAt (H : Hp) : V → List Nat → V → Prop
  | v, [], u => v = u
  | v, k :: p, u => ∃ r w, v = .ref r ∧ ((∃ xs, H r = some (.lst xs) ∧ xs[k]? = some w) ∨ ∃ cc dx fs, H r = some (.ins cc dx fs) ∧ (fs.map (·.2))[k]? = some w) ∧ VAt H w p u
theorem VAt.det {H : Hp} : ∀ (p : List Nat) {v u u' : V}, VAt H v p u → VAt H v p u' → u = u'
  | [], v, u, u', h, h' => (show v = u from h).symm.trans (show v = u' from h')
  | k :: p, v, u, u', ⟨r, w, e, o, h⟩, ⟨r', w', e', o', h'⟩ => by
    subst e
    cases e'
    have ew : w = w' := by
      rcases o with ⟨xs, e1, e2⟩ | ⟨cc, dx, fs, e1, e2⟩ <;> rcases o' with ⟨xs', e3, e4⟩ | ⟨cc', dx', fs', e3, e4⟩ <;> rw [e1] at e3 <;> cases e3
      · rw [e2] at e4
        cases e4
        rfl
      · rw [e2] at e4
        cases e4
        rfl
    subst ew
    exact VAt.det p h h'
theorem VAt.snoc {H : Hp} {k : Nat} : ∀ (p : List Nat) {v u x : V}, VAt H v p u → VAt H u [k] x → VAt H v (p ++ [k]) x
  | [], v, u, x, h, h2 => by
    cases (show v = u from h)
    exact h2
  | j :: p, v, u, x, ⟨r, w, e, o, h⟩, h2 => ⟨r, w, e, o, VAt.snoc p h h2⟩
theorem getT_snoc {k : Nat} : ∀ (p : List Nat) {t t1 t2 : Tr}, getT p t = some t1 → getT [k] t1 = some t2 → getT (p ++ [k]) t = some t2
  | [], t, t1, t2, h, h2 => by
    cases (show some t = some t1 from h)
    exact h2
  | j :: p, t, t1, t2, h, h2 => by
    cases t with
    | lst ts =>
      obtain ⟨u, e1, e2⟩ := Option.bind_eq_some_iff.mp (show (ts[j]?).bind (getT p) = some t1 from h)
      show (ts[j]?).bind (getT (p ++ [k])) = some t2
      rw [e1]
      exact getT_snoc p e2 h2
    | ins c ts =>
      obtain ⟨u, e1, e2⟩ := Option.bind_eq_some_iff.mp (show (ts[j]?).bind (getT p) = some t1 from h)
      show (ts[j]?).bind (getT (p ++ [k])) = some t2
      rw [e1]
      exact getT_snoc p e2 h2
    | d x => cases h
    | dct _ _ => cases h
def isD : Tr → Bool
  | .d _ => true
  | _ => false
section
variable {C : Ck} {K : PySem.W.Frag} {G H : Hp}
theorem TR.ref : ∀ {v : V} {t : Tr} {F : List Addr}, TR C K G H v t F → isD t = false → ∃ a, v = .ref a ∧ a ∈ F
  | _, _, _, .d _, e => by cases e
  | _, _, _, .lst _ _ _ _, _ => ⟨_, rfl, List.mem_cons_self ..⟩
  | _, _, _, .dct _ _ _ _ _, _ => ⟨_, rfl, List.mem_cons_self ..⟩
  | _, _, _, .ins _ _ _ _ _, _ => ⟨_, rfl, List.mem_cons_self ..⟩
theorem TRs.at : ∀ (k : Nat) {vs : List V} {ts : List Tr} {F : List Addr} {t : Tr}, TRs C K G H vs ts F → ts[k]? = some t → ∃ v Fk, vs[k]? = some v ∧ TR C K G H v t Fk ∧ (∀ b ∈ Fk, b ∈ F) ∧
    ∀ (H' : Hp) t' Fk', TR C K G H' v t' Fk' → (∀ b ∈ F, b ∉ Fk → H' b = H b) → (∀ b ∈ Fk', b ∈ Fk ∨ b ∉ F) → ∃ F', TRs C K G H' vs (ts.set k t') F' ∧ ∀ b ∈ F', b ∈ F ∨ b ∈ Fk'
  | _, _, _, _, _, .nil, h => by simp at h
  | 0, _, _, _, t, .cons (v := v) (t := t0) (F := F1) (F' := F2) h r dj, e => by
    have e' : t0 = t := by simpa using e
    subst e'
    refine ⟨v, F1, rfl, h, fun b hb => List.mem_append_left _ hb, fun H' t' Fk' h' kp sub => ?_⟩
    refine ⟨Fk' ++ F2, .cons h' (r.keep (fun _ _ e => e) fun b hb => ⟨kp b (List.mem_append_right _ hb) fun z => dj b z hb, (r.foot b hb).1⟩) fun b hb hb2 => ?_, fun b hb => ?_⟩
    · rcases sub b hb with z | z
      · exact dj b z hb2
      · exact z (List.mem_append_right _ hb2)
    · rcases List.mem_append.mp hb with z | z
      · exact .inr z
      · exact .inl (List.mem_append_right _ z)
  | k + 1, _, _, _, t, .cons (v := v0) (F := F1) (F' := F2) h r dj, e => by
    obtain ⟨v, Fk, e1, hk, sb, put⟩ := TRs.at k r (by simpa using e)
    refine ⟨v, Fk, by simpa using e1, hk, fun b hb => List.mem_append_right _ (sb b hb), fun H' t' Fk' h' kp sub => ?_⟩
    obtain ⟨F', p1, p2⟩ := put H' t' Fk' h' (fun b hb nb => kp b (List.mem_append_right _ hb) nb) fun b hb => (sub b hb).imp id fun z w => z (List.mem_append_right _ w)
    have nn : ∀ b ∈ F1, b ∉ F' := fun b hb hb2 => by
      rcases p2 b hb2 with z | z
      · exact dj b hb z
      · rcases sub b z with z | z
        · exact dj b hb (sb b z)
        · exact z (List.mem_append_left _ hb)
    refine ⟨F1 ++ F', .cons (h.keep (fun _ _ e => e) fun b hb => ⟨kp b (List.mem_append_left _ hb) fun z => dj b hb (sb b z), (h.foot b hb).1⟩) p1 nn, fun b hb => ?_⟩
    rcases List.mem_append.mp hb with z | z
    · exact .inl (List.mem_append_left _ z)
    · exact (p2 b z).imp (fun w => List.mem_append_right _ w) id
theorem putT_lst {k : Nat} {p : List Nat} {ts : List Tr} {t u : Tr} (h : ts[k]? = some t) : putT (k :: p) (.lst ts) u = .lst (ts.set k (putT p t u)) := by
  show (match ts[k]? with
    | some t => Tr.lst (ts.set k (putT p t u))
    | none => .lst ts) = _
  rw [h]
theorem putT_ins {k : Nat} {p : List Nat} {c : Str} {ts : List Tr} {t u : Tr} (h : ts[k]? = some t) : putT (k :: p) (.ins c ts) u = .ins c (ts.set k (putT p t u)) := by
  show (match ts[k]? with
    | some t => Tr.ins c (ts.set k (putT p t u))
    | none => .ins c ts) = _
  rw [h]
theorem TR.focus : ∀ (p : List Nat) {v : V} {t t1 : Tr} {F : List Addr}, TR C K G H v t F → getT p t = some t1 → isD t1 = false → ∃ a F1, TR C K G H (.ref a) t1 F1 ∧ a ∈ F1 ∧ (∀ b ∈ F1, b ∈ F) ∧ (∀ H' : Hp, (∀ b ∈ F, H' b = H b) → VAt H' v p (.ref a)) ∧
    ∀ o t' F1', TR C K G (upd H a o) (.ref a) t' F1' → (∀ b ∈ F1', b ∈ F1 ∨ b ∉ F) → ∃ F', TR C K G (upd H a o) v (putT p t t') F' ∧ ∀ b ∈ F', b ∈ F ∨ b ∈ F1'
  | [], v, t, t1, F, h, e, hd => by
    cases (show some t = some t1 from e)
    obtain ⟨a, rfl, ha⟩ := h.ref hd
    exact ⟨a, F, h, ha, fun _ z => z, fun _ _ => rfl, fun o t' F1' h' _ => ⟨F1', h', fun b hb => .inr hb⟩⟩
  | k :: p, v, t, t1, F, h, e, hd => by
    cases h with
    | d _ => cases e
    | dct _ _ _ _ _ => cases e
    | @lst r xs ts F0 hh g tr n =>
      obtain ⟨tk, e1, e2⟩ := Option.bind_eq_some_iff.mp (show (ts[k]?).bind (getT p) = some t1 from e)
      obtain ⟨w, Fk, q1, q2, q3, q4⟩ := TRs.at k tr e1
      obtain ⟨a, F1, f1, f2, f3, f4, f5⟩ := TR.focus p q2 e2 hd
      refine ⟨a, F1, f1, f2, fun b hb => List.mem_cons_of_mem _ (q3 b (f3 b hb)), fun H' kp => ⟨r, w, rfl, .inl ⟨xs, by rw [kp r (List.mem_cons_self ..)]; exact hh, q1⟩, f4 H' fun b hb => kp b (List.mem_cons_of_mem _ (q3 b hb))⟩, fun o t' F1' h' sub => ?_⟩
      have aF : a ∈ F0 := q3 a (f3 a f2)
      obtain ⟨F'k, p1, p2⟩ := f5 o t' F1' h' fun b hb => (sub b hb).imp id fun z w => z (List.mem_cons_of_mem _ (q3 b w))
      obtain ⟨F0', p3, p4⟩ := q4 (upd H a o) _ F'k p1 (fun b hb nb => upd_ne fun z => nb (by rw [z]; exact f3 a f2)) fun b hb => by
        rcases p2 b hb with z | z
        · exact .inl z
        · exact (sub b z).imp (fun y => f3 b y) fun y w => y (List.mem_cons_of_mem _ w)
      have nr : r ∉ F0' := fun z => by
        rcases p4 r z with z | z
        · exact n z
        · rcases p2 r z with z | z
          · exact n (q3 r z)
          · rcases sub r z with z | z
            · exact n (q3 r (f3 r z))
            · exact z (List.mem_cons_self ..)
      rw [putT_lst e1]
      refine ⟨r :: F0', .lst (by rw [upd_ne fun z => n (by rw [z]; exact aF)]; exact hh) g p3 nr, fun b hb => ?_⟩
      rcases List.mem_cons.mp hb with rfl | hb
      · exact .inl (List.mem_cons_self ..)
      · rcases p4 b hb with z | z
        · exact .inl (List.mem_cons_of_mem _ z)
        · exact (p2 b z).imp (fun y => List.mem_cons_of_mem _ (q3 b y)) id
    | @ins r cc dx c fs ts F0 hh g ec tr n =>
      obtain ⟨tk, e1, e2⟩ := Option.bind_eq_some_iff.mp (show (ts[k]?).bind (getT p) = some t1 from e)
      obtain ⟨w, Fk, q1, q2, q3, q4⟩ := TRs.at k tr e1
      obtain ⟨a, F1, f1, f2, f3, f4, f5⟩ := TR.focus p q2 e2 hd
      refine ⟨a, F1, f1, f2, fun b hb => List.mem_cons_of_mem _ (q3 b (f3 b hb)), fun H' kp => ⟨r, w, rfl, .inr ⟨cc, dx, fs, by rw [kp r (List.mem_cons_self ..)]; exact hh, q1⟩, f4 H' fun b hb => kp b (List.mem_cons_of_mem _ (q3 b hb))⟩, fun o t' F1' h' sub => ?_⟩
      have aF : a ∈ F0 := q3 a (f3 a f2)
      obtain ⟨F'k, p1, p2⟩ := f5 o t' F1' h' fun b hb => (sub b hb).imp id fun z w => z (List.mem_cons_of_mem _ (q3 b w))
      obtain ⟨F0', p3, p4⟩ := q4 (upd H a o) _ F'k p1 (fun b hb nb => upd_ne fun z => nb (by rw [z]; exact f3 a f2)) fun b hb => by
        rcases p2 b hb with z | z
        · exact .inl z
        · exact (sub b z).imp (fun y => f3 b y) fun y w => y (List.mem_cons_of_mem _ w)
      have nr : r ∉ F0' := fun z => by
        rcases p4 r z with z | z
        · exact n z
        · rcases p2 r z with z | z
          · exact n (q3 r z)
          · rcases sub r z with z | z
            · exact n (q3 r (f3 r z))
            · exact z (List.mem_cons_self ..)
      rw [putT_ins e1]
      refine ⟨r :: F0', .ins (by rw [upd_ne fun z => n (by rw [z]; exact aF)]; exact hh) g ec p3 nr, fun b hb => ?_⟩
      rcases List.mem_cons.mp hb with rfl | hb
      · exact .inl (List.mem_cons_self ..)
      · rcases p4 b hb with z | z
        · exact .inl (List.mem_cons_of_mem _ z)
        · exact (p2 b z).imp (fun y => List.mem_cons_of_mem _ (q3 b y)) id
end
def PlR (env : LEn) (σ : L2.St) (H : Hp) (i : Nat) (p : List Nat) (t : Tr) (v : V) : Prop := ∃ e t0 w, env[i]? = some e ∧ e.tree = some t0 ∧ getT p t0 = some t ∧ isD t = false ∧ σ[i]? = some (some w) ∧ VAt H w p v
def plPut (env : LEn) (i : Nat) (p : List Nat) (u : Tr) : LEn := match env[i]? with
  | some e => match e.tree with
    | some t0 => env.set i (e.wth (putT p t0 u))
    | none => env
  | none => env
section
variable {C : Ck} {K : PySem.W.Frag} {ob : Option Bo} {pin : Nat → V} {env : LEn} {Fs : Nat → List Addr} {n : Nat} {σ : L2.St} {G H G2 H2 : Hp} {i : Nat} {p : List Nat} {t : Tr} {v : V}
theorem PlR.foc (h : PlR env σ H i p t v) (s : Sta C K ob pin env Fs n σ G H) : ∃ a F1 e t0 w, v = .ref a ∧ env[i]? = some e ∧ e.tree = some t0 ∧ σ[i]? = some (some w) ∧ TR C K G H (.ref a) t F1 ∧ a ∈ F1 ∧ (∀ b ∈ F1, b ∈ Fs i) ∧ (∀ H' : Hp, (∀ b ∈ Fs i, H' b = H b) → VAt H' w p (.ref a)) ∧ getT p t0 = some t ∧
    ∀ o t' F1', TR C K G (upd H a o) (.ref a) t' F1' → (∀ b ∈ F1', b ∈ F1 ∨ b ∉ Fs i) → ∃ F', TR C K G (upd H a o) w (putT p t0 t') F' ∧ ∀ b ∈ F', b ∈ Fs i ∨ b ∈ F1' := by
  obtain ⟨e, t0, w, h1, h2, h3, h4, h5, h6⟩ := h
  obtain ⟨w', hw, tr⟩ := s.at h1 h2
  rw [h5] at hw
  cases hw
  obtain ⟨a, F1, f1, f2, f3, f4, f5⟩ := TR.focus p tr h3 h4
  exact ⟨a, F1, e, t0, w, VAt.det p h6 (f4 H fun _ _ => rfl), h1, h2, h5, f1, f2, f3, f4, h3, f5⟩
theorem PlR.step (h : PlR env σ H i p t v) (s : Sta C K ob pin env Fs n σ G H) (m : Mv (mS ob).M G H G2 H2) : PlR env σ H2 i p t v := by
  obtain ⟨a, F1, e, t0, w, rfl, h1, h2, h3, h4, h5, h6, h7, h8, _⟩ := h.foc s
  obtain ⟨_, _, _, _, _, _, hd, _, _⟩ := h
  refine ⟨e, t0, w, h1, h2, h8, hd, h3, h7 H2 fun b hb => ?_⟩
  obtain ⟨_, o, ho, _⟩ := s.foot hb
  rw [m.kp b o ho (s.nm i b hb), ho]
variable {F0 : Addr → Prop} {G0 H0 : Hp}
theorem Rel.putP (h : PlR env σ H i p t v) (r : Rel C K ob pin F0 G0 H0 env Fs n σ G H) : ∃ a F1, v = .ref a ∧ TR C K G H (.ref a) t F1 ∧ a ∈ F1 ∧ (∀ b ∈ F1, b ∈ Fs i) ∧
    ∀ o t' F1', TR C K G (upd H a o) (.ref a) t' F1' → (∀ b ∈ F1', b ∈ F1 ∨ ((∀ j, b ∉ Fs j) ∧ ¬ (mS ob).M b ∧ (F0 b ∨ H0 b = none))) → ∃ Fs', Rel C K ob pin F0 G0 H0 (plPut env i p t') Fs' n σ G (upd H a o) := by
  obtain ⟨a, F1, e, t0, w, rfl, h1, h2, h3, h4, h5, h6, h7, h8, put⟩ := h.foc r.s
  refine ⟨a, F1, rfl, h4, h5, h6, fun o t' F1' h' sub => ?_⟩
  obtain ⟨F', p1, p2⟩ := put o t' F1' h' fun b hb => (sub b hb).imp id fun z => z.1 i
  have aF : a ∈ Fs i := h6 a h5
  obtain ⟨ga, u, eu, _⟩ := r.s.foot aF
  have key : ∀ b ∈ F', b ∈ Fs i ∨ ((∀ j, b ∉ Fs j) ∧ ¬ (mS ob).M b ∧ (F0 b ∨ H0 b = none)) := fun b hb => by
    rcases p2 b hb with z | z
    · exact .inl z
    · exact (sub b z).imp (h6 b) id
  have e2 : plPut env i p t' = env.set i (e.wth (putT p t0 t')) := by
    unfold plPut
    rw [h1]
    show (match e.tree with
      | some t0 => env.set i (e.wth (putT p t0 t'))
      | none => env) = _
    rw [h2]
  rw [e2]
  refine ⟨_, ⟨r.s.put h1 h2 h3 p1 aF (fun j b ne hb hj => ?_) (fun b hb => ?_), r.x.upd (r.f i a aF) eu ga, f_upd r.f fun b hb => ?_⟩⟩
  · rcases key b hb with z | z
    · exact r.s.dj i j b ne.symm z hj
    · exact z.1 j hj
  · rcases key b hb with z | z
    · exact r.s.nm i b z
    · exact z.2.1
  · rcases key b hb with z | z
    · exact r.f i b z
    · exact z.2.2
theorem Rel.putPL {ts : List Tr} (h : PlR env σ H i p (.lst ts) v) (r : Rel C K ob pin F0 G0 H0 env Fs n σ G H) : ∃ a xs F, v = .ref a ∧ H a = some (.lst xs) ∧ TRs C K G H xs ts F ∧ ∀ ys us, TRs C K G H ys us F → ∃ Fs', Rel C K ob pin F0 G0 H0 (plPut env i p (.lst us)) Fs' n σ G (upd H a (.lst ys)) := by
  obtain ⟨a, F1, rfl, tr, ha, hs, put⟩ := Rel.putP h r
  cases tr with
  | @lst _ xs _ F hh g t n =>
    refine ⟨a, xs, F, rfl, hh, t, fun ys us t' => put _ _ (a :: F) (.lst upd_same g (t'.keep (fun _ _ e => e) fun b hb => ⟨upd_ne fun z => n (by rw [← z]; exact hb), (t'.foot b hb).1⟩) n) fun b hb => .inl hb⟩
end
end LT
namespace LT
open PySem PySem.Spec PyProof.Rows L2 ZX DL RT DP
abbrev LF := List Tr → Dr (Tr × List Tr)
inductive LA where
  | e (bw : Bool) (e : E)
  | own (i : Nat)
inductive Pl where
  | s (i : Nat)
  | f (p : Pl) (c k : Nat)
  | x (p : Pl) (ix : E)
inductive LC where
  | fn (f : LF) (as : List LA)
  | me (c k : Nat) (f : LF) (i : Nat) (as : List LA)
def LC.own : LC → List LA
  | .fn _ as => as
  | .me _ _ _ i as => .own i :: as
inductive LB where
  | mk (c : Nat) (f : LF) (es : List (Bool × E))
  | cmp (cp : Bool) (it : I) (j : Nat)
  | kget (i j l : Nat)
  | e (bw : Bool) (e : E)
  | f (bw : Bool) (f : FE)
  | l (xs : List LB)
  | nd
  | dct (ks : List Key) (es : List (Bool × E))
inductive LX where
  | e (bw : Bool) (e : E)
  | op (o : O2) (a b : LX)
  | call (f : LF) (as : List LA)
  | callC (c : LC)
  | two (tup : Bool) (a b : LX)
  | pop0 (p : Pl)
  | pop1 (p : Pl) (ix : E)
inductive LY where
  | x (e : LX)
  | c (c : LC)
inductive LS where
  | callC (g : Option Nat) (c : LC)
  | retX (x : LX)
  | retC (c : LC)
  | retB (b : LB)
  | drpX (x : LX)
  | appP (p : Pl) (bw : Bool) (e : E)
  | insP (p : Pl) (jx : E) (bw : Bool) (e : E)
  | setP (p : Pl) (bw : Bool) (ix e : E)
  | setFd (p : Pl) (c k : Nat) (b : LB)
  | ali (j : Nat) (t : T) (p1 p2 : Pl) (bw : Bool) (e : E)
  | next
  | seq (a b : LS)
  | asg (bw : Bool) (g : Tt) (e : E)
  | newE (bw : Bool) (i : Nat) (f : FE)
  | newL (bw : Bool) (i : Nat) (e : E)
  | app (bw : Bool) (i : Nat) (e : E)
  | setix (bw : Bool) (i : Nat) (ix e : E)
  | rev (i : Nat)
  | cond (c : T) (a b : LS)
  | loop (it : I) (g : Tt) (b : LS)
  | ret (bw : Bool) (e : E)
  | brk
  | cnt
  | frz (i : Nat) (s : LS)
  | callM (g : Option Nat) (f : LF) (as : List LA)
  | parB (is : List Nat) (b : List LB)
  | newT (i : Nat) (b : LB)
  | setix2 (bw : Bool) (i : Nat) (ix jx e : E)
  | asgX (g : Tt) (x : LX)
  | parX (i j : Nat) (a b : LX)
  | parY (i j : Nat) (a b : LY)
  | setk (i : Nat) (kx : E) (x : LX)
inductive LFl where
  | nx (env : LEn)
  | rt (r : Tr) (env : LEn)
  | bk (env : LEn)
  | ct (env : LEn)
def evEb (bw : Bool) (e : E) (env : LEn) : Dr PyData := if bw = true then (evE e (env.map (toB true))).bind fun x => if clean x = true then .ret x else .bad else evE e (env.map (toB false))
def evFb (bw : Bool) (f : FE) (env : LEn) : Dr (List PyData) := if bw = true then (evF f (env.map (toB true))).bind fun xs => if cleans xs = true then .ret xs else .bad else evF f (env.map (toB false))
def free (env : LEn) (i : Nat) : Bool := match env[i]? with
  | some (.pn _) => false
  | some .bx => false
  | some _ => true
  | none => false
mutual
def putL : Tt → LEn → PyData → Option LEn
  | .nm i, env, d => if free env i = true then some (env.set i (.tr (.d d))) else none
  | .tp ts, env, .tuple ds => putsL ts env ds
  | .tp ts, env, .list ds => putsL ts env ds
  | .tp _, _, _ => none
def putsL : Ts → LEn → List PyData → Option LEn
  | .nil, env, [] => some env
  | .cons t r, env, d :: ds => (putL t env d).bind fun env' => putsL r env' ds
  | _, _, _ => none
end
def lstAt (env : LEn) (i : Nat) : Dr (List Tr) := match env[i]? with
  | some (.tr (.lst ts)) => .ret ts
  | some (.pn (.lst ts)) => .ret ts
  | _ => .bad
def withAt (env : LEn) (i : Nat) (t : Tr) : LEn := match env[i]? with
  | some e => env.set i (e.wth t)
  | none => env
def LFl.then (k : LEn → Dr LFl) : LFl → Dr LFl
  | .nx env => k env
  | f => .ret f
def forLL (step : PyData → LEn → Dr LFl) : List PyData → LEn → Dr LFl
  | [], env => .ret (.nx env)
  | d :: r, env => (step d env).bind fun f => match f with
    | .nx env' => forLL step r env'
    | .ct env' => forLL step r env'
    | .bk env' => .ret (.nx env')
    | .rt v e => .ret (.rt v e)
def lstepL (b : LEn → Dr LFl) (g : Tt) : PyData → LEn → Dr LFl := fun d env => (Dr.opt (putL g env d)).bind b
def trAt (env : LEn) (i : Nat) : Dr Tr := match env[i]? with
  | some (.tr t) => .ret t
  | _ => .bad
def owAt (env : LEn) (i : Nat) : Dr Tr := match env[i]?.bind LSl.tree with
  | some t => if isD t = true then .bad else .ret t
  | none => .bad
def evLA : List LA → LEn → Dr (List Tr)
  | [], _ => .ret []
  | .e bw e :: r, env => (evEb bw e env).bind fun x => (evLA r env).bind fun ts => .ret (.d x :: ts)
  | .own i :: r, env => (owAt env i).bind fun t => (evLA r env).bind fun ts => .ret (t :: ts)
def ownIx : List LA → List Nat
  | [] => []
  | .e _ _ :: r => ownIx r
  | .own i :: r => i :: ownIx r
def backs : List LA → List Tr → LEn → Option LEn
  | [], [], env => some env
  | .e _ _ :: r, _ :: us, env => backs r us env
  | .own i :: r, u :: us, env => backs r us (withAt env i u)
  | _, _, _ => none
def kyOf : PyData → Option Key
  | .int i => some (.inl i)
  | .str z => some (.inr z)
  | _ => none
def putDs (ks : List Key) (ds : List PyData) (k : Key) (x : PyData) : List Key × List PyData :=
  if ks.any (fun j => decide (j = k)) = true then (ks, (ks.zip ds).map fun p => if p.1 = k then x else p.2) else (ks ++ [k], ds ++ [x])
def undT : List Tr → Option (List PyData)
  | [] => some []
  | .d x :: r => (undT r).map (x :: ·)
  | _ :: _ => none
def dctAt (env : LEn) (i : Nat) : Dr (List Key × List PyData) := match env[i]?.bind LSl.tree with
  | some (.dct ks ts) => (Dr.opt (undT ts)).bind fun ds => .ret (ks, ds)
  | _ => .bad
def evPs : List (Bool × E) → LEn → Dr (List PyData)
  | [], _ => .ret []
  | p :: r, env => (evEb p.1 p.2 env).bind fun x => (evPs r env).bind fun ds => .ret (x :: ds)
def fldT (c k : Nat) : Tr → Option Tr
  | .ins nm ts => if nm = clsN c then ts[k]? else none
  | _ => none
def lstD : Tr → Dr (List Tr)
  | .lst ts => .ret ts
  | _ => .bad
def isI (c : Nat) : Tr → Bool
  | .ins nm _ => decide (c < 3) && decide (nm = clsN c)
  | _ => false
def evPl : Pl → LEn → Dr (Nat × List Nat × Tr)
  | .s i, env => (owAt env i).bind fun t => .ret (i, [], t)
  | .f p c k, env => (evPl p env).bind fun r => (Dr.opt (fldT c k r.2.2)).bind fun t => if isD t = true then .bad else .ret (r.1, r.2.1 ++ [k], t)
  | .x p ix, env => (evPl p env).bind fun r => (lstD r.2.2).bind fun ts => (evEb true ix env).bind fun y => (asIx ts.length y).bind fun m => (Dr.opt ts[m]?).bind fun t => if isD t = true then .bad else .ret (r.1, r.2.1 ++ [m], t)
def mapO {α β : Type} (f : α → Option β) : List α → Option (List β)
  | [] => some []
  | a :: r => (f a).bind fun b => (mapO f r).map (b :: ·)
def elC (cp : Bool) (d : PyData) : Option (List PyData) := if cp = true then (seqF d).bind fun ds => if cleans ds = true then some ds else none else some []
def madeT : Tr × List Tr → Option Tr
  | (.d .none, t :: _) => some t
  | _ => none
def getK : List Key → List PyData → Key → Option PyData
  | a :: ks, d :: ds, k => if a = k then some d else getK ks ds k
  | _, _, _ => none
def kgetF (a b : List Key × List PyData) : List PyData := (a.1.zip a.2).map fun p => .tuple [kyD p.1, p.2, (getK b.1 b.2 p.1).getD .none]
mutual
def evLX : LB → LEn → Dr Tr
  | .mk c f es, env => (evPs es env).bind fun ds => if c < 3 then (f (.ins (clsN c) [] :: ds.map .d)).pur.bind fun p => (Dr.opt (madeT p)).bind fun t => .ret t else .bad
  | .cmp cp it j, env => (evI it (env.map (toB true))).bind fun its => if j < env.length ∧ its.length ≤ 100000 then (Dr.opt (mapO (elC cp) its)).bind fun dss => .ret (.lst (dss.map fun ds => .lst (ds.map .d))) else .bad
  | .kget i j l, env => (dctAt env i).bind fun a => (dctAt env j).bind fun b => if l < env.length ∧ i ≠ l ∧ j ≠ l ∧ i ≠ j ∧ a.1.length ≤ 100000 ∧ a.1.length = a.2.length ∧ b.1.length = b.2.length ∧ a.1.Nodup then .ret (.lst ((kgetF a b).map .d)) else .bad
  | .nd, _ => .ret (.dct [] [])
  | .dct ks es, env => if ks.length = es.length ∧ ks.Nodup ∧ ks.length ≤ 15 then (evPs es env).bind fun ds => .ret (.dct ks (ds.map .d)) else .bad
  | .e bw e, env => (evEb bw e env).bind fun x => .ret (.d x)
  | .f bw f, env => (evFb bw f env).bind fun xs => .ret (.lst (xs.map .d))
  | .l xs, env => (evLB xs env).bind fun ts => if ts.length ≤ 100000 then .ret (.lst ts) else .bad
def evLB : List LB → LEn → Dr (List Tr)
  | [], _ => .ret []
  | x :: r, env => (evLX x env).bind fun t => (evLB r env).bind fun ts => .ret (t :: ts)
end
def evC : LC → LEn → Dr (Tr × LEn)
  | .fn f as, env => (evLA as env).bind fun ts => (f ts).pur.bind fun p => if (ownIx as).Nodup then (Dr.opt (backs as p.2 env)).bind fun env' => .ret (p.1, env') else .bad
  | .me c _ f i as, env => (owAt env i).bind fun t => if isI c t = true then (evLA as env).bind fun ts => (f (t :: ts)).pur.bind fun p => if (i :: ownIx as).Nodup then (Dr.opt (backs (.own i :: as) p.2 env)).bind fun env' => .ret (p.1, env') else .bad else .bad
def dOf : Tr → Option PyData
  | .d x => some x
  | _ => none
def popE (ts : List Tr) : Option (PyData × Tr) := (undT ts).bind fun ds => (ds[ds.length - 1]?).map fun x => (x, .lst (ds.dropLast.map .d))
def popI (ts : List Tr) (m : Nat) : Option (PyData × Tr) := if ts.length ≤ 100000 then (undT ts).bind fun ds => (ds[m]?).map fun x => (x, .lst ((ds.eraseIdx m).map .d)) else none
def insT (ts : List Tr) (y x : PyData) : Option Tr := match y with
  | .int i => (undT ts).bind fun ds => if 0 ≤ i ∧ i ≤ 100000 ∧ ds.length ≤ 100000 then some (.lst ((ds.take i.toNat ++ [x] ++ ds.drop i.toNat).map .d)) else none
  | _ => none
def putFd (c k : Nat) (t u : Tr) : Option Tr := match t with
  | .ins nm ts => if nm = clsN c ∧ k < (clN nm).length then (if k < ts.length then some (.ins nm (ts.set k u)) else if k = ts.length then some (.ins nm (ts ++ [u])) else none) else none
  | _ => none
def evX : LX → LEn → Dr (PyData × LEn)
  | .callC c, env => (evC c env).bind fun r => (Dr.opt (dOf r.1)).bind fun x => .ret (x, r.2)
  | .pop0 p, env => (evPl p env).bind fun r => (lstD r.2.2).bind fun ts => (Dr.opt (popE ts)).bind fun q => .ret (q.1, plPut env r.1 r.2.1 q.2)
  | .pop1 p ix, env => (evPl p env).bind fun r => (lstD r.2.2).bind fun ts => (evEb true ix env).bind fun y => (asIx ts.length y).bind fun m => (Dr.opt (popI ts m)).bind fun q => .ret (q.1, plPut env r.1 r.2.1 q.2)
  | .e bw e, env => (evEb bw e env).bind fun x => .ret (x, env)
  | .op o a b, env => (evX a env).bind fun p => (evX b p.2).bind fun r => (Dr.opt (o.f p.1 r.1)).bind fun z => .ret (z, r.2)
  | .two tup a b, env => (evX a env).bind fun p => (evX b p.2).bind fun r => .ret (if tup = true then .tuple [p.1, r.1] else .list [p.1, r.1], r.2)
  | .call f as, env => (evLA as env).bind fun ts => (f ts).pur.bind fun p => if (ownIx as).Nodup then (Dr.opt (backs as p.2 env)).bind fun env' => (Dr.opt (match p.1 with
      | .d x => some x
      | _ => none)).bind fun x => .ret (x, env')
    else .bad
def innAt (ts : List Tr) (k : Nat) : Dr (List Tr) := match ts[k]? with
  | some (.lst us) => .ret us
  | _ => .bad
def putTs : List Nat → List Tr → LEn → Dr LFl
  | [], [], env => .ret (.nx env)
  | i :: is, t :: ts, env => if free env i = true then putTs is ts (env.set i (.tr t)) else .bad
  | _, _, _ => .bad
def endM (ix : List Nat) (env' : LEn) (r : Tr) : Option Nat → Dr LFl
  | none => .ret (.nx env')
  | some j => if free env' j = true ∧ j ∉ ix then .ret (.nx (env'.set j (.tr r))) else .bad
def evY : LY → LEn → Dr (Tr × LEn)
  | .x e, env => (evX e env).bind fun p => .ret (.d p.1, p.2)
  | .c c, env => evC c env
def evL : LS → LEn → Dr LFl
  | .next, env => .ret (.nx env)
  | .seq a b, env => (evL a env).bind fun f => f.then fun env' => evL b env'
  | .asg bw g e, env => (evEb bw e env).bind fun x => (Dr.opt (putL g env x)).bind fun env' => .ret (.nx env')
  | .newE bw i f, env => (evFb bw f env).bind fun xs => if free env i = true then .ret (.nx (env.set i (.tr (.lst (xs.map .d))))) else .bad
  | .newL bw i e, env => (evEb false e env).bind fun x => (asSeq x).bind fun xs => if free env i = true then .ret (.nx (env.set i (.tr (.lst (xs.map .d))))) else .bad
  | .app bw i e, env => (lstAt env i).bind fun ts => (evEb bw e env).bind fun x => if ts.length ≤ 100000 then .ret (.nx (withAt env i (.lst (ts ++ [.d x])))) else .bad
  | .setix bw i ix e, env => (lstAt env i).bind fun ts => (evEb bw e env).bind fun x => (evEb true ix env).bind fun y => (asIx ts.length y).bind fun m => if isD (ts.getD m (.lst [])) = true then .ret (.nx (withAt env i (.lst (ts.set m (.d x))))) else .bad
  | .rev i, env => (lstAt env i).bind fun ts => if ts.all isD = true then .ret (.nx (withAt env i (.lst ts.reverse))) else .bad
  | .cond c a b, env => (evT c (env.map (toB true))).bind fun q => if q = true then evL a env else evL b env
  | .loop it g b, env => (evI it (env.map (toB false))).bind fun its => forLL (lstepL (evL b) g) its env
  | .ret bw e, env => (evEb bw e env).bind fun x => .ret (.rt (.d x) env)
  | .brk, env => .ret (.bk env)
  | .cnt, env => .ret (.ct env)
  | .frz i s, env => (trAt env i).bind fun t => (Dr.opt (rd t)).bind fun x => evL s (env.set i (.tr (.d x)))
  | .callM g f as, env => (evLA as env).bind fun ts => (f ts).pur.bind fun p => if (ownIx as).Nodup then (Dr.opt (backs as p.2 env)).bind fun env' => endM (ownIx as) env' p.1 g
    else .bad
  | .newT i b, env => (evLX b env).bind fun t => if free env i = true then .ret (.nx (env.set i (.tr t))) else .bad
  | .setix2 bw i ix jx e, env => (evEb bw e env).bind fun x => (lstAt env i).bind fun ts => (evEb true ix env).bind fun y => (asIx ts.length y).bind fun k => (innAt ts k).bind fun us => (evEb true jx env).bind fun z => (asIx us.length z).bind fun m => if isD (us.getD m (.lst [])) = true then .ret (.nx (withAt env i (.lst (ts.set k (.lst (us.set m (.d x))))))) else .bad
  | .parY i j a b, env => (evY a env).bind fun p => (evY b p.2).bind fun r => putTs [i, j] [p.1, r.1] r.2
  | .parX i j a b, env => (evX a env).bind fun p => (evX b p.2).bind fun r => putTs [i, j] [.d p.1, .d r.1] r.2
  | .asgX g x, env => (evX x env).bind fun p => (Dr.opt (putL g p.2 p.1)).bind fun env' => .ret (.nx env')
  | .setk i kx x, env => (evX x env).bind fun p => (dctAt p.2 i).bind fun _ => (evEb true kx p.2).bind fun y => (dctAt p.2 i).bind fun d => (Dr.opt (kyOf y)).bind fun k => if d.1.length ≤ 100000 ∧ d.1.length = d.2.length then .ret (.nx (withAt p.2 i (.dct (putDs d.1 d.2 k p.1).1 ((putDs d.1 d.2 k p.1).2.map .d)))) else .bad
  | .parB is b, env => if is.length = 2 ∨ is.length = 3 then (evLB b env).bind fun ts => putTs is ts env
    else .bad
  | .callC g c, env => (evC c env).bind fun r => endM (ownIx c.own) r.2 r.1 g
  | .retX x, env => (evX x env).bind fun p => .ret (.rt (.d p.1) p.2)
  | .retC c, env => (evC c env).bind fun r => .ret (.rt r.1 r.2)
  | .retB b, env => (evLX b env).bind fun t => .ret (.rt t env)
  | .drpX x, env => (evX x env).bind fun p => .ret (.nx p.2)
  | .appP p bw e, env => (evPl p env).bind fun r => (lstD r.2.2).bind fun ts => (evEb bw e env).bind fun x => if ts.length ≤ 100000 then .ret (.nx (plPut env r.1 r.2.1 (.lst (ts ++ [.d x])))) else .bad
  | .insP p jx bw e, env => (evPl p env).bind fun r => (lstD r.2.2).bind fun ts => (evEb true jx env).bind fun y => (evEb bw e env).bind fun x => (Dr.opt (insT ts y x)).bind fun t => .ret (.nx (plPut env r.1 r.2.1 t))
  | .setP p bw ix e, env => (evEb bw e env).bind fun x => (evPl p env).bind fun r => (lstD r.2.2).bind fun ts => (evEb true ix env).bind fun y => (asIx ts.length y).bind fun m => if isD (ts.getD m (.lst [])) = true then .ret (.nx (plPut env r.1 r.2.1 (.lst (ts.set m (.d x))))) else .bad
  | .setFd p c k b, env => (evLX b env).bind fun u => (evPl p env).bind fun r => (Dr.opt (putFd c k r.2.2 u)).bind fun t => .ret (.nx (plPut env r.1 r.2.1 t))
  | .ali j t p1 p2 bw e, env => (evT t (env.map (toB true))).bind fun q => (evPl (if q = true then p1 else p2) env).bind fun r => if free env j = true ∧ r.1 ≠ j then (lstD r.2.2).bind fun ts => (evEb bw e (env.set j .unk)).bind fun x => if ts.length ≤ 100000 then .ret (.nx (plPut (env.set j .unk) r.1 r.2.1 (.lst (ts ++ [.d x])))) else .bad else .bad
def spL (C : Ck) (K : PySem.W.Frag) (f : LF) : Sp := fun vs H Q _ => ∃ (G : Hp) (ts : List Tr) (F : List Addr) (r : Tr) (us : List Tr), TRs C K G H vs ts F ∧ (∀ a o, G a = some o → H a = some o) ∧ f ts = .ret (r, us) ∧
  ∀ v F2 G2 H2, Fx (fun _ => False) (fun a => a ∈ F) G H G2 H2 → TRs C K G2 H2 (v :: vs) (r :: us) F2 → (∀ a ∈ F2, a ∈ F ∨ H a = none) → Q v H2
def tLA (q : Gq) : List LA → TA
  | [] => tNil
  | .e _ e :: r => tCons (tE q e) (tLA q r)
  | .own i :: r => tCons (tVar i) (tLA q r)
def tPr (q : Gq) (ks : List Key) (es : List (Bool × E)) : List (TE × TE) := (ks.zip es).map fun p => (tC (kV p.1), tE q p.2.2)
def fnC : Nat → Nat → Str
  | 0, 0 => "row_rooms"
  | 0, 1 => "slips"
  | 0, 2 => "shut"
  | 0, 3 => "heard_left"
  | 0, _ => "heard_right"
  | 1, 0 => "kept"
  | 1, 1 => "past"
  | 1, 2 => "log"
  | 1, _ => "working"
  | _, _ => "rows"
def tPsA (q : Gq) : List (Bool × E) → TA
  | [] => tNil
  | p :: r => tCons (tE q p.2) (tPsA q r)
def tPl (q : Gq) : Pl → TE
  | .s i => tVar i
  | .f p c k => tFld q.K (tPl q p) (fnC c k)
  | .x p ix => tOp (oIxL.rel q.K) (tPl q p) (tE q ix)
def tMk (q : Gq) (C : Ck) (c : Nat) (f : LF) (t : TA) : TE := match q.da (6 + c) with
  | some A => tMake A (spL C q.K f) [] E0 t
  | none => fun _ _ _ => True
def clM : Nat → Nat → Str
  | 0, 0 => "breathe"
  | 0, 1 => "landing"
  | 0, 2 => "lies"
  | 0, 3 => "standing"
  | 0, 4 => "heard_at"
  | 0, 5 => "rooms"
  | 0, 6 => "is_sealed"
  | 0, 7 => "seal"
  | 0, 8 => "scrape"
  | 0, 9 => "sealed"
  | 0, 10 => "saw"
  | 0, 11 => "twin"
  | 0, _ => "lengthened"
  | 1, 0 => "found"
  | 1, 1 => "become"
  | 1, 2 => "go_back"
  | 1, 3 => "build"
  | 1, 4 => "raze"
  | 1, 5 => "breathe"
  | 1, 6 => "seal"
  | 1, 7 => "scrape"
  | 1, 8 => "saw"
  | 1, 9 => "lengthen"
  | 1, 10 => "undo"
  | 1, 11 => "do"
  | 1, 12 => "deed_done"
  | 1, 13 => "names"
  | 1, 14 => "row_of"
  | 1, 15 => "ins"
  | 1, 16 => "deeds"
  | 1, 17 => "marks"
  | 1, 18 => "is_open"
  | 1, _ => "twin"
  | _, _ => "do"
def tMe (q : Gq) (C : Ck) (c k : Nat) (f : LF) (te : TE) (t : TA) : TE := match q.da (6 + c) with
  | some A => tMeth A (clM c k) (spL C q.K f) [] E0 te t
  | none => fun _ _ _ => True
def tCmp (q : Gq) (cp : Bool) (it : I) (j : Nat) : TE := tLc (tI q it) (gName j) tYes (if cp = true then tCB (rList q.K) (tCons (tVar j) tNil) else tLst tNil) [j]
def tKget (i j l : Nat) : TE := tLockE (tLc (iKeys (tVar i)) (gName l) tYes (tTup (tCons (tVar l) (tCons (tDGet (tVar i) (tVar l)) (tCons (tDGet1 (tVar j) (tVar l)) tNil)))) [l])
mutual
def tLX (q : Gq) (C : Ck) : LB → TE
  | .nd => tDNewK
  | .dct ks es => tDisp (tPr q ks es)
  | .e _ e => tE q e
  | .f _ f => tF q f
  | .l xs => tLst (tLB q C xs)
  | .mk c f es => tMk q C c f (tPsA q es)
  | .cmp cp it j => tCmp q cp it j
  | .kget i j l => tKget i j l
def tLB (q : Gq) (C : Ck) : List LB → TA
  | [] => tNil
  | x :: r => tCons (tLX q C x) (tLB q C r)
end
def tC (q : Gq) (C : Ck) : LC → TE
  | .fn f as => tCall (spL C q.K f) [] E0 (tLA q as)
  | .me c k f i as => tMe q C c k f (tVar i) (tLA q as)
def tX (q : Gq) (C : Ck) : LX → TE
  | .e _ e => tE q e
  | .op o a b => tOp (o.rel q.K) (tX q C a) (tX q C b)
  | .call f as => tCall (spL C q.K f) [] E0 (tLA q as)
  | .callC c => tC q C c
  | .two tup a b => if tup = true then tTup (tCons (tX q C a) (tCons (tX q C b) tNil)) else tLst (tCons (tX q C a) (tCons (tX q C b) tNil))
  | .pop0 p => tBM0 q.K "list" rPop (tPl q p)
  | .pop1 p ix => tBM q.K "list" rPopAt (tPl q p) (tCons (tE q ix) tNil)
def tY (q : Gq) (C : Ck) : LY → TE
  | .x e => tX q C e
  | .c c => tC q C c
def tPars (t : TA) : List Nat → TS
  | [i, j] => tPar i j t
  | [i, j, l] => tPar3 i j l t
  | _ => fun _ _ _ => True
def tL (q : Gq) (C : Ck) : LS → TS
  | .next => tNext
  | .seq a b => tSeq (tL q C a) (tL q C b)
  | .asg _ g e => tAsg (tE q e) (tG q.K g)
  | .newE _ i f => tAsg (tF q f) (gName i)
  | .newL _ i e => tAsg (tCB (rList q.K) (tCons (tE q e) tNil)) (gName i)
  | .app _ i e => tDrop (tBM q.K "list" rAppend (tVar i) (tCons (tE q e) tNil))
  | .setix _ i ix e => tAsg (tE q e) (gSub (tVar i) (tE q ix) rSetL)
  | .rev i => tDrop (tBM0 q.K "list" rReverse (tVar i))
  | .cond c a b => tIfS (tT q c) (tL q C a) (tL q C b)
  | .loop it g b => tFor (tI q it) (tG q.K g) (tL q C b)
  | .ret _ e => tRet (tE q e)
  | .brk => tBreak
  | .cnt => tCont
  | .frz _ s => tL q C s
  | .callM g f as => match g with
    | none => tDrop (tCall (spL C q.K f) [] E0 (tLA q as))
    | some j => tAsg (tCall (spL C q.K f) [] E0 (tLA q as)) (gName j)
  | .parB is b => tPars (tLB q C b) is
  | .newT i b => tAsg (tLX q C b) (gName i)
  | .callC g c => match g with
    | none => tDrop (tC q C c)
    | some j => tAsg (tC q C c) (gName j)
  | .retX x => tRet (tX q C x)
  | .retC c => tRet (tC q C c)
  | .retB b => tRet (tLX q C b)
  | .drpX x => tDrop (tX q C x)
  | .appP p _ e => tDrop (tBM q.K "list" rAppend (tPl q p) (tCons (tE q e) tNil))
  | .insP p jx _ e => tDrop (tBM q.K "list" rIns (tPl q p) (tCons (tE q jx) (tCons (tE q e) tNil)))
  | .setP p _ ix e => tAsg (tE q e) (gSub (tPl q p) (tE q ix) rSetL)
  | .setFd p c k b => sFld q.K (tPl q p) (tLX q C b) (fnC c k)
  | .ali j t p1 p2 _ e => tSeq (tAsg (tIf (tT q t) (tPl q p1) (tPl q p2)) (gName j)) (tDrop (tBM q.K "list" rAppend (tVar j) (tCons (tE q e) tNil)))
  | .parY i j a b => tPar i j (tCons (tY q C a) (tCons (tY q C b) tNil))
  | .parX i j a b => tPar i j (tCons (tX q C a) (tCons (tX q C b) tNil))
  | .asgX g x => tAsg (tX q C x) (tG q.K g)
  | .setk i kx x => sDPut (tVar i) (tE q kx) (tX q C x)
  | .setix2 _ i ix jx e => tAsg (tE q e) (gSub (tOp (oIxL.rel q.K) (tVar i) (tE q ix)) (tE q jx) rSetL)
abbrev Fp (Fs : Nat → List Addr) : Addr → Prop := fun a => ∃ i, a ∈ Fs i
section
variable {q : Gq} {C : Ck} {K : PySem.W.Frag} {ob : Option Bo} {pin : Nat → V} {env : LEn} {Fs : Nat → List Addr} {n : Nat} {σ : L2.St} {G H : Hp}
theorem Rel.refl (s : Sta C K ob pin env Fs n σ G H) : Rel C K ob pin (Fp Fs) G H env Fs n σ G H := ⟨s, .refl s.wd.sub, fun i a h => .inl ⟨i, h⟩⟩
theorem Rel.trans {env1 env2 : LEn} {Fs1 Fs2 : Nat → List Addr} {n1 n2 : Nat} {σ1 σ2 : L2.St} {G1 H1 G2 H2 : Hp} (a : Rel C K ob pin (Fp Fs) G H env1 Fs1 n1 σ1 G1 H1) (b : Rel C K ob pin (Fp Fs1) G1 H1 env2 Fs2 n2 σ2 G2 H2) : Rel C K ob pin (Fp Fs) G H env2 Fs2 n2 σ2 G2 H2 :=
  ⟨b.s, a.x.trans b.x fun c ⟨i, hc⟩ => a.f i c hc, fun i c hc => (b.f i c hc).elim (fun ⟨j, hj⟩ => a.f j c hj) fun z => .inr (a.x.fresh z)⟩
structure DnL (C : Ck) (K : PySem.W.Frag) (ob : Option Bo) (pin : Nat → V) (Fs : Nat → List Addr) (G H : Hp) (Φ : LFl → Nat → Prop) (D : Ends) : Prop where
  nx : ∀ σ' env' Fs' n' G2 H2, Rel C K ob pin (Fp Fs) G H env' Fs' n' σ' G2 H2 → Φ (.nx env') n' → D.nx σ' H2
  rt : ∀ v r Fr σ' env' Fs' n' G2 H2, Rel C K ob pin (Fp Fs) G H env' Fs' n' σ' G2 H2 → TR C K G2 H2 v r Fr → (∀ j a, a ∈ Fr → a ∉ Fs' j) → (∀ a ∈ Fr, ¬ (mS ob).M a) → (∀ a ∈ Fr, Fp Fs a ∨ H a = none) → Φ (.rt r env') n' → D.rt v H2
  bk : ∀ σ' env' Fs' n' G2 H2, Rel C K ob pin (Fp Fs) G H env' Fs' n' σ' G2 H2 → Φ (.bk env') n' → D.bk σ' H2
  ct : ∀ σ' env' Fs' n' G2 H2, Rel C K ob pin (Fp Fs) G H env' Fs' n' σ' G2 H2 → Φ (.ct env') n' → D.ct σ' H2
theorem DnL.at {Φ : LFl → Nat → Prop} {D : Ends} {env1 : LEn} {Fs1 : Nat → List Addr} {n1 : Nat} {σ1 : L2.St} {G1 H1 : Hp} (x : DnL C K ob pin Fs G H Φ D) (r : Rel C K ob pin (Fp Fs) G H env1 Fs1 n1 σ1 G1 H1) : DnL C K ob pin Fs1 G1 H1 Φ D :=
  ⟨fun a b c d e f r2 => x.nx a b c d e f (r.trans r2), fun a y F b c d e f g r2 tr d1 d2 d3 => x.rt a y F b c d e f g (r.trans r2) tr d1 d2 fun b hb => (d3 b hb).elim (fun ⟨j, hj⟩ => r.f j b hj) fun z => .inr (r.x.fresh z), fun a b c d e f r2 => x.bk a b c d e f (r.trans r2), fun a b c d e f r2 => x.ct a b c d e f (r.trans r2)⟩
theorem free_lt {i : Nat} (h : free env i = true) : i < env.length := by
  unfold free at h
  cases e : env[i]? with
  | none => rw [e] at h; cases h
  | some x => exact (List.getElem?_eq_some_iff.mp e).1
theorem putsL_len : ∀ (g : Ts) {env env' : LEn} {ds : List PyData}, putsL g env ds = some env' → ds.length = g.len
  | .nil, _, _, [], _ => rfl
  | .nil, _, _, _ :: _, h => by cases h
  | .cons _ _, _, _, [], h => by cases h
  | .cons t g, env, env', d :: ds, h => by
    obtain ⟨env1, _, h2⟩ := Option.bind_eq_some_iff.mp (show (putL t env d).bind _ = some env' from h)
    exact congrArg Nat.succ (putsL_len g h2)
mutual
theorem lG : ∀ (g : Tt) {env env' : LEn} {d : PyData} {F0 : Addr → Prop} {G0 H0 : Hp} {Fs : Nat → List Addr} {n : Nat} {σ : L2.St} {G H : Hp} {x : V}, putL g env d = some env' → Rel C K ob pin F0 G0 H0 env Fs n σ G H → DD K G x d → ∀ Q : L2.St → Hp → Prop, (∀ σ2 Fs2, Rel C K ob pin F0 G0 H0 env' Fs2 n σ2 G H → Q σ2 H) → tG K g x σ H Q
  | .nm i, env, env', d, F0, G0, H0, Fs, n, σ, G, H, x, h, r, dx, Q, hQ => by
    by_cases c : free env i = true
    · rw [show putL (.nm i) env d = some (env.set i (.tr (.d d))) from if_pos c] at h
      cases h
      exact hQ _ _ (r.setD (free_lt c) dx)
    · rw [show putL (.nm i) env d = none from if_neg c] at h
      cases h
  | .tp ts, env, env', d, F0, G0, H0, Fs, n, σ, G, H, x, h, r, dx, Q, hQ => by
    cases d with
    | tuple ds =>
      cases dx with
      | @tup a xs _ hh tt =>
        obtain ⟨hl, k⟩ := lGs ts (show putsL ts env ds = some env' from h) r tt
        exact .inl ⟨a, xs, rfl, sqm r.s.wd.sub hh, by rw [tt.len]; exact hl, k Q hQ⟩
    | list ds =>
      cases dx with
      | @lst a xs _ hh tt =>
        obtain ⟨hl, k⟩ := lGs ts (show putsL ts env ds = some env' from h) r tt
        exact .inr ⟨a, xs, rfl, .inl (.inl (r.s.wd.sub _ _ hh)), by rw [tt.len]; exact hl, k Q hQ⟩
    | none => cases h
    | bool _ => cases h
    | int _ => cases h
    | str _ => cases h
    | dict _ => cases h
theorem lGs : ∀ (g : Ts) {env env' : LEn} {ds : List PyData} {F0 : Addr → Prop} {G0 H0 : Hp} {Fs : Nat → List Addr} {n : Nat} {σ : L2.St} {G H : Hp} {xs : List V}, putsL g env ds = some env' → Rel C K ob pin F0 G0 H0 env Fs n σ G H → DDs K G xs ds → ds.length = g.len ∧ ∀ Q : L2.St → Hp → Prop, (∀ σ2 Fs2, Rel C K ob pin F0 G0 H0 env' Fs2 n σ2 G H → Q σ2 H) → tGs K g xs σ H Q
  | .nil, env, env', ds, F0, G0, H0, Fs, n, σ, G, H, xs, h, r, dx => by
    cases ds with
    | nil =>
      cases h
      cases dx
      exact ⟨rfl, fun Q hQ => ⟨rfl, hQ σ Fs r⟩⟩
    | cons d ds => cases h
  | .cons t g, env, env', ds, F0, G0, H0, Fs, n, σ, G, H, xs, h, r, dx => by
    cases ds with
    | nil => cases h
    | cons d ds =>
      obtain ⟨env1, h1, h2⟩ := Option.bind_eq_some_iff.mp (show (putL t env d).bind _ = some env' from h)
      cases dx with
      | cons hx ht =>
        refine ⟨?_, fun Q hQ => ⟨_, _, rfl, lG t h1 r hx _ fun σ1 Fs1 r1 => (lGs g h2 r1 ht).2 Q hQ⟩⟩
        exact congrArg Nat.succ (putsL_len g h2)
end
end
end LT
namespace LT
open PySem PySem.Spec PyProof.Rows L2 ZX DL RT DP
section
variable {q : Gq} {C : Ck} {K : PySem.W.Frag} {ob : Option Bo} {pin : Nat → V} {env : LEn} {Fs : Nat → List Addr} {n : Nat} {σ : L2.St} {G H : Hp}
theorem lent_back (hI : ∀ {r : Nat} {G G' H : Hp}, (mS ob).inv r G H → (mS ob).inv r G' H) (s : Sta C K ob pin env Fs n σ G H) {n' : Nat} {G2 H2 : Hp} (m : Mv (mS ob).M (lent Fs G H) H G2 H2) (w : Wd (mS ob) n' G2 H2) :
    ∃ G3, Mv (mS ob).M G H G3 H2 ∧ Sta C K ob pin env Fs n' σ G3 H2 ∧ (∀ b o, G2 b = some o → isT o = false → G3 b = some o) ∧ ∀ b, G2 b = none → G3 b = none := by
  have gl := s.lentG
  have fT : ∀ i, ∀ b ∈ Fs i, ∃ o, G2 b = some o ∧ isT o = true := fun i b hb => by
    obtain ⟨_, o, ho, ht'⟩ := s.foot hb
    exact ⟨o, m.gr b o (by rw [lent_in hb]; exact ho), ht'⟩
  let G3 : Hp := fun b => open Classical in if ∃ i, b ∈ Fs i then none else G2 b
  have g3in : ∀ i b, b ∈ Fs i → G3 b = none := fun i b hb => if_pos ⟨i, hb⟩
  have g3out : ∀ b, (∀ i, b ∉ Fs i) → G3 b = G2 b := fun b hb => if_neg fun ⟨i, z⟩ => hb i z
  have g3sub : ∀ b o, G3 b = some o → G2 b = some o := fun b o e => by
    by_cases c : ∃ i, b ∈ Fs i
    · obtain ⟨i, hi⟩ := c
      rw [g3in i b hi] at e
      cases e
    · rw [g3out b fun i z => c ⟨i, z⟩] at e
      exact e
  have m3 : Mv (mS ob).M G H G3 H2 := by
    refine ⟨fun b o e => ?_, fun b o e => m.sub b o (g3sub b o e), fun b o e => ?_, m.kp, m.dom⟩
    · have nb : ∀ i, b ∉ Fs i := fun i z => by
        rw [(s.foot z).1] at e
        cases e
      rw [g3out b nb]
      exact m.gr b o (gl b o e)
    · by_cases c : ∃ i, b ∈ Fs i
      · obtain ⟨i, hi⟩ := c
        rw [g3in i b hi, (s.foot hi).1]
      · rw [g3out b fun i z => c ⟨i, z⟩, m.old b o e, lent_out fun i z => c ⟨i, z⟩]
  have w3 : Wd (mS ob) n' G3 H2 := ⟨fun b o e => w.sub b o (g3sub b o e), fun b mb => by
    rw [g3out b fun i z => s.nm i b z mb]
    exact w.no b mb, hI w.inv⟩
  refine ⟨G3, m3, s.step m3 w3, fun b o e ht' => ?_, fun b e => ?_⟩
  · have nb : ∀ i, b ∉ Fs i := fun i z => by
      obtain ⟨o', e', t'⟩ := fT i b z
      rw [e] at e'
      cases e'
      rw [ht'] at t'
      cases t'
    rw [g3out b nb]
    exact e
  · cases e3 : G3 b with
    | none => rfl
    | some o =>
      rw [g3sub b o e3] at e
      cases e
theorem lent_wd (hI : ∀ {r : Nat} {G G' H : Hp}, (mS ob).inv r G H → (mS ob).inv r G' H) (s : Sta C K ob pin env Fs n σ G H) : Wd (ows K (mS ob) []) n (lent Fs G H) H := by
  refine ows_nil ⟨fun a o e => ?_, fun a m => ?_, hI s.wd.inv⟩
  · by_cases c : ∃ i, a ∈ Fs i
    · obtain ⟨i, hi⟩ := c
      rw [lent_in hi] at e
      exact e
    · rw [lent_out fun i z => c ⟨i, z⟩] at e
      exact s.wd.sub a o e
  · rw [lent_out fun i z => s.nm i a z m]
    exact s.wd.no a m
variable (hD : HD q.K q.w q.da) (hB : HB q ob) (hA : q.any = true)
include hD hB hA
theorem lE (bw : Bool) (e : E) (s : Sta C q.K ob pin env Fs n σ G H) {Φ : PyData → Nat → Prop} (ht : (evEb bw e env).ok n Φ) {Q : VK} (hQ : ∀ v x n' G2 H2, Mv (mS ob).M G H G2 H2 → Sta C q.K ob pin env Fs n' σ G2 H2 → DD q.K G2 v x → Φ x n' → Q v H2) : tE q e σ H Q := by
  cases bw with
  | false => exact emb0 (sE hD hB e _) s (show (evE e (env.map (toB false))).ok n Φ from ht) hQ
  | true =>
    refine embB (hB.any hA) (sE hD hB e _) s (Dr.ok_bind.mp (show ((evE e (env.map (toB true))).bind _).ok n Φ from ht)) (fun a n' G2 G3 v h r k => ?_) fun v a n' G2 H2 m s2 r h => ?_
    · by_cases c : clean a = true
      · exact DD.shrink k r c
      · rw [if_neg c] at h
        exact h.elim
    · by_cases c : clean a = true
      · rw [if_pos c] at h
        exact hQ v a n' G2 H2 m s2 r h
      · rw [if_neg c] at h
        exact h.elim
theorem lT (c : T) (s : Sta C q.K ob pin env Fs n σ G H) {Φ : Bool → Nat → Prop} (ht : (evT c (env.map (toB true))).ok n Φ) {Q : Bool → Hp → Prop} (hQ : ∀ x n' G2 H2, Mv (mS ob).M G H G2 H2 → Sta C q.K ob pin env Fs n' σ G2 H2 → Φ x n' → Q x H2) : tT q c σ H Q :=
  embB (hB.any hA) (sT hD hB c _) s ht (fun a n' G2 G3 v h r k => r) fun v a n' G2 H2 m s2 r h => by
    cases r
    exact hQ _ n' G2 H2 m s2 h
theorem lI (it : I) (s : Sta C q.K ob pin env Fs n σ G H) {Φ : List PyData → Nat → Prop} (ht : (evI it (env.map (toB false))).ok n Φ) {Q : It → Hp → Prop} (hQ : ∀ J x n' G2 H2, Mv (mS ob).M G H G2 H2 → Sta C q.K ob pin env Fs n' σ G2 H2 → Wk q.K G2 J x → Φ x n' → Q J H2) : tI q it σ H Q :=
  emb0 (sI hD hB it _) s ht hQ
theorem lF (bw : Bool) (f : FE) (s : Sta C q.K ob pin env Fs n σ G H) {Φ : List PyData → Nat → Prop} (ht : (evFb bw f env).ok n Φ) {Q : VK}
    (hQ : ∀ l xs ds n' G2 H2, Mv (mS ob).M G H G2 H2 → Sta C q.K ob pin env Fs n' σ G2 H2 → H l = none → G2 l = none → H2 l = some (.lst xs) → DDs q.K G2 xs ds → Φ ds n' → Q (.ref l) H2) : tF q f σ H Q := by
  cases bw with
  | false => exact sF hD hB f _ _ [] n Φ (dlt_rp s false) (show (evF f (env.map (toB false))).ok n Φ from ht) σ G H (dlt_sl s false (fun _ _ e => e) fun z => Bool.noConfusion z) (ows_nil s.wd) Q fun l xs ds n' G2 H2 m w a b c d k => hQ l xs ds n' G2 H2 m (s.step m (wd_pure w)) a b c d k
  | true =>
    refine sF hD hB f _ _ [] n _ (dlt_rp s true) (Dr.ok_bind.mp (show ((evF f (env.map (toB true))).bind _).ok n Φ from ht)) σ _ H (dlt_sl s true s.lentG fun _ i a ha => lent_in ha) (lent_wd (hB.any hA) s) Q fun l xs ds n' G2 H2 m w a b c d k => ?_
    by_cases cl : cleans ds = true
    · rw [if_pos cl] at k
      obtain ⟨G3, m3, s3, k1, k2⟩ := lent_back (hB.any hA) s m (wd_pure w)
      exact hQ l xs ds n' G3 H2 m3 s3 a (k2 l b) c (DDs.shrink k1 d cl) k
    · rw [if_neg cl] at k
      exact k.elim
end
section
variable {C : Ck} {K : PySem.W.Frag} {ob : Option Bo} {pin : Nat → V} {env : LEn} {Fs : Nat → List Addr} {n : Nat} {σ : L2.St} {G H : Hp}
theorem TRs.snocD : ∀ {vs : List V} {ts : List Tr} {F : List Addr} {v : V} {x : PyData}, TRs C K G H vs ts F → DD K G v x → TRs C K G H (vs ++ [v]) (ts ++ [.d x]) F
  | _, _, _, _, _, .nil, h => TRs.cons (F := []) (F' := []) (.d h) .nil fun a z => nomatch z
  | _, _, _, _, _, .cons h r dj, d => .cons h (TRs.snocD r d) dj
theorem TRs.setD : ∀ {vs : List V} {ts : List Tr} {F : List Addr} {v : V} {x : PyData} (m : Nat), TRs C K G H vs ts F → DD K G v x → isD (ts.getD m (.lst [])) = true → TRs C K G H (vs.set m v) (ts.set m (.d x)) F
  | _, _, _, _, _, _, .nil, _, h => by simp [isD] at h
  | _, _, _, _, _, 0, .cons (t := t) h r dj, d, e => by
    cases t with
    | d y =>
      cases h with
      | d h => exact TRs.cons (F := []) (.d d) r fun a z => nomatch z
    | lst _ => simp [isD] at e
    | dct _ _ => simp [isD] at e
    | ins _ _ => simp [isD] at e
  | _, _, _, _, _, m + 1, .cons h r dj, d, e => .cons h (TRs.setD m r d (by simpa using e)) dj
theorem TRs.allD : ∀ {vs : List V} {ts : List Tr} {F : List Addr}, TRs C K G H vs ts F → ts.all isD = true → ∃ ds, ts = ds.map .d ∧ DDs K G vs ds ∧ F = []
  | _, _, _, .nil, _ => ⟨[], rfl, .nil, rfl⟩
  | _, _, _, .cons (t := t) h r dj, e => by
    rw [List.all_cons, Bool.and_eq_true] at e
    obtain ⟨ds, e1, e2, e3⟩ := TRs.allD r e.2
    subst e1 e3
    cases t with
    | d y =>
      cases h with
      | d h => exact ⟨y :: ds, rfl, .cons h e2, rfl⟩
    | lst _ => simp [isD] at e
    | dct _ _ => simp [isD] at e
    | ins _ _ => simp [isD] at e
theorem atI_ix {α : Type} {xs : List α} {j : Int} {m : Nat} (h : ixN xs.length j = some m) : atI xs j = xs[m]? := by
  unfold atI
  rw [h]
  rfl
theorem TRs.inner : ∀ {vs : List V} {ts us : List Tr} {F : List Addr} (k : Nat), TRs C K G H vs ts F → ts[k]? = some (.lst us) → ∃ a ys F', vs[k]? = some (.ref a) ∧ H a = some (.lst ys) ∧ G a = none ∧ TRs C K G H ys us F' ∧ a ∈ F ∧
    ∀ ys' us', TRs C K G H ys' us' F' → TRs C K G (upd H a (.lst ys')) vs (ts.set k (.lst us')) F
  | _, _, _, _, _, .nil, h => by simp at h
  | _, _, us, _, 0, .cons (t := t0) (F := F1) (F' := F2) h r dj, e => by
    have e' : t0 = Tr.lst us := by simpa using e
    subst e'
    cases h with
    | @lst a xs _ F' h g t n =>
      refine ⟨a, xs, F', rfl, h, g, t, List.mem_append_left _ (List.mem_cons_self ..), fun ys' us' t' => ?_⟩
      refine TRs.cons (F := a :: F') (.lst upd_same g (t'.keep (fun _ _ e => e) fun b hb => ⟨upd_ne fun z => n (by rw [← z]; exact hb), (t'.foot b hb).1⟩) n) (r.keep (fun _ _ e => e) fun b hb => ⟨upd_ne fun z => dj a (List.mem_cons_self ..) (by rw [← z]; exact hb), (r.foot b hb).1⟩) dj
  | _, _, us, _, k + 1, .cons (F := F1) (F' := F2) h r dj, e => by
    obtain ⟨a, ys, F', q1, q2, q3, q4, q5, q6⟩ := TRs.inner k r (by simpa using e)
    refine ⟨a, ys, F', by simpa using q1, q2, q3, q4, List.mem_append_right _ q5, fun ys' us' t' => ?_⟩
    exact .cons (h.keep (fun _ _ e => e) fun b hb => ⟨upd_ne fun z => dj b hb (by rw [z]; exact q5), (h.foot b hb).1⟩) (q6 ys' us' t') dj
theorem lst_ok {i : Nat} {ts : List Tr} (h : lstAt env i = .ret ts) : ∃ e, env[i]? = some e ∧ e.tree = some (.lst ts) ∧ ∀ t, withAt env i t = env.set i (e.wth t) := by
  unfold lstAt at h
  cases e : env[i]? with
  | none => rw [e] at h; cases h
  | some u =>
    rw [e] at h
    have hw : ∀ t, withAt env i t = env.set i (u.wth t) := fun t => by unfold withAt; rw [e]
    cases u with
    | unk => cases h
    | bx => cases h
    | tr t =>
      cases t with
      | lst us =>
        cases h
        exact ⟨_, rfl, rfl, hw⟩
      | d _ => cases h
      | dct _ _ => cases h
      | ins _ _ => cases h
    | pn t =>
      cases t with
      | lst us =>
        cases h
        exact ⟨_, rfl, rfl, hw⟩
      | d _ => cases h
      | dct _ _ => cases h
      | ins _ _ => cases h
theorem ok_lst {i : Nat} {n : Nat} {Φ : List Tr → Nat → Prop} (h : (lstAt env i).ok n Φ) : ∃ ts, lstAt env i = .ret ts ∧ Φ ts n := by
  cases e : lstAt env i with
  | ret ts => rw [e] at h; exact ⟨ts, rfl, h⟩
  | bad => rw [e] at h; exact h.elim
  | draw m k =>
    unfold lstAt at e
    split at e <;> cases e
theorem mv_lay {M : Addr → Prop} {p : Addr} {o : HO} (hs : ∀ a o, G a = some o → H a = some o) (np : H p = none) : Mv M G H G (upd H p o) :=
  ⟨fun _ _ e => e, fun b w e => by rw [upd_ne (ne_of_none (hs b w e) np)]; exact hs b w e, fun _ _ _ => rfl, fun b w e _ => by rw [upd_ne (ne_of_none e np)]; exact e, fun b w e => ⟨w, by rw [upd_ne (ne_of_none e np)]; exact e⟩⟩
theorem wd_lay {S : MS} {p : Addr} {o : HO} (w : Wd S n G H) (np : H p = none) : Wd S n G (upd H p o) :=
  ⟨fun b u e => by rw [upd_ne (ne_of_none (w.sub b u e) np)]; exact w.sub b u e, w.no, S.fr w.inv (fun _ _ e => e) fun b u _ e => by rw [upd_ne (ne_of_none e np)]; exact e⟩
theorem not_M {S : MS} {p : Addr} (w : Wd S n G H) (np : H p = none) : ¬ S.M p := fun m => by
  obtain ⟨o, e⟩ := S.dom w.inv m
  rw [np] at e
  cases e
theorem Rel.frz (s : Sta C K ob pin env Fs n σ G H) (hI : ∀ {r : Nat} {G G' H : Hp}, (mS ob).inv r G H → (mS ob).inv r G' H) {i : Nat} {t : Tr} {x : PyData} (he : env[i]? = some (.tr t)) (hx : rd t = some x) :
    ∃ G', Rel C K ob pin (Fp Fs) G H (env.set i (.tr (.d x))) (updF Fs i []) n σ G' H := by
  have hi : i < env.length := (List.getElem?_eq_some_iff.mp he).1
  obtain ⟨v, hv, tr⟩ := s.tr i t he
  let G' : Hp := fun a => open Classical in if a ∈ Fs i then H a else G a
  have gin : ∀ a, a ∈ Fs i → G' a = H a := fun a ha => if_pos ha
  have gout : ∀ a, a ∉ Fs i → G' a = G a := fun a ha => if_neg ha
  have gr : ∀ a o, G a = some o → G' a = some o := fun a o e => by
    rw [gout a fun z => by rw [(s.foot z).1] at e; cases e]
    exact e
  have sub : ∀ a o, G' a = some o → H a = some o := fun a o e => by
    by_cases c : a ∈ Fs i
    · rw [gin a c] at e
      exact e
    · rw [gout a c] at e
      exact s.wd.sub a o e
  have dv : DD K G' v x := tr.read gr gin hx
  have kf : ∀ j, j ≠ i → ∀ b ∈ Fs j, H b = H b ∧ G' b = none := fun j ne b hb => ⟨rfl, by rw [gout b fun z => s.dj i j b ne.symm z hb]; exact (s.foot hb).1⟩
  refine ⟨G', ⟨?_, fun j u e2 => ?_, fun j u e2 => ?_, fun j e2 => ?_, fun j e2 => ?_, dj_upd s.dj (fun _ _ _ z => nomatch z), fun j b hb => ?_, ?_⟩, ⟨gr, sub, fun a o e nf => gout a fun z => nf ⟨i, z⟩, fun a o e _ _ => e, fun a o e => ⟨o, e⟩⟩, f_upd (fun j a h => .inl ⟨j, h⟩) fun _ z => nomatch z⟩
  · rw [List.length_set]
    exact s.len
  · rcases setE_of e2 with ⟨rfl, e3, _⟩ | ⟨ne, e3⟩
    · cases e3
      rw [updF_at]
      exact ⟨v, hv, .d dv⟩
    · rw [updF_ne ne]
      obtain ⟨w, a, b⟩ := s.tr j u e3
      exact ⟨w, a, b.keep gr (kf j ne)⟩
  · rcases setE_of e2 with ⟨rfl, e3, _⟩ | ⟨ne, e3⟩
    · cases e3
    · rw [updF_ne ne]
      obtain ⟨a, b⟩ := s.pn j u e3
      exact ⟨a, b.keep gr (kf j ne)⟩
  · rcases setE_of e2 with ⟨rfl, e3, _⟩ | ⟨ne, e3⟩
    · cases e3
    · exact s.bx j e3
  · by_cases c : j = i
    · subst c
      rw [List.getElem?_set_self hi] at e2
      cases e2
    · rw [updF_ne c]
      rw [List.getElem?_set_ne (Ne.symm c)] at e2
      exact s.un j e2
  · by_cases c : j = i
    · subst c
      rw [updF_at] at hb
      cases hb
    · rw [updF_ne c] at hb
      exact s.nm j b hb
  · exact ⟨sub, fun a m => by rw [gout a fun z => s.nm i a z m]; exact s.wd.no a m, hI s.wd.inv⟩
theorem undT_eq : ∀ {ts : List Tr} {ds : List PyData}, undT ts = some ds → ts = ds.map .d ∧ ts.all isD = true
  | [], ds, h => by
    cases (show some [] = some ds from h)
    exact ⟨rfl, rfl⟩
  | .d x :: r, ds, h => by
    obtain ⟨es, h1, rfl⟩ := Option.map_eq_some_iff.mp (show (undT r).map (x :: ·) = some ds from h)
    obtain ⟨e1, e2⟩ := undT_eq h1
    exact ⟨by rw [e1]; rfl, by rw [List.all_cons, e2]; rfl⟩
  | .lst _ :: _, _, h => by cases h
  | .dct _ _ :: _, _, h => by cases h
  | .ins _ _ :: _, _, h => by cases h
theorem dctAt_ok {env : LEn} {i n : Nat} {Φ : List Key × List PyData → Nat → Prop} (h : (dctAt env i).ok n Φ) : ∃ ks ds u, env[i]? = some u ∧ u.tree = some (.dct ks (ds.map .d)) ∧ (∀ t, withAt env i t = env.set i (u.wth t)) ∧ Φ (ks, ds) n := by
  unfold dctAt at h
  split at h
  · rename_i ks ts e
    obtain ⟨u, e1, e2⟩ := Option.bind_eq_some_iff.mp e
    obtain ⟨ds, ed, k⟩ := Dr.ok_opt (Dr.ok_bind.mp h)
    obtain ⟨rfl, _⟩ := undT_eq ed
    exact ⟨ks, ds, u, e1, e2, fun t => by unfold withAt; rw [e1], k⟩
  · exact h.elim
theorem all_isD (ds : List PyData) : (ds.map Tr.d).all isD = true := by simp [isD]
theorem dd_zip {ks : List Key} {k : Key} {x : PyData} {v : V} (hv : DD K G v x) : ∀ {kvs : List (Key × V)} {ds : List PyData}, DDs K G (kvs.map (·.2)) ds → DDs K G ((kvs.map fun kv => if kv.1 = k then (kv.1, v) else kv).map (·.2)) (((kvs.map (·.1)).zip ds).map fun p => if p.1 = k then x else p.2)
  | [], [], .nil => .nil
  | p :: r, d :: ds, .cons a t => by
    refine DDs.cons ?_ (dd_zip (ks := ks) hv t)
    show DD K G (if p.1 = k then (p.1, v) else p).2 (if p.1 = k then x else d)
    by_cases c : p.1 = k
    · rw [if_pos c, if_pos c]
      exact hv
    · rw [if_neg c, if_neg c]
      exact a
theorem put_ds {kvs : List (Key × V)} {ds : List PyData} {k : Key} {x : PyData} {v : V} (hv : DD K G v x) (t : DDs K G (kvs.map (·.2)) ds) :
    (putK kvs k v).map (·.1) = (putDs (kvs.map (·.1)) ds k x).1 ∧ DDs K G ((putK kvs k v).map (·.2)) (putDs (kvs.map (·.1)) ds k x).2 := by
  have e : (kvs.map (·.1)).any (fun j => decide (j = k)) = kvs.any fun kv => decide (kv.1 = k) := by rw [List.any_map]; rfl
  unfold putK putDs
  rw [e]
  by_cases c : (kvs.any fun kv => decide (kv.1 = k)) = true
  · rw [if_pos c, if_pos c]
    refine ⟨?_, dd_zip (ks := []) hv t⟩
    rw [List.map_map]
    refine List.map_congr_left fun p _ => ?_
    show (if p.1 = k then (p.1, v) else p).1 = p.1
    by_cases c : p.1 = k
    · rw [if_pos c]
    · rw [if_neg c]
  · rw [if_neg c, if_neg c]
    refine ⟨by rw [List.map_append]; rfl, ?_⟩
    rw [List.map_append]
    exact DP.DDs.app t (.cons hv .nil)
theorem ky_val {d : PyData} {k : Key} {v : V} (hv : DD K G v d) (h : kyOf d = some k) : v = kV k := by
  cases hv with
  | int i => cases h; rfl
  | str z => cases h; rfl
  | non => cases h
  | bl _ => cases h
  | lst _ _ => cases h
  | tup _ _ => cases h
  | obj _ _ _ => cases h
  | dct _ _ _ h1 _ _ => subst h1; cases h
theorem merge_nd : ∀ (more acc : List (Key × V)), ((acc ++ more).map (·.1)).Nodup → mergeK acc more = acc ++ more
  | [], acc, _ => by rw [List.append_nil]; rfl
  | p :: r, acc, h => by
    have hn : (acc.any fun kv => decide (kv.1 = p.1)) = false := by
      rw [List.any_eq_false]
      intro x hx
      simp only [decide_eq_true_eq]
      intro e
      rw [List.map_append, List.map_cons] at h
      exact (List.nodup_append.mp h).2.2 x.1 (List.mem_map_of_mem hx) p.1 (List.mem_cons_self ..) e
    have e : putK acc p.1 p.2 = acc ++ [p] := by
      unfold putK
      rw [if_neg (by rw [hn]; exact Bool.false_ne_true)]
    show mergeK (putK acc p.1 p.2) r = _
    rw [e, merge_nd r (acc ++ [p]) (by rw [List.append_assoc]; exact h), List.append_assoc]
    rfl
end
end LT
namespace LT
open PySem PySem.Spec PyProof.Rows L2 ZX DL RT DP
inductive ArgR (K : PySem.W.Frag) (G : Hp) (env : LEn) (σ : L2.St) : List LA → List V → List Tr → Prop
  | nil : ArgR K G env σ [] [] []
  | e {bw : Bool} {e : E} {r : List LA} {v : V} {vs : List V} {x : PyData} {ts : List Tr} (h : DD K G v x) (t : ArgR K G env σ r vs ts) : ArgR K G env σ (.e bw e :: r) (v :: vs) (.d x :: ts)
  | own {i : Nat} {r : List LA} {v : V} {vs : List V} {t : Tr} {ts : List Tr} {u : LSl} (hv : σ[i]? = some (some v)) (he : env[i]? = some u) (hu : u.tree = some t) (hd : isD t = false) (tl : ArgR K G env σ r vs ts) : ArgR K G env σ (.own i :: r) (v :: vs) (t :: ts)
section
variable {C : Ck} {K : PySem.W.Frag} {ob : Option Bo} {pin : Nat → V} {env : LEn} {Fs : Nat → List Addr} {n : Nat} {σ : L2.St} {G H G' : Hp}
theorem ArgR.mono (h : ∀ a o, G a = some o → G' a = some o) : ∀ {as : List LA} {vs : List V} {ts : List Tr}, ArgR K G env σ as vs ts → ArgR K G' env σ as vs ts
  | _, _, _, .nil => .nil
  | _, _, _, .e d t => .e (d.mono h) (ArgR.mono h t)
  | _, _, _, .own a b c d t => .own a b c d (ArgR.mono h t)
theorem ArgR.trees (s : Sta C K ob pin env Fs n σ G H) : ∀ {as : List LA} {vs : List V} {ts : List Tr}, ArgR K G env σ as vs ts → (ownIx as).Nodup → ∃ F, TRs C K G H vs ts F ∧ (∀ a ∈ F, ∃ i ∈ ownIx as, a ∈ Fs i) ∧ (∀ i ∈ ownIx as, ∀ a ∈ Fs i, a ∈ F)
  | _, _, _, .nil, _ => ⟨[], .nil, fun a z => (nomatch z), fun i z => (nomatch z)⟩
  | _, _, _, .e d t, h => by
    obtain ⟨F, a, b, c⟩ := ArgR.trees s t h
    exact ⟨F, TRs.cons (F := []) (.d d) a (fun a z => nomatch z), b, c⟩
  | .own i :: r, v :: vs, t :: ts, .own hv he hu hd tl, h => by
    obtain ⟨h1, h2⟩ := List.nodup_cons.mp (show (i :: ownIx r).Nodup from h)
    obtain ⟨F, a, b, c⟩ := ArgR.trees s tl h2
    obtain ⟨w, hw, tr⟩ := s.at he hu
    rw [hv] at hw
    cases hw
    refine ⟨Fs i ++ F, .cons tr a fun x hx hf => ?_, fun x hx => ?_, fun j hj x hx => ?_⟩
    · obtain ⟨j, hj, hx2⟩ := b x hf
      exact s.dj i j x (fun z => h1 (by rw [z]; exact hj)) hx hx2
    · rcases List.mem_append.mp hx with hx | hx
      · exact ⟨i, List.mem_cons_self .., hx⟩
      · obtain ⟨j, hj, e⟩ := b x hx
        exact ⟨j, List.mem_cons_of_mem _ hj, e⟩
    · rcases List.mem_cons.mp (show j ∈ i :: ownIx r from hj) with rfl | hj
      · exact List.mem_append_left _ hx
      · exact List.mem_append_right _ (c j hj x hx)
theorem Sta.unk (s : Sta C K ob pin env Fs n σ G H) (i : Nat) : Sta C K ob pin (env.set i .unk) (updF Fs i []) n σ G H := by
  refine ⟨by rw [List.length_set]; exact s.len, fun j u e => ?_, fun j u e => ?_, fun j e => ?_, fun j e => ?_, dj_upd s.dj (fun _ _ _ z => nomatch z), fun j a ha => ?_, s.wd⟩
  · rcases setE_of e with ⟨rfl, e2, _⟩ | ⟨ne, e2⟩
    · cases e2
    · rw [updF_ne ne]
      exact s.tr j u e2
  · rcases setE_of e with ⟨rfl, e2, _⟩ | ⟨ne, e2⟩
    · cases e2
    · rw [updF_ne ne]
      exact s.pn j u e2
  · rcases setE_of e with ⟨rfl, e2, _⟩ | ⟨ne, e2⟩
    · cases e2
    · exact s.bx j e2
  · by_cases c : j = i
    · rw [c, updF_at]
    · rw [updF_ne c]
      rw [List.getElem?_set_ne (Ne.symm c)] at e
      exact s.un j e
  · by_cases c : j = i
    · subst c
      rw [updF_at] at ha
      cases ha
    · rw [updF_ne c] at ha
      exact s.nm j a ha
def clr : List Nat → LEn → LEn
  | [], e => e
  | j :: js, e => (clr js e).set j .unk
def clrF : List Nat → (Nat → List Addr) → Nat → List Addr
  | [], Fs => Fs
  | j :: js, Fs => updF (clrF js Fs) j []
theorem Sta.clr (s : Sta C K ob pin env Fs n σ G H) : ∀ js, Sta C K ob pin (clr js env) (clrF js Fs) n σ G H
  | [] => s
  | j :: js => (Sta.clr s js).unk j
theorem clr_len : ∀ (js : List Nat) (e : LEn), (LT.clr js e).length = e.length
  | [], _ => rfl
  | j :: js, e => by rw [LT.clr, List.length_set, clr_len js e]
theorem clrF_sub : ∀ (js : List Nat) {i : Nat} {a : Addr}, a ∈ clrF js Fs i → a ∈ Fs i ∧ i ∉ js
  | [], i, a, h => ⟨h, fun z => nomatch z⟩
  | j :: js, i, a, h => by
    by_cases c : i = j
    · subst c
      rw [show clrF (i :: js) Fs i = [] from updF_at] at h
      cases h
    · rw [show clrF (j :: js) Fs i = clrF js Fs i from updF_ne c] at h
      obtain ⟨h1, h2⟩ := clrF_sub js h
      exact ⟨h1, fun z => (List.mem_cons.mp z).elim c h2⟩
theorem clr_set {x : LSl} {i : Nat} : ∀ (js : List Nat) (e : LEn), i ∉ js → LT.clr js (e.set i x) = (LT.clr js e).set i x
  | [], e, _ => rfl
  | j :: js, e, h => by
    have h1 : i ≠ j := fun z => h (by rw [z]; exact List.mem_cons_self ..)
    rw [LT.clr, LT.clr, clr_set js e fun z => h (List.mem_cons_of_mem _ z), List.set_comm _ _ h1]
theorem Sta.over (s : Sta C K ob pin env Fs n σ G H) (hI : ∀ {r : Nat} {G G' H : Hp}, (mS ob).inv r G H → (mS ob).inv r G' H) {F : List Addr} {G2 H2 : Hp} (x : Fx (fun _ => False) (fun a => a ∈ F) G H G2 H2) (hF : ∀ i, ∀ a ∈ Fs i, a ∉ F) (hM : ∀ a ∈ F, ¬ (mS ob).M a) : Sta C K ob pin env Fs n σ G2 H2 := by
  have k : ∀ i, ∀ a ∈ Fs i, H2 a = H a ∧ G2 a = none := fun i a ha => by
    obtain ⟨g, o, ho, _⟩ := s.foot ha
    exact ⟨by rw [x.kp a o ho (hF i a ha) (fun z => z), ho], by rw [x.old a o ho (hF i a ha), g]⟩
  refine ⟨s.len, fun i t h => (s.tr i t h).imp fun v ⟨a, b⟩ => ⟨a, b.keep x.gr (k i)⟩, fun i t h => ⟨(s.pn i t h).1, (s.pn i t h).2.keep x.gr (k i)⟩, s.bx, s.un, s.dj, s.nm, x.sub, fun a m => ?_, hI ((mS ob).fr s.wd.inv x.gr fun a o m e => x.kp a o e (fun z => hM a z m) fun z => z)⟩
  obtain ⟨o, e⟩ := (mS ob).dom s.wd.inv m
  rw [x.old a o e fun z => hM a z m]
  exact s.wd.no a m
theorem Sta.fill {i : Nat} {e : LSl} {u : Tr} {v : V} {F : List Addr} (s : Sta C K ob pin (env.set i .unk) Fs n σ G H) (hi : i < env.length) (hv : σ[i]? = some (some v)) (hp : e.isPn = true → v = pin i) (ht : (e.tree).isSome = true) (h : TR C K G H v u F) (dj : ∀ j a, a ∈ F → a ∉ Fs j) (nm : ∀ a ∈ F, ¬ (mS ob).M a) :
    Sta C K ob pin (env.set i (e.wth u)) (updF Fs i F) n σ G H := by
  have nx : ∀ {j : Nat} {y : LSl}, j ≠ i → (env.set i (e.wth u))[j]? = some y → (env.set i .unk)[j]? = some y := fun ne h => by
    rw [List.getElem?_set_ne (Ne.symm ne)] at h ⊢
    exact h
  refine ⟨by rw [List.length_set]; have := s.len; rw [List.length_set] at this; exact this, fun j w e2 => ?_, fun j w e2 => ?_, fun j e2 => ?_, fun j e2 => ?_, dj_upd s.dj (fun j a _ ha => dj j a ha), fun j a ha => ?_, s.wd⟩
  · by_cases c : j = i
    · subst c
      rw [List.getElem?_set_self hi] at e2
      rw [updF_at]
      cases e <;> cases e2
      all_goals exact ⟨v, hv, h⟩
    · rw [updF_ne c]
      exact s.tr j w (nx c e2)
  · by_cases c : j = i
    · subst c
      rw [List.getElem?_set_self hi] at e2
      rw [updF_at]
      cases e with
      | pn y =>
        cases e2
        have := hp rfl
        subst this
        exact ⟨hv, h⟩
      | tr y => cases e2
      | unk => cases e2
      | bx => cases e2
    · rw [updF_ne c]
      exact s.pn j w (nx c e2)
  · by_cases c : j = i
    · subst c
      rw [List.getElem?_set_self hi] at e2
      cases e <;> cases e2
    · exact s.bx j (nx c e2)
  · by_cases c : j = i
    · subst c
      rw [List.getElem?_set_self hi] at e2
      cases e <;> cases e2
    · rw [updF_ne c]
      refine s.un j ?_
      rw [List.getElem?_set_ne (Ne.symm c)] at e2 ⊢
      exact e2
  · by_cases c : j = i
    · subst c
      rw [updF_at] at ha
      exact nm a ha
    · rw [updF_ne c] at ha
      exact s.nm j a ha
theorem backs_ok (env0 : LEn) (hk : ∀ (i : Nat) (u : LSl) (v : V), env0[i]? = some u → u.isPn = true → σ[i]? = some (some v) → v = pin i) : ∀ (as : List LA) {vs : List V} {ts us : List Tr} {Fu : List Addr} {envk env' : LEn} {Fk : Nat → List Addr}, ArgR K G' env0 σ as vs ts → (ownIx as).Nodup → (∀ i ∈ ownIx as, envk[i]? = env0[i]?) → Sta C K ob pin (LT.clr (ownIx as) envk) Fk n σ G H → TRs C K G H vs us Fu → (∀ a ∈ Fu, ∀ j, a ∉ Fk j) → (∀ a ∈ Fu, ¬ (mS ob).M a) → backs as us envk = some env' → ∃ Fs', Sta C K ob pin env' Fs' n σ G H ∧ ∀ j a, a ∈ Fs' j → a ∈ Fk j ∨ a ∈ Fu
  | [], _, _, _, _, envk, env', Fk, .nil, _, _, s, .nil, _, _, h => by
    cases h
    exact ⟨Fk, s, fun j a z => .inl z⟩
  | .e bw e :: r, _, _, _, _, envk, env', Fk, .e hd tl, nd, he, s, .cons (t := u) (ts := us) (F := F1) (F' := F2) hu tr dj, hf, hm, h => by
    obtain ⟨Fs', s', k⟩ := backs_ok env0 hk r tl nd he s tr (fun a ha => hf a (List.mem_append_right _ ha)) (fun a ha => hm a (List.mem_append_right _ ha)) h
    exact ⟨Fs', s', fun j a z => (k j a z).imp id fun w => List.mem_append_right _ w⟩
  | .own i :: r, v :: _, _, _, _, envk, env', Fk, .own (u := u0) hv hE hu0 hd tl, nd, he, s, .cons (t := u) (ts := us) (F := F1) (F' := F2) hu tr dj, hf, hm, h => by
    obtain ⟨n1, n2⟩ := List.nodup_cons.mp (show (i :: ownIx r).Nodup from nd)
    have ei := he i (List.mem_cons_self ..)
    rw [hE] at ei
    have hi : i < envk.length := (List.getElem?_eq_some_iff.mp ei).1
    have hw : withAt envk i u = envk.set i (u0.wth u) := by
      unfold withAt
      rw [ei]
    have s2 := Sta.fill (env := LT.clr (ownIx r) envk) (i := i) (u := u) (v := v) (F := F1) s (by rw [clr_len]; exact hi) hv (fun z => hk i _ v hE z hv) (by rw [hu0]; rfl) hu (fun j a ha => hf a (List.mem_append_left _ ha) j) (fun a ha => hm a (List.mem_append_left _ ha))
    rw [← clr_set _ _ n1] at s2
    obtain ⟨Fs', s', k⟩ := backs_ok env0 hk r tl n2 (fun j hj => by
      rw [hw, List.getElem?_set_ne (fun z => n1 (by rw [z]; exact hj))]
      exact he j (List.mem_cons_of_mem _ hj)) (by rw [hw]; exact s2) tr (fun a ha j => by
      by_cases c : j = i
      · rw [c, updF_at]
        exact fun z => dj a z ha
      · rw [updF_ne c]
        exact hf a (List.mem_append_right _ ha) j) (fun a ha => hm a (List.mem_append_right _ ha)) h
    refine ⟨Fs', s', fun j a z => ?_⟩
    rcases k j a z with w | w
    · by_cases c : j = i
      · rw [c, updF_at] at w
        exact .inr (List.mem_append_left _ w)
      · rw [updF_ne c] at w
        exact .inl w
    · exact .inr (List.mem_append_right _ w)
end
theorem owAt_ok {env : LEn} {i n : Nat} {Φ : Tr → Nat → Prop} (h : (owAt env i).ok n Φ) : ∃ t u, env[i]? = some u ∧ u.tree = some t ∧ isD t = false ∧ Φ t n := by
  unfold owAt at h
  cases e : env[i]?.bind LSl.tree with
  | none => rw [e] at h; exact h.elim
  | some t =>
    rw [e] at h
    replace h : (if isD t = true then Dr.bad else .ret t).ok n Φ := h
    obtain ⟨u, e1, e2⟩ := Option.bind_eq_some_iff.mp e
    by_cases c : isD t = true
    · rw [if_pos c] at h
      exact h.elim
    · rw [if_neg c] at h
      exact ⟨t, u, e1, e2, by simpa using c, h⟩
theorem trAt_ok {env : LEn} {i n : Nat} {Φ : Tr → Nat → Prop} (h : (trAt env i).ok n Φ) : ∃ t, env[i]? = some (.tr t) ∧ Φ t n := by
  unfold trAt at h
  split at h
  · rename_i t e
    exact ⟨t, e, h⟩
  · exact h.elim
section
variable {q : Gq} {C : Ck} {ob : Option Bo} {pin : Nat → V} {env : LEn} {Fs : Nat → List Addr} {n : Nat} {σ : L2.St} {G H : Hp}
variable (hD : HD q.K q.w q.da) (hB : HB q ob) (hA : q.any = true)
include hD hB hA
theorem lAs : ∀ (as : List LA) {n : Nat} {G H : Hp} (s : Sta C q.K ob pin env Fs n σ G H) {Φ : List Tr → Nat → Prop} (ht : (evLA as env).ok n Φ) {Q : List V → Hp → Prop} (hQ : ∀ vs ts n' G2 H2, Mv (mS ob).M G H G2 H2 → Sta C q.K ob pin env Fs n' σ G2 H2 → ArgR q.K G2 env σ as vs ts → Φ ts n' → Q vs H2), tLA q as σ H Q
  | [], n, G, H, s, Φ, ht, Q, hQ => hQ [] [] n G H (Mv.refl s.wd.sub) s .nil ht
  | .e bw e :: r, n, G, H, s, Φ, ht, Q, hQ => by
    refine lE hD hB hA bw e s (Dr.ok_bind.mp (show ((evEb bw e env).bind _).ok n Φ from ht)) fun v x n1 G1 H1 m1 s1 dv k => ?_
    refine lAs r s1 (Dr.ok_bind.mp k) fun vs ts n2 G2 H2 m2 s2 ar k2 => ?_
    exact hQ _ _ n2 G2 H2 (m1.trans m2) s2 (.e (dv.mono m2.gr) ar) k2
  | .own i :: r, n, G, H, s, Φ, ht, Q, hQ => by
    obtain ⟨t, u, e1, e2, e3, k⟩ := owAt_ok (Dr.ok_bind.mp (show ((owAt env i).bind _).ok n Φ from ht))
    obtain ⟨v, hv, _⟩ := s.at e1 e2
    refine ⟨v, hv, lAs r s (Dr.ok_bind.mp k) fun vs ts n2 G2 H2 m2 s2 ar k2 => ?_⟩
    exact hQ _ _ n2 G2 H2 m2 s2 (.own hv e1 e2 e3 ar) k2
omit hD hB hA in
theorem none_back {M : Addr → Prop} {G H G1 H1 : Hp} (m : Mv M G H G1 H1) {a : Addr} (h : H1 a = none) : H a = none := by
  cases e : H a with
  | none => rfl
  | some o =>
    obtain ⟨u, eu⟩ := m.dom a o e
    rw [h] at eu
    cases eu
omit hD hB hA in
theorem tr_mv {G H G2 H2 : Hp} (s : Sta C q.K ob pin env Fs n σ G H) (m : Mv (mS ob).M G H G2 H2) {v : V} {t : Tr} {F : List Addr} (tr : TR C q.K G H v t F) (nM : ∀ a ∈ F, ¬ (mS ob).M a) : TR C q.K G2 H2 v t F := tr.keep m.gr fun a ha => by
  obtain ⟨g, o, e, _⟩ := tr.foot a ha
  exact ⟨by rw [m.kp a o e (nM a ha), e], by rw [m.old a o e, g]⟩
theorem lPr : ∀ (ks : List Key) (es : List (Bool × E)) {n : Nat} {G H : Hp} (s : Sta C q.K ob pin env Fs n σ G H) {Φ : List PyData → Nat → Prop} (hl : ks.length = es.length) (ht : (evPs es env).ok n Φ) {Q : List (V × V) → Hp → Prop} (hQ : ∀ (kvs : List (Key × V)) (ds : List PyData) n' G2 H2, Mv (mS ob).M G H G2 H2 → Sta C q.K ob pin env Fs n' σ G2 H2 → kvs.map (·.1) = ks → DDs q.K G2 (kvs.map (·.2)) ds → Φ ds n' → Q (kvs.map fun kv => (kV kv.1, kv.2)) H2), tPairs (tPr q ks es) σ H Q
  | [], [], n, G, H, s, Φ, hl, ht, Q, hQ => hQ [] [] n G H (Mv.refl s.wd.sub) s rfl .nil ht
  | k :: ks, (bw, e) :: es, n, G, H, s, Φ, hl, ht, Q, hQ => by
    refine lE hD hB hA bw e s (Dr.ok_bind.mp (show ((evEb bw e env).bind _).ok n Φ from ht)) fun v x n1 G1 H1 m1 s1 dv k1 => ?_
    refine lPr ks es s1 (Nat.succ.inj hl) (Dr.ok_bind.mp k1) fun kvs ds n2 G2 H2 m2 s2 ek dd k2 => ?_
    exact hQ ((k, v) :: kvs) (x :: ds) n2 G2 H2 (m1.trans m2) s2 (by rw [List.map_cons, ek]) (.cons (dv.mono m2.gr) dd) k2
  | [], _ :: _, n, G, H, s, Φ, hl, ht, Q, hQ => by cases hl
  | _ :: _, [], n, G, H, s, Φ, hl, ht, Q, hQ => by cases hl
omit hD hB hA in
theorem yes_if {σ : L2.St} {H : Hp} {A B : Hp → Prop} (h : A H) : tYes σ H (fun b H3 => if b = true then A H3 else B H3) := iteT (A := A H) (B := B H) h
omit hD hB hA in
theorem madeT_ok {p : Tr × List Tr} {t : Tr} (h : madeT p = some t) : ∃ us, p = (.d .none, t :: us) := by
  unfold madeT at h
  split at h
  · cases h
    exact ⟨_, rfl⟩
  · cases h
omit hD hB hA in
theorem mapD_inj : ∀ {xs ys : List PyData}, xs.map Tr.d = ys.map Tr.d → xs = ys
  | [], [], _ => rfl
  | [], _ :: _, h => by cases h
  | _ :: _, [], h => by cases h
  | x :: xs, y :: ys, h => by
    rw [List.map_cons, List.map_cons] at h
    obtain ⟨h1, h2⟩ := List.cons.inj h
    cases h1
    rw [mapD_inj h2]
theorem lPsA : ∀ (es : List (Bool × E)) {n : Nat} {G H : Hp} (s : Sta C q.K ob pin env Fs n σ G H) {Φ : List PyData → Nat → Prop} (ht : (evPs es env).ok n Φ) {Q : List V → Hp → Prop} (hQ : ∀ vs ds n' G2 H2, Mv (mS ob).M G H G2 H2 → Sta C q.K ob pin env Fs n' σ G2 H2 → DDs q.K G2 vs ds → Φ ds n' → Q vs H2), tPsA q es σ H Q
  | [], n, G, H, s, Φ, ht, Q, hQ => hQ [] [] n G H (Mv.refl s.wd.sub) s .nil ht
  | (bw, e) :: es, n, G, H, s, Φ, ht, Q, hQ => by
    refine lE hD hB hA bw e s (Dr.ok_bind.mp (show ((evEb bw e env).bind _).ok n Φ from ht)) fun v x n1 G1 H1 m1 s1 dv k1 => ?_
    refine lPsA es s1 (Dr.ok_bind.mp k1) fun vs ds n2 G2 H2 m2 s2 dd k2 => ?_
    exact hQ (v :: vs) (x :: ds) n2 G2 H2 (m1.trans m2) s2 (.cons (dv.mono m2.gr) dd) k2
omit hD hB hA in
theorem G_none {S : MS} {n : Nat} {G H : Hp} (w : Wd S n G H) {p : Addr} (np : H p = none) : G p = none := by
  cases e : G p with
  | none => rfl
  | some o => rw [w.sub p o e] at np; cases np
theorem lMk (c : Nat) (f : LF) (es : List (Bool × E)) {n : Nat} {G H : Hp} (s : Sta C q.K ob pin env Fs n σ G H) {Φ : Tr → Nat → Prop} (ht : ((evPs es env).bind fun ds => if c < 3 then (f (.ins (clsN c) [] :: ds.map .d)).pur.bind fun p => (Dr.opt (madeT p)).bind fun t => .ret t else .bad : Dr Tr).ok n Φ) {Q : VK} (hQ : ∀ v t F n' G2 H2, Mv (mS ob).M G H G2 H2 → Sta C q.K ob pin env Fs n' σ G2 H2 → TR C q.K G2 H2 v t F → (∀ a ∈ F, H a = none) → Φ t n' → Q v H2) : tMk q C c f (tPsA q es) σ H Q := by
  unfold tMk
  cases hA' : q.da (6 + c) with
  | none => trivial
  | some A =>
    show tMake A (spL C q.K f) [] E0 (tPsA q es) σ H Q
    refine lPsA hD hB hA es s (Dr.ok_bind.mp ht) fun vs ds n1 G1 H1 m1 s1 dd k1 => fun x dx nx nd ne => ?_
    by_cases h3 : c < 3
    · rw [if_pos h3] at k1
      obtain ⟨p, hf, k2⟩ := Dr.ok_pur (Dr.ok_bind.mp k1)
      obtain ⟨t, et, k3⟩ := Dr.ok_opt (Dr.ok_bind.mp k2)
      obtain ⟨us, rfl⟩ := madeT_ok et
      have hc := hD.r c A h3 hA'
      have g1 := G_none s1.wd nx
      rw [List.append_nil]
      have kpH : ∀ a o, H1 a = some o → upd (upd H1 dx (.own x)) x (.ins A dx []) a = some o := fun a o e => by
        rw [upd_ne (ne_of_none e nx), upd_ne (ne_of_none e nd)]
        exact e
      refine ⟨G1, .ins (clsN c) [] :: ds.map .d, [x] ++ [], .d .none, t :: us, TRs.cons (.ins (fs := []) upd_same g1 ⟨hc, by rw [List.length_nil, List.take_zero]; rfl⟩ .nil (by simp)) (TRs.ofD dd) (fun a _ z => nomatch z), fun a o e => kpH a o (s1.wd.sub a o e), hf, fun v F2 G2 H2 fx t2 hF2 => ?_⟩
      cases t2 with
      | cons h1 t3 =>
        rename_i Fv Ft dj
        cases t3 with
        | cons h2 t4 =>
          cases h1 with
          | d dv =>
            cases dv
            have fresh : ∀ a, a ∈ [x] ++ [] ∨ upd (upd H1 dx (.own x)) x (.ins A dx []) a = none → H1 a = none := fun a z => by
              rcases z with z | z
              · rw [List.append_nil, List.mem_singleton] at z
                rw [z]
                exact nx
              · cases e : H1 a with
                | none => rfl
                | some o => rw [kpH a o e] at z; cases z
            have nF : ∀ a o, H1 a = some o → a ∉ [x] ++ [] := fun a o e z => by
              rw [fresh a (.inl z)] at e
              cases e
            have m2 : Mv (mS ob).M G1 H1 G2 H2 := ⟨fx.gr, fx.sub, fun a o e => fx.old a o (kpH a o e) (nF a o e), fun a o e _ => fx.kp a o (kpH a o e) (nF a o e) fun z => z, fun a o e => fx.dom a o (kpH a o e)⟩
            have w2 : Wd (mS ob) n1 G2 H2 := ⟨fx.sub, fun a m => by
              obtain ⟨o, e⟩ := (mS ob).dom s1.wd.inv m
              rw [m2.old a o e]
              exact s1.wd.no a m, hB.any hA ((mS ob).fr s1.wd.inv m2.gr fun a o m e => fx.kp a o (kpH a o e) (nF a o e) fun z => z)⟩
            refine ⟨rfl, hQ _ _ _ n1 G2 H2 (m1.trans m2) (s1.step m2 w2) h2 (fun a ha => none_back m1 (fresh a (hF2 a ?_))) k3⟩
            simp only [List.mem_append]
            exact .inr (.inl ha)
    · rw [if_neg h3] at k1
      exact k1.elim
omit hD hB hA in
theorem TRs.snoc {G H : Hp} : ∀ {vs : List V} {ts : List Tr} {F F' : List Addr} {v : V} {t : Tr}, TRs C q.K G H vs ts F → TR C q.K G H v t F' → (∀ a ∈ F, a ∉ F') → TRs C q.K G H (vs ++ [v]) (ts ++ [t]) (F ++ F')
  | _, _, _, F', _, _, .nil, h, _ => by
    have := TRs.cons h .nil fun a _ z => nomatch z
    rw [List.append_nil] at this
    exact this
  | _, _, _, F', _, _, .cons (F := F1) (F' := F2) h r dj, h', d => by
    rw [List.append_assoc]
    refine .cons h (TRs.snoc r h' fun a ha => d a (List.mem_append_right _ ha)) fun a ha hb => ?_
    rcases List.mem_append.mp hb with z | z
    · exact dj a ha z
    · exact d a (List.mem_append_left _ ha) z
omit hD hB hA in
theorem TRs.low {G G' H : Hp} (hs : ∀ b o, G b = some o → isT o = false → G' b = some o) (hn : ∀ b, G b = none → G' b = none) : ∀ {dss : List (List PyData)} {vs : List V} {F : List Addr}, (∀ ds ∈ dss, cleans ds = true) → TRs C q.K G H vs (dss.map fun ds => .lst (ds.map .d)) F → TRs C q.K G' H vs (dss.map fun ds => .lst (ds.map .d)) F
  | [], _, _, _, .nil => .nil
  | ds :: dss, _, _, h, .cons hh r dj => by
    refine .cons ?_ (TRs.low hs hn (fun ds z => h ds (List.mem_cons_of_mem _ z)) r) dj
    cases hh with
    | lst h1 g t n =>
      obtain ⟨ds', e, dd, rfl⟩ := TRs.allD t (all_isD ds)
      have e2 := mapD_inj e
      subst e2
      exact .lst h1 (hn _ g) (TRs.ofD (DDs.shrink hs dd (h _ (List.mem_cons_self ..)))) n
omit hD hB hA in
theorem elC_clean {cp : Bool} {d : PyData} {ds : List PyData} (h : elC cp d = some ds) : cleans ds = true := by
  unfold elC at h
  cases cp with
  | true =>
    obtain ⟨ds', _, h2⟩ := Option.bind_eq_some_iff.mp (show (seqF d).bind _ = some ds from h)
    by_cases c : cleans ds' = true
    · rw [if_pos c] at h2
      cases h2
      exact c
    · rw [if_neg c] at h2
      cases h2
  | false =>
    cases (show some [] = some ds from h)
    simp [cleans]
omit hD hB hA in
theorem elC_run {cp : Bool} {d : PyData} {ds : List PyData} {j : Nat} {x : V} {G H : Hp} {σ : L2.St} (h : elC cp d = some ds) (dx : DD q.K G x d) (hs : ∀ a o, G a = some o → H a = some o) (hj : σ[j]? = some (some x)) {Q : VK} (hQ : ∀ ys p, DDs q.K G ys ds → H p = none → Q (.ref p) (upd H p (.lst ys))) : (if cp = true then tCB (rList q.K) (tCons (tVar j) tNil) else tLst tNil : TE) σ H Q := by
  unfold elC at h
  cases cp with
  | true =>
    obtain ⟨ds', e1, h2⟩ := Option.bind_eq_some_iff.mp (show (seqF d).bind _ = some ds from h)
    by_cases c : cleans ds' = true
    · rw [if_pos c] at h2
      cases h2
      show (tCB (rList q.K) (tCons (tVar j) tNil) : TE) σ H Q
      refine ⟨x, hj, ?_⟩
      rcases seqF_of e1 with rfl | rfl
      · cases dx with
        | @lst a ys _ hh t => exact ⟨a, ys, rfl, .inl (.inl (.inl (hs _ _ hh))), fun p np => hQ ys p t np⟩
      · cases dx with
        | @tup a ys _ hh t => exact ⟨a, ys, rfl, .inr (sqm hs hh), fun p np => hQ ys p t np⟩
    · rw [if_neg c] at h2
      cases h2
  | false =>
    cases (show some [] = some ds from h)
    show (tLst tNil : TE) σ H Q
    exact ⟨Nat.zero_le _, fun p np => hQ [] p .nil np⟩
omit hD hB hA in
theorem mapO_drop {α β : Type} {f : α → Option β} {xs : List α} {i : Nat} {rs : List β} (hi : i < xs.length) (h : mapO f (xs.drop i) = some rs) : ∃ b r, f xs[i] = some b ∧ mapO f (xs.drop (i + 1)) = some r ∧ rs = b :: r := by
  rw [List.drop_eq_getElem_cons hi] at h
  obtain ⟨b, e1, h2⟩ := Option.bind_eq_some_iff.mp (show (f xs[i]).bind _ = some rs from h)
  obtain ⟨r, e2, e3⟩ := Option.map_eq_some_iff.mp h2
  exact ⟨b, r, e1, e2, e3.symm⟩
theorem lCmp (cp : Bool) (it : I) (j : Nat) {n : Nat} {G H : Hp} (s : Sta C q.K ob pin env Fs n σ G H) {Φ : Tr → Nat → Prop} (ht : ((evI it (env.map (toB true))).bind fun its => if j < env.length ∧ its.length ≤ 100000 then (Dr.opt (mapO (elC cp) its)).bind fun dss => .ret (.lst (dss.map fun ds => .lst (ds.map .d))) else .bad : Dr Tr).ok n Φ) {Q : VK} (hQ : ∀ v t F n' G2 H2, Mv (mS ob).M G H G2 H2 → Sta C q.K ob pin env Fs n' σ G2 H2 → TR C q.K G2 H2 v t F → (∀ a ∈ F, H a = none) → Φ t n' → Q v H2) : tCmp q cp it j σ H Q := by
  refine sI hD hB it _ _ [] n _ (dlt_rp s true) (Dr.ok_bind.mp ht) σ _ H (dlt_sl s true s.lentG fun _ i a ha => lent_in ha) (lent_wd (hB.any hA) s) _ fun J its n2 G2 H2 m w2 ⟨A, Y, wk, hA', hY⟩ hk1 D nD => ?_
  by_cases c : j < env.length ∧ its.length ≤ 100000
  · rw [if_pos c] at hk1
    obtain ⟨dss, ed, hk2⟩ := Dr.ok_opt (Dr.ok_bind.mp hk1)
    have nG : G2 D = none := G_none w2 nD
    have nM : ¬ (ows q.K (mS ob) []).M D := not_M w2 nD
    refine lc_it wk (fun i H3 => ∃ G3 acc es rs F, Mv (mS ob).M G2 H2 G3 H3 ∧ G3 D = none ∧ H3 D = some (.lst acc) ∧ Wd (ows q.K (mS ob) []) n2 G3 H3 ∧ TRs C q.K G3 H3 acc (es.map fun ds => .lst (ds.map .d)) F ∧ D ∉ F ∧ (∀ a ∈ F, H2 a = none) ∧ (∀ ds ∈ es, cleans ds = true) ∧ es.length ≤ i ∧ mapO (elC cp) (its.drop i) = some rs ∧ dss = es ++ rs)
      ⟨G2, [], [], dss, [], (Mv.refl w2.sub).loc nD nG, nG, upd_same, w2.loc nG nM, .nil, (fun z => nomatch z), (fun a z => nomatch z), (fun a z => nomatch z), Nat.le_refl _, ed, rfl⟩ (fun i H3 _ ⟨G3, acc, es, rs, F, m3, _⟩ => hA' H3 fun a o e => m3.sub a o (m3.gr a o e)) ?_ ?_
    · rintro i x H3 H4 hi ⟨G3, acc, es, rs, F, m3, n3, h3, w3, tr, dF, fr, cl, el, er, ec⟩ y
      have hd : its[i]? = some its[i] := List.getElem?_eq_getElem hi
      obtain ⟨G4, m4', dx⟩ := hY i its[i] G3 H3 x H4 hd m3.gr w3.sub y
      have m4 := m4'.weak (M' := (mS ob).M) fun _ f => f.elim
      have w4 := w3.pure m4'
      have n4 : G4 D = none := (m4.old D _ h3).trans n3
      have h4 : H4 D = some (.lst acc) := m4.kp D _ h3 fun z => nM (.inl z)
      obtain ⟨ds, r', e1, e2, rfl⟩ := mapO_drop hi er
      have hw : wipe σ [j] = σ.set j none := rfl
      refine ⟨?_, yes_if (elC_run (x := x) (G := G4) e1 dx w4.sub ?_ fun ys p dd np => ?_)⟩
      · rw [hw]
        show ((σ.set j none).set j (some x)).set j none = σ.set j none
        rw [List.set_set, List.set_set]
      · rw [hw, List.set_set]
        exact List.getElem?_set_self (by rw [s.len]; exact c.1)
      · have pD : D ≠ p := fun z => by rw [z, np] at h4; cases h4
        have g4 : G4 p = none := G_none w4 np
        have pM : ¬ (ows q.K (mS ob) []).M p := not_M w4 np
        have p2 : H2 p = none := none_back (m3.trans m4) np
        have kp : ∀ a ∈ F, H4 a = H3 a ∧ G4 a = none := fun a ha => by
          obtain ⟨g, o, e, _⟩ := tr.foot a ha
          exact ⟨by rw [m4'.kp a o e fun z => z, e], by rw [m4.old a o e, g]⟩
        have pF : p ∉ F := fun z => by
          obtain ⟨g, o, e, _⟩ := tr.foot p z
          rw [← (kp p z).1, np] at e
          cases e
        have tr4 := (tr.keep m4.gr kp)
        have tr5 : TRs C q.K G4 (upd (upd H4 p (.lst ys)) D (.lst (acc ++ [.ref p]))) acc (es.map fun ds => .lst (ds.map .d)) F := tr4.keep (fun _ _ e => e) fun a ha => ⟨by rw [upd_ne fun z => dF (by rw [← z]; exact ha), upd_ne fun z => pF (by rw [← z]; exact ha)], (kp a ha).2⟩
        have el2 : acc.length ≤ 100000 := by
          have := tr.len
          rw [List.length_map] at this
          omega
        refine ⟨acc, by rw [upd_ne pD]; exact h4, Nat.lt_of_le_of_lt el2 (by decide), G4, acc ++ [.ref p], es ++ [ds], r', F ++ [p], ((m3.trans m4).loc p2 g4).loc nD n4, n4, upd_same, (w4.loc g4 pM).loc n4 nM, ?_, ?_, ?_, ?_, ?_, e2, by rw [ec, List.append_assoc]; rfl⟩
        · rw [List.map_append]
          exact TRs.snoc tr5 (.lst (F := []) (by rw [upd_ne (Ne.symm pD)]; exact upd_same) g4 (TRs.ofD dd) (by simp)) fun a ha z => by rw [List.mem_singleton.mp z] at ha; exact pF ha
        · intro z
          rcases List.mem_append.mp z with z | z
          · exact dF z
          · exact pD (List.mem_singleton.mp z)
        · intro a ha
          rcases List.mem_append.mp ha with z | z
          · exact fr a z
          · rw [List.mem_singleton.mp z]
            exact p2
        · intro e he
          rcases List.mem_append.mp he with z | z
          · exact cl e z
          · rw [List.mem_singleton.mp z]
            exact elC_clean e1
        · rw [List.length_append]
          show es.length + 1 ≤ i + 1
          omega
    · rintro H3 ⟨G3, acc, es, rs, F, m3, n3, h3, w3, tr, dF, fr, cl, el, er, ec⟩
      rw [List.drop_length] at er
      cases (show some [] = some rs from er)
      rw [List.append_nil] at ec
      subst ec
      obtain ⟨G5, m5, s5, k1, k2⟩ := lent_back (hB.any hA) s (m.trans m3) (wd_pure w3)
      refine hQ (.ref D) _ (D :: F) n2 G5 H3 m5 s5 (.lst h3 (k2 D n3) (TRs.low k1 k2 cl tr) dF) (fun a ha => ?_) hk2
      rcases List.mem_cons.mp ha with rfl | ha
      · exact none_back m nD
      · exact none_back m (fr a ha)
  · rw [if_neg c] at hk1
    exact hk1.elim
omit hD hB hA in
theorem val_at : ∀ {kvs : List (Key × V)} {i : Nat} {k : Key} {v : V}, (kvs.map (·.1)).Nodup → kvs[i]? = some (k, v) → valV kvs k = some v
  | [], _, _, _, _, h => by simp at h
  | p :: r, 0, k, v, _, h => by
    have e : p = (k, v) := by simpa using h
    subst e
    exact valV_pos rfl
  | p :: r, i + 1, k, v, nd, h => by
    have h' : r[i]? = some (k, v) := by simpa using h
    obtain ⟨n1, n2⟩ := List.nodup_cons.mp (show (p.1 :: r.map (·.1)).Nodup from nd)
    rw [valV_neg fun z => n1 (by rw [z]; exact List.mem_map_of_mem (f := (·.1)) (List.mem_of_getElem? h'))]
    exact val_at n2 h'
omit hD hB hA in
theorem getK_val {G : Hp} {k : Key} : ∀ {kvs : List (Key × V)} {ds : List PyData}, DDs q.K G (kvs.map (·.2)) ds → DD q.K G ((valV kvs k).getD .non) ((getK (kvs.map (·.1)) ds k).getD .none)
  | [], [], .nil => .non
  | p :: r, d :: ds, .cons a t => by
    show DD q.K G ((valV (p :: r) k).getD .non) ((if p.1 = k then some d else getK (r.map (·.1)) ds k).getD .none)
    by_cases c : p.1 = k
    · rw [valV_pos c, if_pos c]
      exact a
    · rw [valV_neg c, if_neg c]
      exact getK_val t
omit hD hB hA in
theorem dd_ky {G : Hp} (k : Key) : DD q.K G (kV k) (kyD k) := by
  cases k with
  | inl i => exact .int i
  | inr z => exact .str z
omit hD hB hA in
theorem upd_lock {H : Hp} {a p : Addr} {u w o : HO} (h : H a = some u) (ne : p ≠ a) : upd (upd (upd H a w) p o) a u = upd H p o := by
  funext b
  by_cases c : b = a
  · subst c
    rw [upd_same, upd_ne (Ne.symm ne), h]
  · rw [upd_ne c]
    by_cases c2 : b = p
    · subst c2
      rw [upd_same, upd_same]
    · rw [upd_ne c2, upd_ne c, upd_ne c2]
omit hD hB hA in
theorem upd_swap {H : Hp} {a p : Addr} {u o : HO} (ne : p ≠ a) : upd (upd H p o) a u = upd (upd H a u) p o := by
  funext b
  by_cases c : b = a
  · subst c
    rw [upd_same, upd_ne (Ne.symm ne), upd_same]
  · rw [upd_ne c]
    by_cases c2 : b = p
    · subst c2
      rw [upd_same, upd_same]
    · rw [upd_ne c2, upd_ne c2, upd_ne c]
omit hD hB hA in
theorem lKget (i j l : Nat) {n : Nat} {G H : Hp} (s : Sta C q.K ob pin env Fs n σ G H) {Φ : Tr → Nat → Prop} (ht : ((dctAt env i).bind fun a => (dctAt env j).bind fun b => if l < env.length ∧ i ≠ l ∧ j ≠ l ∧ i ≠ j ∧ a.1.length ≤ 100000 ∧ a.1.length = a.2.length ∧ b.1.length = b.2.length ∧ a.1.Nodup then .ret (.lst ((kgetF a b).map .d)) else .bad : Dr Tr).ok n Φ) {Q : VK} (hQ : ∀ v t F n' G2 H2, Mv (mS ob).M G H G2 H2 → Sta C q.K ob pin env Fs n' σ G2 H2 → TR C q.K G2 H2 v t F → (∀ a ∈ F, H a = none) → Φ t n' → Q v H2) : tKget i j l σ H Q := by
  obtain ⟨ks, ds, u, e1, e2, _, k1⟩ := dctAt_ok (Dr.ok_bind.mp ht)
  obtain ⟨ks', ds', u', e1', e2', _, k2⟩ := dctAt_ok (Dr.ok_bind.mp k1)
  obtain ⟨v, hv, tr⟩ := s.at e1 e2
  obtain ⟨v', hv', tr'⟩ := s.at e1' e2'
  by_cases c : l < env.length ∧ i ≠ l ∧ j ≠ l ∧ i ≠ j ∧ ks.length ≤ 100000 ∧ ks.length = ds.length ∧ ks'.length = ds'.length ∧ ks.Nodup
  · rw [if_pos (show l < env.length ∧ i ≠ l ∧ j ≠ l ∧ i ≠ j ∧ (ks, ds).1.length ≤ 100000 ∧ (ks, ds).1.length = (ks, ds).2.length ∧ (ks', ds').1.length = (ks', ds').2.length ∧ (ks, ds).1.Nodup from c)] at k2
    obtain ⟨c1, c2, c3, c4, c5, c6, c7, c8⟩ := c
    generalize hFi : Fs i = Fi at tr
    generalize hFj : Fs j = Fj at tr'
    cases tr with
    | @dct a kvs _ _ F0 ha ga ek t0 n0 =>
    cases tr' with
    | @dct b kvs' _ _ F0' hb gb ek' t0' n0' =>
    obtain ⟨dz, ez, dd, _⟩ := t0.allD (all_isD ds)
    have ez2 := mapD_inj ez
    subst ez2
    obtain ⟨dz, ez, dd', _⟩ := t0'.allD (all_isD ds')
    have ez2 := mapD_inj ez
    subst ez2
    subst ek ek'
    have ai : a ∈ Fs i := by rw [hFi]; exact List.mem_cons_self ..
    have bj : b ∈ Fs j := by rw [hFj]; exact List.mem_cons_self ..
    have nab : b ≠ a := fun z => s.dj j i b (Ne.symm c4) bj (by rw [z]; exact ai)
    refine ⟨a, .dK kvs, ha, trivial, fun od => ?_⟩
    refine ⟨.ref a, hv, a, od, rfl, .inl ⟨kvs, upd_same, fun D nD => ?_⟩⟩
    have Da : D ≠ a := fun z => by rw [z, upd_same] at nD; cases nD
    have nD' : H D = none := by rw [upd_ne Da] at nD; exact nD
    have gD : G D = none := G_none s.wd nD'
    have mD : ¬ (mS ob).M D := not_M s.wd nD'
    have hlen : kvs.length ≤ 100000 := by rw [List.length_map] at c5; exact c5
    have hw : wipe σ [l] = σ.set l none := rfl
    refine lc_it walk_keys (fun m H3 => H3 a = some (.frz od (.dK kvs)) ∧ ∃ G3 acc, Mv (mS ob).M G H G3 (upd H3 a (.dK kvs)) ∧ Wd (mS ob) n G3 (upd H3 a (.dK kvs)) ∧ G3 D = none ∧ H3 D = some (.lst acc) ∧ acc.length = m ∧ m ≤ kvs.length ∧ DDs q.K G3 acc ((kgetF (kvs.map (·.1), ds) (kvs'.map (·.1), ds')).take m))
      ⟨by rw [upd_ne (Ne.symm Da)]; exact upd_same, G, [], by rw [upd_lock ha Da]; exact (Mv.refl s.wd.sub).loc nD' gD, by rw [upd_lock ha Da]; exact s.wd.loc gD mD, gD, upd_same, rfl, Nat.zero_le _, .nil⟩ (fun m H3 _ h => h.1) ?_ ?_
    · rintro m x H3 H4 hm ⟨h3a, G3, acc, m3, w3, g3, h3, al, _, dd3⟩ ⟨rfl, k, v, hk, rfl⟩
      refine ⟨?_, yes_if ?_⟩
      · rw [hw]
        show ((σ.set l none).set l (some (kV k))).set l none = σ.set l none
        rw [List.set_set, List.set_set]
      · rw [hw, List.set_set]
        have sl : (σ.set l (some (kV k)))[l]? = some (some (kV k)) := List.getElem?_set_self (by rw [s.len]; exact c1)
        have si : (σ.set l (some (kV k)))[i]? = some (some (.ref a)) := by rw [List.getElem?_set_ne (Ne.symm c2)]; exact hv
        have sj : (σ.set l (some (kV k)))[j]? = some (some (.ref b)) := by rw [List.getElem?_set_ne (Ne.symm c3)]; exact hv'
        have hb3 : H4 b = some (.dK kvs') := by
          have := m3.kp b _ hb (s.nm j b bj)
          rw [upd_ne nab] at this
          exact this
        refine ⟨_, sl, _, si, _, sl, a, v, rfl, .inl ⟨kvs, k, .inr ⟨od, h3a⟩, rfl, (val_at c8 hk).symm⟩, _, sj, b, rfl, .inl ⟨kvs', .inl hb3⟩, _, sl, _, .inl ⟨kvs', k, .inl hb3, rfl, rfl⟩, Nat.le_trans (show 3 ≤ 100000 by decide) (by decide), fun p np => ?_⟩
        have pa : p ≠ a := fun z => by rw [z, h3a] at np; cases np
        have pD : p ≠ D := fun z => by rw [z, h3] at np; cases np
        have npU : (upd H4 a (.dK kvs)) p = none := by rw [upd_ne pa]; exact np
        have g3p : G3 p = none := G_none w3 npU
        have mn := Mv.new (M := (mS ob).M) (o := .tup [kV k, v, (valV kvs' k).getD .non]) w3.sub npU
        have gD4 : upd G3 p (.tup [kV k, v, (valV kvs' k).getD .non]) D = none := by rw [upd_ne (Ne.symm pD)]; exact g3
        have eU : upd (upd (upd H4 p (.tup [kV k, v, (valV kvs' k).getD .non])) D (.lst (acc ++ [.ref p]))) a (.dK kvs) = upd (upd (upd H4 a (.dK kvs)) p (.tup [kV k, v, (valV kvs' k).getD .non])) D (.lst (acc ++ [.ref p])) := by
          rw [upd_swap Da, upd_swap pa]
        refine ⟨acc, by rw [upd_ne (Ne.symm pD)]; exact h3, Nat.lt_of_lt_of_le (by rw [al]; exact hm) (Nat.le_trans hlen (by decide)), by rw [upd_ne (Ne.symm Da), upd_ne (Ne.symm pa)]; exact h3a, upd G3 p (.tup [kV k, v, (valV kvs' k).getD .non]), acc ++ [.ref p], ?_, ?_, gD4, upd_same, by rw [List.length_append, al]; rfl, hm, ?_⟩
        · rw [eU]
          exact (m3.trans mn).loc nD' gD4
        · rw [eU]
          exact (w3.new npU).loc gD4 mD
        · have hd : ∃ d, ds[m]? = some d ∧ DD q.K G v d := by
            have hx : (kvs.map (·.2))[m]? = some v := by rw [List.getElem?_map, hk]; rfl
            exact dd.get hx
          obtain ⟨d, hdm, dv⟩ := hd
          have ei : (kgetF (kvs.map (·.1), ds) (kvs'.map (·.1), ds'))[m]? = some (.tuple [kyD k, d, (getK (kvs'.map (·.1)) ds' k).getD .none]) := by
            unfold kgetF
            rw [List.getElem?_map, (List.getElem?_zip_eq_some (z := (k, d))).mpr ⟨by rw [List.getElem?_map, hk]; rfl, hdm⟩]
            rfl
          rw [List.take_succ, ei]
          have gr : ∀ b o, G b = some o → upd G3 p (.tup [kV k, v, (valV kvs' k).getD .non]) b = some o := fun b o z => mn.gr b o (m3.gr b o z)
          exact (dd3.mono mn.gr).snoc (.tup (.inl (.inl upd_same)) (.cons (dd_ky k) (.cons (dv.mono gr) (.cons ((getK_val dd').mono gr) .nil))))
    · rintro H3 ⟨h3a, G3, acc, m3, w3, g3, h3, al, _, dd3⟩
      refine ⟨h3a, ?_⟩
      have ln : (kgetF (kvs.map (·.1), ds) (kvs'.map (·.1), ds')).length = kvs.length := by
        have e6 := c6
        rw [List.length_map] at e6
        unfold kgetF
        rw [List.length_map, List.length_zip]
        show min (kvs.map (·.1)).length ds.length = _
        rw [List.length_map]
        omega
      rw [List.take_of_length_le (by omega)] at dd3
      exact hQ (.ref D) _ [D] n G3 _ m3 (s.step m3 w3) (.lst (by rw [upd_ne Da]; exact h3) g3 (TRs.ofD dd3) (by simp)) (fun b hb => by rw [List.mem_singleton.mp hb]; exact nD') k2
  · rw [if_neg (show ¬ (l < env.length ∧ i ≠ l ∧ j ≠ l ∧ i ≠ j ∧ (ks, ds).1.length ≤ 100000 ∧ (ks, ds).1.length = (ks, ds).2.length ∧ (ks', ds').1.length = (ks', ds').2.length ∧ (ks, ds).1.Nodup) from c)] at k2
    exact k2.elim
mutual
theorem lX : ∀ (b : LB) {n : Nat} {G H : Hp} (s : Sta C q.K ob pin env Fs n σ G H) {Φ : Tr → Nat → Prop} (ht : (evLX b env).ok n Φ) {Q : VK} (hQ : ∀ v t F n' G2 H2, Mv (mS ob).M G H G2 H2 → Sta C q.K ob pin env Fs n' σ G2 H2 → TR C q.K G2 H2 v t F → (∀ a ∈ F, H a = none) → Φ t n' → Q v H2), tLX q C b σ H Q
  | .e bw e, n, G, H, s, Φ, ht, Q, hQ => by
    refine lE hD hB hA bw e s (Dr.ok_bind.mp (show ((evEb bw e env).bind _).ok n Φ by simpa [evLX] using ht)) fun v x n1 G1 H1 m1 s1 dv k => ?_
    exact hQ v _ [] n1 G1 H1 m1 s1 (.d dv) (fun a z => nomatch z) k
  | .f bw f, n, G, H, s, Φ, ht, Q, hQ => by
    refine lF hD hB hA bw f s (Dr.ok_bind.mp (show ((evFb bw f env).bind _).ok n Φ by simpa [evLX] using ht)) fun l xs ds n1 G1 H1 m1 s1 nl gl hl dd k => ?_
    exact hQ _ _ [l] n1 G1 H1 m1 s1 (.lst hl gl (TRs.ofD dd) (by simp)) (fun a z => by rw [List.mem_singleton.mp z]; exact nl) k
  | .nd, n, G, H, s, Φ, ht, Q, hQ => by
    intro p np
    have k : Φ (.dct [] []) n := (by simpa [evLX] using ht : (Dr.ret (Tr.dct [] [])).ok n Φ)
    have g1 : G p = none := by
      cases e : G p with
      | none => rfl
      | some o => rw [s.wd.sub p o e] at np; cases np
    have m2 : Mv (mS ob).M G H G (upd H p (.dK [])) := mv_lay s.wd.sub np
    exact hQ _ _ [p] n G _ m2 (s.step m2 (wd_lay s.wd np)) (.dct (kvs := []) upd_same g1 rfl .nil (by simp)) (fun a z => by rw [List.mem_singleton.mp z]; exact np) k
  | .dct ks es, n, G, H, s, Φ, ht, Q, hQ => by
    have ht' : (if ks.length = es.length ∧ ks.Nodup ∧ ks.length ≤ 15 then (evPs es env).bind fun ds => Dr.ret (Tr.dct ks (ds.map .d)) else .bad : Dr Tr).ok n Φ := by simpa only [evLX] using ht
    intro p np
    by_cases c : ks.length = es.length ∧ ks.Nodup ∧ ks.length ≤ 15
    · rw [if_pos c] at ht'
      have g0 : G p = none := by
        cases e : G p with
        | none => rfl
        | some o => rw [s.wd.sub p o e] at np; cases np
      have m1 : Mv (mS ob).M G H G (upd H p (.dK [])) := mv_lay s.wd.sub np
      have s1 := s.step m1 (wd_lay s.wd np)
      refine lPr hD hB hA ks es s1 c.1 (Dr.ok_bind.mp ht') fun kvs ds n2 G2 H2 m2 s2 ek dd k2 => ?_
      have nM : ¬ (mS ob).M p := not_M s.wd np
      have h2 : H2 p = some (.dK []) := m2.kp p _ upd_same nM
      have g2 : G2 p = none := by rw [m2.old p _ upd_same, g0]
      have em : mergeK [] kvs = kvs := merge_nd kvs [] (by rw [List.nil_append, ek]; exact c.2.1)
      have hle : kvs.length = ks.length := by rw [← ek, List.length_map]
      refine ⟨h2, kvs, rfl, by rw [hle]; exact c.2.2, ?_⟩
      rw [em]
      have m12 := m1.trans m2
      have m3 : Mv (mS ob).M G H G2 (upd H2 p (.dK kvs)) := ⟨m12.gr, fun b o e => by rw [upd_ne (fun z => by rw [z, g2] at e; cases e)]; exact m12.sub b o e, m12.old, fun b o e nm => by rw [upd_ne (ne_of_none e np)]; exact m12.kp b o e nm, fun b o e => by rw [upd_ne (ne_of_none e np)]; exact m12.dom b o e⟩
      have w3 : Wd (mS ob) n2 G2 (upd H2 p (.dK kvs)) := ⟨m3.sub, s2.wd.no, (mS ob).fr s2.wd.inv (fun _ _ e => e) fun b u m e => by rw [upd_ne (fun z => nM (by rw [← z]; exact m))]; exact e⟩
      exact hQ _ _ [p] n2 G2 _ m3 (s.step m3 w3) (.dct upd_same g2 ek (TRs.ofD dd) (by simp)) (fun a z => by rw [List.mem_singleton.mp z]; exact np) k2
    · rw [if_neg c] at ht'
      exact ht'.elim
  | .mk c f es, n, G, H, s, Φ, ht, Q, hQ => lMk hD hB hA c f es s (by simpa only [evLX] using ht) hQ
  | .cmp cp it j, n, G, H, s, Φ, ht, Q, hQ => lCmp hD hB hA cp it j s (by simpa only [evLX] using ht) hQ
  | .kget i j l, n, G, H, s, Φ, ht, Q, hQ => lKget i j l s (by simpa only [evLX] using ht) hQ
  | .l xs, n, G, H, s, Φ, ht, Q, hQ => by
    refine lB xs s (Dr.ok_bind.mp (show ((evLB xs env).bind _).ok n Φ by simpa [evLX] using ht)) fun vs ts F n1 G1 H1 m1 s1 tr fr k => ?_
    by_cases c : ts.length ≤ 100000
    · rw [if_pos c] at k
      refine ⟨Nat.le_trans (by rw [tr.len]; exact c) (by decide), fun p np => ?_⟩
      have m2 : Mv (mS ob).M G1 H1 G1 (upd H1 p (.lst vs)) := mv_lay s1.wd.sub np
      have g1 : G1 p = none := by
        cases e : G1 p with
        | none => rfl
        | some o => rw [s1.wd.sub p o e] at np; cases np
      have pF : p ∉ F := fun z => by
        obtain ⟨_, o, e, _⟩ := tr.foot p z
        rw [np] at e
        cases e
      refine hQ _ _ (p :: F) n1 G1 _ (m1.trans m2) (s1.step m2 (wd_lay s1.wd np)) (.lst upd_same g1 (tr.keep (fun _ _ e => e) fun a ha => ⟨upd_ne fun z => pF (by rw [← z]; exact ha), (tr.foot a ha).1⟩) pF) (fun a ha => ?_) k
      rcases List.mem_cons.mp ha with rfl | ha
      · exact none_back m1 np
      · exact fr a ha
    · rw [if_neg c] at k
      exact k.elim
theorem lB : ∀ (b : List LB) {n : Nat} {G H : Hp} (s : Sta C q.K ob pin env Fs n σ G H) {Φ : List Tr → Nat → Prop} (ht : (evLB b env).ok n Φ) {Q : List V → Hp → Prop} (hQ : ∀ vs ts F n' G2 H2, Mv (mS ob).M G H G2 H2 → Sta C q.K ob pin env Fs n' σ G2 H2 → TRs C q.K G2 H2 vs ts F → (∀ a ∈ F, H a = none) → Φ ts n' → Q vs H2), tLB q C b σ H Q
  | [], n, G, H, s, Φ, ht, Q, hQ => by
    have k : Φ [] n := (by simpa [evLB] using ht : (Dr.ret []).ok n Φ)
    exact hQ [] [] [] n G H (Mv.refl s.wd.sub) s .nil (fun a z => nomatch z) k
  | x :: r, n, G, H, s, Φ, ht, Q, hQ => by
    refine lX x s (Dr.ok_bind.mp (show ((evLX x env).bind _).ok n Φ by simpa [evLB] using ht)) fun v t F1 n1 G1 H1 m1 s1 tr1 fr1 k => ?_
    refine lB r s1 (Dr.ok_bind.mp k) fun vs ts F n2 G2 H2 m2 s2 tr fr k2 => ?_
    have nM : ∀ a ∈ F1, ¬ (mS ob).M a := fun a ha => not_M s.wd (fr1 a ha)
    refine hQ _ _ (F1 ++ F) n2 G2 H2 (m1.trans m2) s2 (.cons (tr_mv s1 m2 tr1 nM) tr fun a ha hb => ?_) (fun a ha => ?_) k2
    · obtain ⟨_, o, e, _⟩ := tr1.foot a ha
      rw [fr a hb] at e
      cases e
    · rcases List.mem_append.mp ha with ha | ha
      · exact fr1 a ha
      · exact none_back m1 (fr a ha)
end
omit hD hB hA in
theorem putTs_rel : ∀ (is : List Nat) {env env' : LEn} {Fs : Nat → List Addr} {n : Nat} {σ : L2.St} {G0 H0 : Hp} {F0 : Addr → Prop} {vs : List V} {ts : List Tr} {F : List Addr}, Rel C q.K ob pin F0 G0 H0 env Fs n σ G H → TRs C q.K G H vs ts F → (∀ a ∈ F, ∀ j, a ∉ Fs j) → (∀ a ∈ F, ¬ (mS ob).M a) → (∀ a ∈ F, F0 a ∨ H0 a = none) → putTs is ts env = .ret (.nx env') →
    vs.length = is.length ∧ ∃ Fs', Rel C q.K ob pin F0 G0 H0 env' Fs' n ((is.zip vs).foldl (fun s p => s.set p.1 (some p.2)) σ) G H
  | [], env, env', Fs, n, σ, G0, H0, F0, vs, ts, F, r, t, dj, nm, f, h => by
    cases t with
    | nil =>
      cases h
      exact ⟨rfl, Fs, r⟩
    | cons _ _ _ => cases h
  | i :: is, env, env', Fs, n, σ, G0, H0, F0, vs, ts, F, r, t, dj, nm, f, h => by
    cases t with
    | nil => cases h
    | @cons v vs u us F1 F2 hu tr dj2 =>
      by_cases c : free env i = true
      · rw [show putTs (i :: is) (u :: us) env = putTs is us (env.set i (.tr u)) from if_pos c] at h
        have r1 : Rel C q.K ob pin F0 G0 H0 (env.set i (.tr u)) (updF Fs i F1) n (σ.set i (some v)) G H := ⟨r.s.setT (free_lt c) hu (fun j a _ ha => dj a (List.mem_append_left _ ha) j) (fun a ha => nm a (List.mem_append_left _ ha)), r.x, f_upd r.f fun a ha => f a (List.mem_append_left _ ha)⟩
        obtain ⟨l, Fs', r2⟩ := putTs_rel is r1 tr (fun a ha j => by
          by_cases cj : j = i
          · rw [cj, updF_at]
            exact fun z => dj2 a z ha
          · rw [updF_ne cj]
            exact dj a (List.mem_append_right _ ha) j) (fun a ha => nm a (List.mem_append_right _ ha)) (fun a ha => f a (List.mem_append_right _ ha)) h
        exact ⟨congrArg Nat.succ l, Fs', r2⟩
      · rw [show putTs (i :: is) (u :: us) env = .bad from if_neg c] at h
        cases h
omit hD in
theorem lCall {as : List LA} {vs : List V} {ts us : List Tr} {r : Tr} {f : LF} {env' : LEn} (s : Sta C q.K ob pin env Fs n σ G H) (ar : ArgR q.K G env σ as vs ts) (nd : (ownIx as).Nodup) (hf : f ts = .ret (r, us)) (hb : backs as us env = some env') {Q : VK}
    (hQ : ∀ v Fs' Fr G2 H2, Rel C q.K ob pin (Fp Fs) G H env' Fs' n σ G2 H2 → TR C q.K G2 H2 v r Fr → (∀ j a, a ∈ Fr → a ∉ Fs' j) → (∀ a ∈ Fr, ¬ (mS ob).M a) → (∀ a ∈ Fr, Fp Fs a ∨ H a = none) → Q v H2) : spL C q.K f (vs ++ []) H Q E0 := by
  rw [List.append_nil]
  obtain ⟨F, tr, fa, fb⟩ := ar.trees s nd
  refine ⟨G, ts, F, r, us, tr, s.wd.sub, hf, fun v F2 G2 H2 x t2 hfr => ?_⟩
  have hM : ∀ a ∈ F, ¬ (mS ob).M a := fun a ha => by
    obtain ⟨i, _, hi⟩ := fa a ha
    exact s.nm i a hi
  have s1 := s.clr (ownIx as)
  have out : ∀ i, ∀ a ∈ clrF (ownIx as) Fs i, a ∉ F := fun i a ha hF => by
    obtain ⟨h1, h2⟩ := clrF_sub _ ha
    obtain ⟨j, hj, hj2⟩ := fa a hF
    exact s.dj i j a (fun z => h2 (by rw [z]; exact hj)) h1 hj2
  have s2 := s1.over (hB.any hA) x out hM
  cases t2 with
  | @cons _ _ _ _ Fr Fu hr tu dj =>
    have fre : ∀ a ∈ Fr ++ Fu, ∀ j, a ∉ clrF (ownIx as) Fs j := fun a ha j hj => by
      rcases hfr a ha with h | h
      · exact out j a hj h
      · obtain ⟨_, o, e, _⟩ := s.foot (clrF_sub _ hj).1
        rw [h] at e
        cases e
    have nM : ∀ a ∈ Fr ++ Fu, ¬ (mS ob).M a := fun a ha m => by
      rcases hfr a ha with h | h
      · exact hM a h m
      · obtain ⟨o, e⟩ := (mS ob).dom s.wd.inv m
        rw [h] at e
        cases e
    obtain ⟨Fs', s3, k⟩ := backs_ok (K := q.K) env (fun i u v hE hp hv => by
      cases u with
      | pn w =>
        obtain ⟨h1, _⟩ := s.pn i w hE
        rw [hv] at h1
        cases h1
        rfl
      | tr _ => cases hp
      | unk => cases hp
      | bx => cases hp) as ar nd (fun _ _ => rfl) s2 tu (fun a ha j => fre a (List.mem_append_right _ ha) j) (fun a ha => nM a (List.mem_append_right _ ha)) hb
    have inF : ∀ a, a ∈ F → Fp Fs a := fun a ha => (fa a ha).imp fun i h => h.2
    refine hQ v Fs' Fr G2 H2 ⟨s3, ⟨x.gr, x.sub, fun a o e nf => x.old a o e fun z => nf (inF a z), fun a o e nf _ => x.kp a o e (fun z => nf (inF a z)) fun z => z, x.dom⟩, fun i a ha => ?_⟩ hr (fun j a ha hj => ?_) (fun a ha => nM a (List.mem_append_left _ ha)) fun a ha => (hfr a (List.mem_append_left _ ha)).imp (inF a) id
    · rcases k i a ha with h | h
      · exact .inl ⟨i, (clrF_sub _ h).1⟩
      · exact (hfr a (List.mem_append_right _ h)).imp (inF a) id
    · rcases k j a hj with h | h
      · exact fre a (List.mem_append_left _ ha) j h
      · exact dj a ha h
end
theorem lstD_ok {t : Tr} {n : Nat} {Φ : List Tr → Nat → Prop} (h : (lstD t).ok n Φ) : ∃ ts, t = .lst ts ∧ Φ ts n := by
  unfold lstD at h
  split at h
  · exact ⟨_, rfl, h⟩
  · exact h.elim
theorem lookup_ix : ∀ {fs : List (Str × V)} {k : Nat} {x : Str} {v : V}, (fs.map (·.1)).Nodup → fs[k]? = some (x, v) → fs.lookup x = some v
  | [], _, _, _, _, h => by simp at h
  | p :: r, 0, x, v, _, h => by
    have e : p = (x, v) := by simpa using h
    subst e
    exact List.lookup_cons_self
  | p :: r, k + 1, x, v, nd, h => by
    have h' : r[k]? = some (x, v) := by simpa using h
    obtain ⟨n1, n2⟩ := List.nodup_cons.mp (show (p.1 :: r.map (·.1)).Nodup from nd)
    have ne : (x == p.1) = false := by
      rw [beq_eq_false_iff_ne]
      exact fun z => n1 (by rw [← z]; exact List.mem_map_of_mem (f := (·.1)) (List.mem_of_getElem? h'))
    show List.lookup x ((p.1, p.2) :: r) = some v
    rw [List.lookup_cons, ne]
    exact lookup_ix n2 h'
theorem fst_at {fs : List (Str × V)} {nm : Str} {k : Nat} {v : V} (e : fs.map (·.1) = (clN nm).take fs.length) (h : (fs.map (·.2))[k]? = some v) : fs[k]? = some ((clN nm).getD k "", v) ∧ (clN nm)[k]? = some ((clN nm).getD k "") := by
  rw [List.getElem?_map] at h
  obtain ⟨p, hp, rfl⟩ := Option.map_eq_some_iff.mp h
  have hk : k < fs.length := (List.getElem?_eq_some_iff.mp hp).1
  have h1 : (fs.map (·.1))[k]? = some p.1 := by rw [List.getElem?_map, hp]; rfl
  rw [e, List.getElem?_take_of_lt hk] at h1
  have h2 : (clN nm).getD k "" = p.1 := by rw [List.getD_eq_getElem?_getD, h1]; rfl
  rw [h2]
  exact ⟨hp, h1⟩
theorem fnC_eq {c k : Nat} (h : k < (clN (clsN c)).length) : fnC c k = (clN (clsN c)).getD k "" := by
  match c, k, h with
  | 0, 0, _ => decide +kernel
  | 0, 1, _ => decide +kernel
  | 0, 2, _ => decide +kernel
  | 0, 3, _ => decide +kernel
  | 0, 4, _ => decide +kernel
  | 0, k + 5, h => exact absurd h (by rw [show (clN (clsN 0)).length = 5 by decide +kernel]; omega)
  | 1, 0, _ => decide +kernel
  | 1, 1, _ => decide +kernel
  | 1, 2, _ => decide +kernel
  | 1, 3, _ => decide +kernel
  | 1, k + 4, h => exact absurd h (by rw [show (clN (clsN 1)).length = 4 by decide +kernel]; omega)
  | c + 2, 0, _ =>
    show "rows" = (clN "Desk").getD 0 ""
    decide +kernel
  | c + 2, k + 1, h => exact absurd h (by rw [show (clN (clsN (c + 2))).length = 1 by (show (clN "Desk").length = 1); decide +kernel]; omega)
theorem fnC_at {c k : Nat} {x : Str} (h : (clN (clsN c))[k]? = some x) : fnC c k = x := by
  rw [fnC_eq (List.getElem?_eq_some_iff.mp h).1, List.getD_eq_getElem?_getD, h]
  rfl
theorem fld_nd {fs : List (Str × V)} {nm : Str} (e : fs.map (·.1) = (clN nm).take fs.length) : (fs.map (·.1)).Nodup := by
  rw [e]
  exact (clN_nd nm).sublist (List.take_sublist ..)
theorem cl_one {K : PySem.W.Frag} {A B : Addr} {nm : Str} (h : ClC K A nm) (h' : ClC K B nm) : A = B := by
  have e := h.ns.symm.trans h'.ns
  cases e
  rfl
theorem isI_ok {c : Nat} {t : Tr} (h : isI c t = true) : c < 3 ∧ ∃ ts, t = .ins (clsN c) ts := by
  cases t with
  | ins nm ts =>
    have h' : (decide (c < 3) && decide (nm = clsN c)) = true := h
    rw [Bool.and_eq_true] at h'
    obtain ⟨h1, h2⟩ := h'
    rw [← of_decide_eq_true h2]
    exact ⟨of_decide_eq_true h1, ts, rfl⟩
  | d _ => cases h
  | lst _ => cases h
  | dct _ _ => cases h
theorem clM_no (c k : Nat) : ∀ x ∈ clN (clsN c), (clM c k == x) = false := by
  have key : ∀ (c : Nat) (m : Str), (clN (clsN c)).all (fun x => !(m == x)) = true → ∀ x ∈ clN (clsN c), (m == x) = false := fun c m h x hx => by
    have := List.all_eq_true.mp h x hx
    simpa using this
  match c with
  | 0 => match k with
    | 0 | 1 | 2 | 3 | 4 | 5 | 6 | 7 | 8 | 9 | 10 | 11 => exact key _ _ (by decide +kernel)
    | k + 12 => exact key 0 "lengthened" (by decide +kernel)
  | 1 => match k with
    | 0 | 1 | 2 | 3 | 4 | 5 | 6 | 7 | 8 | 9 | 10 | 11 | 12 | 13 | 14 | 15 | 16 | 17 | 18 => exact key _ _ (by decide +kernel)
    | k + 19 => exact key 1 "twin" (by decide +kernel)
  | c + 2 => exact key 2 "do" (by decide +kernel)
theorem lookup_no {m : Str} : ∀ {fs : List (Str × V)}, (∀ p ∈ fs, (m == p.1) = false) → fs.lookup m = none
  | [], _ => rfl
  | p :: r, h => by
    show List.lookup m ((p.1, p.2) :: r) = none
    rw [List.lookup_cons, h p (List.mem_cons_self ..)]
    exact lookup_no fun p hp => h p (List.mem_cons_of_mem _ hp)
section
variable {q : Gq} {C : Ck} {ob : Option Bo} {pin : Nat → V} {env : LEn} {Fs : Nat → List Addr} {σ : L2.St}
variable (hD : HD q.K q.w q.da) (hB : HB q ob) (hA : q.any = true)
include hD hB hA
theorem lP : ∀ (p : Pl) {n : Nat} {G H : Hp} {Φ : Nat × List Nat × Tr → Nat → Prop}, Sta C q.K ob pin env Fs n σ G H → (evPl p env).ok n Φ → ∀ {Q : VK}, (∀ v r n' G2 H2, Mv (mS ob).M G H G2 H2 → Sta C q.K ob pin env Fs n' σ G2 H2 → PlR env σ H2 r.1 r.2.1 r.2.2 v → Φ r n' → Q v H2) → tPl q p σ H Q
  | .s i, n, G, H, Φ, s, hk, Q, hQ => by
    obtain ⟨t, u, e1, e2, e3, k⟩ := owAt_ok (Dr.ok_bind.mp hk)
    obtain ⟨v, hv, _⟩ := s.at e1 e2
    exact ⟨v, hv, hQ v (i, [], t) n G H (Mv.refl s.wd.sub) s ⟨u, t, v, e1, e2, rfl, e3, hv, rfl⟩ k⟩
  | .f p c k, n, G, H, Φ, s, hk, Q, hQ => by
    refine lP p s (Dr.ok_bind.mp hk) fun v r n1 G1 H1 m1 s1 pl k1 => ?_
    obtain ⟨t, et, k2⟩ := Dr.ok_opt (Dr.ok_bind.mp k1)
    by_cases c1 : isD t = true
    · rw [if_pos c1] at k2
      exact k2.elim
    · rw [if_neg c1] at k2
      obtain ⟨i, pt, t0⟩ := r
      cases t0 with
      | d _ => cases et
      | lst _ => cases et
      | dct _ _ => cases et
      | ins nm ts =>
        have et' : (if nm = clsN c then ts[k]? else none) = some t := et
        by_cases c2 : nm = clsN c
        · rw [if_pos c2] at et'
          subst c2
          obtain ⟨a, F1, e, t0, w, rfl, h1, h2, h3, h4, h5, h6, h7, h8, _⟩ := pl.foc s1
          cases h4 with
          | @ins _ cc dx _ fs _ F hh g ec tr nn =>
            obtain ⟨y, Fk, q1, q2, _, _⟩ := TRs.at k tr et'
            obtain ⟨f1, f2⟩ := fst_at ec.2 q1
            rw [← fnC_at f2] at f1
            refine ⟨a, cc, dx, fs, y, rfl, hh, ec.1.cl, ec.1.no _ (List.mem_of_getElem? (by rw [fnC_at f2]; exact f2)), lookup_ix (fld_nd ec.2) f1, ?_⟩
            obtain ⟨e0, t00, w0, g1, g2, g3, g4, g5, g6⟩ := pl
            exact hQ y (i, pt ++ [k], t) n1 G1 H1 m1 s1 ⟨e0, t00, w0, g1, g2, getT_snoc pt g3 (by show (ts[k]?).bind (getT []) = some t; rw [et']; rfl), by simpa using c1, g5, VAt.snoc pt g6 ⟨a, y, rfl, .inr ⟨cc, dx, fs, hh, q1⟩, rfl⟩⟩ k2
        · rw [if_neg c2] at et'
          cases et'
  | .x p ix, n, G, H, Φ, s, hk, Q, hQ => by
    refine lP p s (Dr.ok_bind.mp hk) fun v r n1 G1 H1 m1 s1 pl k1 => ?_
    obtain ⟨i, pt, t0⟩ := r
    obtain ⟨ts, rfl, k2⟩ := lstD_ok (Dr.ok_bind.mp k1)
    refine lE hD hB hA true ix s1 (Dr.ok_bind.mp k2) fun y d n2 G2 H2 m2 s2 dy k3 => ?_
    obtain ⟨m, j, rfl, em, k4⟩ := asIx_ok (Dr.ok_bind.mp k3)
    cases dy
    obtain ⟨t, et, k5⟩ := Dr.ok_opt (Dr.ok_bind.mp k4)
    by_cases c1 : isD t = true
    · rw [if_pos c1] at k5
      exact k5.elim
    · rw [if_neg c1] at k5
      have pl2 := pl.step s1 m2
      obtain ⟨a, F1, e, t0, w, rfl, h1, h2, h3, h4, h5, h6, h7, h8, _⟩ := pl2.foc s2
      cases h4 with
      | @lst _ xs _ F hh g tr nn =>
        obtain ⟨y, Fk, q1, q2, _, _⟩ := TRs.at j tr et
        refine ⟨a, xs, m, y, rfl, rfl, .inl (.inl hh), by rw [atI_ix (by rw [tr.len]; exact em)]; exact q1, ?_⟩
        obtain ⟨e0, t00, w0, g1, g2, g3, g4, g5, g6⟩ := pl2
        exact hQ y (i, pt ++ [j], t) n2 G2 H2 (m1.trans m2) s2 ⟨e0, t00, w0, g1, g2, getT_snoc pt g3 (by show (ts[j]?).bind (getT []) = some t; rw [et]; rfl), by simpa using c1, g5, VAt.snoc pt g6 ⟨a, y, rfl, .inl ⟨xs, hh, q1⟩, rfl⟩⟩ k5
theorem sC : ∀ (c : LC) {n : Nat} {G H : Hp} {Φ : Tr × LEn → Nat → Prop}, Sta C q.K ob pin env Fs n σ G H → (evC c env).ok n Φ → ∀ {Q : VK}, (∀ v r env' Fs' Fr n' G2 H2, Rel C q.K ob pin (Fp Fs) G H env' Fs' n' σ G2 H2 → TR C q.K G2 H2 v r Fr → (∀ j a, a ∈ Fr → a ∉ Fs' j) → (∀ a ∈ Fr, ¬ (mS ob).M a) → (∀ a ∈ Fr, Fp Fs a ∨ H a = none) → Φ (r, env') n' → Q v H2) → tC q C c σ H Q
  | .fn f as, n, G, H, Φ, s, hk, Q, hQ => by
    refine lAs hD hB hA as s (Dr.ok_bind.mp hk) fun vs ts n1 G1 H1 m1 s1 ar k => ?_
    obtain ⟨p, hf, k2⟩ := Dr.ok_pur (Dr.ok_bind.mp k)
    by_cases nd : (ownIx as).Nodup
    · rw [if_pos nd] at k2
      obtain ⟨env', hb, k3⟩ := Dr.ok_opt (Dr.ok_bind.mp k2)
      have r1 := (Rel.refl s).step m1 s1
      refine lCall hB hA s1 ar nd hf hb fun v Fs' Fr G2 H2 r2 tr d1 d2 d3 => ?_
      exact hQ v p.1 env' Fs' Fr n1 G2 H2 (r1.trans r2) tr d1 d2 (fun a ha => (d3 a ha).imp id fun z => r1.x.fresh z) k3
    · rw [if_neg nd] at k2
      exact k2.elim
  | .me c k f i as, n, G, H, Φ, s, hk, Q, hQ => by
    show tMe q C c k f (tVar i) (tLA q as) σ H Q
    unfold tMe
    cases hA' : q.da (6 + c) with
    | none => trivial
    | some A =>
      show tMeth A (clM c k) (spL C q.K f) [] E0 (tVar i) (tLA q as) σ H Q
      obtain ⟨t, u, e1, e2, e3, k1⟩ := owAt_ok (Dr.ok_bind.mp hk)
      by_cases c1 : isI c t = true
      · rw [if_pos c1] at k1
        obtain ⟨h3, ts0, rfl⟩ := isI_ok c1
        obtain ⟨v, hv, tr⟩ := s.at e1 e2
        generalize hFi : Fs i = Fi at tr
        cases tr with
        | @ins a cc dx _ fs _ F hh g ec tr0 nn =>
          have eA : cc = A := cl_one ec.1 (hD.r c A h3 hA')
          subst eA
          refine ⟨.ref a, hv, a, dx, fs, rfl, hh, lookup_no fun p hp => ?_, lAs hD hB hA as s (Dr.ok_bind.mp k1) fun vs ts n1 G1 H1 m1 s1 ar k => ?_⟩
          · refine clM_no c k p.1 ?_
            have : p.1 ∈ fs.map (·.1) := List.mem_map_of_mem hp
            rw [ec.2] at this
            exact List.mem_of_mem_take this
          · obtain ⟨p, hf, k2⟩ := Dr.ok_pur (Dr.ok_bind.mp k)
            by_cases nd : (i :: ownIx as).Nodup
            · rw [if_pos nd] at k2
              obtain ⟨env', hb, k3⟩ := Dr.ok_opt (Dr.ok_bind.mp k2)
              have r1 := (Rel.refl s).step m1 s1
              refine lCall hB hA s1 (ArgR.own hv e1 e2 e3 ar) nd hf hb fun v Fs' Fr G2 H2 r2 tr d1 d2 d3 => ?_
              exact hQ v p.1 env' Fs' Fr n1 G2 H2 (r1.trans r2) tr d1 d2 (fun a ha => (d3 a ha).imp id fun z => r1.x.fresh z) k3
            · rw [if_neg nd] at k2
              exact k2.elim
      · rw [if_neg c1] at k1
        exact k1.elim
end
theorem popE_ok {ts : List Tr} {x : PyData} {t : Tr} (h : popE ts = some (x, t)) : ∃ ds : List PyData, ts = ds.map .d ∧ ds[ds.length - 1]? = some x ∧ t = .lst (ds.dropLast.map .d) := by
  obtain ⟨ds, e1, h2⟩ := Option.bind_eq_some_iff.mp (show (undT ts).bind _ = some (x, t) from h)
  obtain ⟨y, e2, e3⟩ := Option.map_eq_some_iff.mp h2
  cases e3
  exact ⟨ds, (undT_eq e1).1, e2, rfl⟩
theorem popI_ok {ts : List Tr} {m : Nat} {x : PyData} {t : Tr} (h : popI ts m = some (x, t)) : ts.length ≤ 100000 ∧ ∃ ds : List PyData, ts = ds.map .d ∧ ds[m]? = some x ∧ t = .lst ((ds.eraseIdx m).map .d) := by
  have h0 : (if ts.length ≤ 100000 then (undT ts).bind fun ds => (ds[m]?).map fun x => (x, Tr.lst ((ds.eraseIdx m).map .d)) else none) = some (x, t) := h
  by_cases c : ts.length ≤ 100000
  · rw [if_pos c] at h0
    obtain ⟨ds, e1, h2⟩ := Option.bind_eq_some_iff.mp h0
    obtain ⟨y, e2, e3⟩ := Option.map_eq_some_iff.mp h2
    cases e3
    exact ⟨c, ds, (undT_eq e1).1, e2, rfl⟩
  · rw [if_neg c] at h0
    cases h0
theorem TRs.dat {C : Ck} {K : PySem.W.Frag} {G H : Hp} {vs : List V} {ds : List PyData} {F : List Addr} (t : TRs C K G H vs (ds.map .d) F) : DDs K G vs ds ∧ F = [] := by
  obtain ⟨dz, ez, dd, e⟩ := t.allD (all_isD ds)
  have := mapD_inj ez
  subst this
  exact ⟨dd, e⟩
section
variable {q : Gq} {C : Ck} {ob : Option Bo} {pin : Nat → V}
variable (hD : HD q.K q.w q.da) (hB : HB q ob) (hA : q.any = true)
include hD hB hA
theorem lPop0 (p : Pl) {env : LEn} {Fs : Nat → List Addr} {n : Nat} {σ : L2.St} {G H : Hp} {Φ : PyData × LEn → Nat → Prop} (s : Sta C q.K ob pin env Fs n σ G H) (hk : (evX (.pop0 p) env).ok n Φ) {Q : VK} (hQ : ∀ v x env' Fs' n' G2 H2, Rel C q.K ob pin (Fp Fs) G H env' Fs' n' σ G2 H2 → DD q.K G2 v x → Φ (x, env') n' → Q v H2) : tX q C (.pop0 p) σ H Q := by
  refine lP hD hB hA p s (Dr.ok_bind.mp hk) fun v r n1 G1 H1 m1 s1 pl k1 => ?_
  obtain ⟨i, pt, t0⟩ := r
  obtain ⟨ts, rfl, k2⟩ := lstD_ok (Dr.ok_bind.mp k1)
  obtain ⟨⟨x, t⟩, eq, k3⟩ := Dr.ok_opt (Dr.ok_bind.mp k2)
  obtain ⟨ds, rfl, hx, rfl⟩ := popE_ok eq
  obtain ⟨a, xs, F, rfl, hh, tr, put⟩ := Rel.putPL pl ((Rel.refl s).step m1 s1)
  obtain ⟨dd, rfl⟩ := TRs.dat tr
  obtain ⟨y, hy, dy⟩ := dd.got hx
  refine ⟨.inl ⟨rfl, _, .inl (.inl hh)⟩, a, xs, y, rfl, rfl, hh, by rw [dd.len]; exact hy, ?_⟩
  obtain ⟨Fs', r2⟩ := put xs.dropLast (ds.dropLast.map .d) (TRs.ofD (DDs.dl dd))
  exact hQ y x _ Fs' n1 G1 _ r2 dy k3
theorem lPop1 (p : Pl) (ix : E) {env : LEn} {Fs : Nat → List Addr} {n : Nat} {σ : L2.St} {G H : Hp} {Φ : PyData × LEn → Nat → Prop} (s : Sta C q.K ob pin env Fs n σ G H) (hk : (evX (.pop1 p ix) env).ok n Φ) {Q : VK} (hQ : ∀ v x env' Fs' n' G2 H2, Rel C q.K ob pin (Fp Fs) G H env' Fs' n' σ G2 H2 → DD q.K G2 v x → Φ (x, env') n' → Q v H2) : tX q C (.pop1 p ix) σ H Q := by
  refine lP hD hB hA p s (Dr.ok_bind.mp hk) fun v r n1 G1 H1 m1 s1 pl k1 => ?_
  obtain ⟨i, pt, t0⟩ := r
  obtain ⟨ts, rfl, k2⟩ := lstD_ok (Dr.ok_bind.mp k1)
  obtain ⟨a0, xs0, F0, rfl, hh0, _⟩ := Rel.putPL pl ((Rel.refl s).step m1 s1)
  refine ⟨.inl ⟨rfl, _, .inl (.inl hh0)⟩, lE hD hB hA true ix s1 (Dr.ok_bind.mp k2) fun y d n2 G2 H2 m2 s2 dy k3 => ?_⟩
  obtain ⟨m, j, rfl, em, k4⟩ := asIx_ok (Dr.ok_bind.mp k3)
  cases dy
  obtain ⟨⟨x, t⟩, eq, k5⟩ := Dr.ok_opt (Dr.ok_bind.mp k4)
  obtain ⟨hle, ds, rfl, hx, rfl⟩ := popI_ok eq
  obtain ⟨a, xs, F, ea, hh, tr, put⟩ := Rel.putPL (pl.step s1 m2) (((Rel.refl s).step m1 s1).step m2 s2)
  cases ea
  obtain ⟨dd, rfl⟩ := TRs.dat tr
  obtain ⟨y, hy, dy⟩ := dd.got hx
  rw [List.length_map] at em hle
  obtain ⟨h1, h2, h3, h4⟩ := ixN_seq em
  have dl := dd.len
  refine ⟨a0, xs, m, j, y, rfl, rfl, hh, by omega, by omega, by rw [dl]; exact h1, hy, ?_⟩
  obtain ⟨Fs', r2⟩ := put (xs.eraseIdx j) ((ds.eraseIdx j).map .d) (TRs.ofD (DDs.er j dd))
  exact hQ y x _ Fs' n2 G2 _ r2 dy k5
end
section
variable {q : Gq} {C : Ck} {ob : Option Bo} {pin : Nat → V} {σ : L2.St}
variable (hD : HD q.K q.w q.da) (hB : HB q ob) (hA : q.any = true)
include hD hB hA
theorem sX : ∀ (X : LX) {env : LEn} {Fs : Nat → List Addr} {n : Nat} {G H : Hp} {Φ : PyData × LEn → Nat → Prop}, Sta C q.K ob pin env Fs n σ G H → (evX X env).ok n Φ → ∀ {Q : VK}, (∀ v x env' Fs' n' G2 H2, Rel C q.K ob pin (Fp Fs) G H env' Fs' n' σ G2 H2 → DD q.K G2 v x → Φ (x, env') n' → Q v H2) → tX q C X σ H Q
  | .e bw e, env, Fs, n, G, H, Φ, s, hk, Q, hQ => by
    refine lE hD hB hA bw e s (Dr.ok_bind.mp (show ((evEb bw e env).bind _).ok n Φ from hk)) fun v x n1 G1 H1 m1 s1 dv k => ?_
    exact hQ v x env Fs n1 G1 H1 ((Rel.refl s).step m1 s1) dv k
  | .op o a b, env, Fs, n, G, H, Φ, s, hk, Q, hQ => by
    refine sX a s (Dr.ok_bind.mp (show ((evX a env).bind _).ok n Φ from hk)) fun v d env1 Fs1 n1 G1 H1 r1 dv k1 => ?_
    refine sX b r1.s (Dr.ok_bind.mp k1) fun u e env2 Fs2 n2 G2 H2 r2 du k2 => ?_
    obtain ⟨z, ez, k3⟩ := Dr.ok_opt (Dr.ok_bind.mp k2)
    have r3 := r1.trans r2
    refine o.ok q.K d e z ez v u G2 H2 (dv.mono r2.x.gr) du r3.s.wd.sub Q fun y w G3 H3 m3 hy hs => ?_
    subst hs
    have m3' : Mv (mS ob).M G2 H2 G3 H3 := m3.weak fun _ f => f.elim
    have s3 := r3.s.step m3' (r3.s.wd.pure m3)
    exact hQ y z env2 Fs2 n2 G3 H3 (r3.step m3' s3) hy k3
  | .two tup a b, env, Fs, n, G, H, Φ, s, hk, Q, hQ => by
    cases tup with
    | true =>
      show tTup (tCons (tX q C a) (tCons (tX q C b) tNil)) σ H Q
      refine sX a s (Dr.ok_bind.mp (show ((evX a env).bind _).ok n Φ from hk)) fun v d env1 Fs1 n1 G1 H1 r1 dv k1 => ?_
      refine sX b r1.s (Dr.ok_bind.mp k1) fun u e env2 Fs2 n2 G2 H2 r2 du k2 => ?_
      refine ⟨by show 2 ≤ sizeLine; decide, fun p np => ?_⟩
      have r3 := r1.trans r2
      have m3 : Mv (fun _ => False) G2 H2 (upd G2 p (.tup [v, u])) (upd H2 p (.tup [v, u])) := Mv.new r3.s.wd.sub np
      have m3' : Mv (mS ob).M G2 H2 (upd G2 p (.tup [v, u])) (upd H2 p (.tup [v, u])) := m3.weak fun _ f => f.elim
      have s3 := r3.s.step m3' (r3.s.wd.pure m3)
      exact hQ (.ref p) (.tuple [d, e]) env2 Fs2 n2 _ _ (r3.step m3' s3) (DD.tup (.inl (.inl upd_same)) (.cons ((dv.mono r2.x.gr).mono m3.gr) (.cons (du.mono m3.gr) .nil))) k2
    | false =>
      show tLst (tCons (tX q C a) (tCons (tX q C b) tNil)) σ H Q
      refine sX a s (Dr.ok_bind.mp (show ((evX a env).bind _).ok n Φ from hk)) fun v d env1 Fs1 n1 G1 H1 r1 dv k1 => ?_
      refine sX b r1.s (Dr.ok_bind.mp k1) fun u e env2 Fs2 n2 G2 H2 r2 du k2 => ?_
      refine ⟨by show 2 ≤ sizeLine; decide, fun p np => ?_⟩
      have r3 := r1.trans r2
      have m3 : Mv (fun _ => False) G2 H2 (upd G2 p (.lst [v, u])) (upd H2 p (.lst [v, u])) := Mv.new r3.s.wd.sub np
      have m3' : Mv (mS ob).M G2 H2 (upd G2 p (.lst [v, u])) (upd H2 p (.lst [v, u])) := m3.weak fun _ f => f.elim
      have s3 := r3.s.step m3' (r3.s.wd.pure m3)
      exact hQ (.ref p) (.list [d, e]) env2 Fs2 n2 _ _ (r3.step m3' s3) (DD.lst upd_same (.cons ((dv.mono r2.x.gr).mono m3.gr) (.cons (du.mono m3.gr) .nil))) k2
  | .callC c, env, Fs, n, G, H, Φ, s, hk, Q, hQ => by
    refine sC hD hB hA c s (Dr.ok_bind.mp hk) fun v r env' Fs' Fr n1 G2 H2 r1 tr d1 d2 d3 k => ?_
    obtain ⟨x, ex, k2⟩ := Dr.ok_opt (Dr.ok_bind.mp k)
    cases r with
    | d y =>
      cases ex
      cases tr with
      | d dv => exact hQ v x env' Fs' n1 G2 H2 r1 dv k2
    | lst _ => cases ex
    | dct _ _ => cases ex
    | ins _ _ => cases ex
  | .pop0 p, env, Fs, n, G, H, Φ, s, hk, Q, hQ => lPop0 hD hB hA p s hk hQ
  | .pop1 p ix, env, Fs, n, G, H, Φ, s, hk, Q, hQ => lPop1 hD hB hA p ix s hk hQ
  | .call f as, env, Fs, n, G, H, Φ, s, hk, Q, hQ => by
    refine lAs hD hB hA as s (Dr.ok_bind.mp (show ((evLA as env).bind _).ok n Φ from hk)) fun vs ts n1 G1 H1 m1 s1 ar k => ?_
    obtain ⟨p, hf, k2⟩ := Dr.ok_pur (Dr.ok_bind.mp k)
    by_cases nd : (ownIx as).Nodup
    · rw [if_pos nd] at k2
      obtain ⟨env', hb, k3⟩ := Dr.ok_opt (Dr.ok_bind.mp k2)
      obtain ⟨x, ex, k4⟩ := Dr.ok_opt (Dr.ok_bind.mp k3)
      have r1 := (Rel.refl s).step m1 s1
      obtain ⟨r, us⟩ := p
      cases r with
      | d y =>
        cases ex
        refine lCall hB hA s1 ar nd hf hb fun v Fs' Fr G2 H2 r2 tr d1 d2 d3 => ?_
        cases tr with
        | d dv => exact hQ v x env' Fs' n1 G2 H2 (r1.trans r2) dv k4
      | lst _ => cases ex
      | dct _ _ => cases ex
      | ins _ _ => cases ex
    · rw [if_neg nd] at k2
      exact k2.elim
end
end LT
namespace LT
open PySem PySem.Spec PyProof.Rows L2 ZX DL RT DP
theorem innAt_ok {ts : List Tr} {j n : Nat} {Φ : List Tr → Nat → Prop} (h : (innAt ts j).ok n Φ) : ∃ us, ts[j]? = some (.lst us) ∧ Φ us n := by
  unfold innAt at h
  split at h
  · rename_i us e
    exact ⟨us, e, h⟩
  · exact h.elim
theorem putTs_ok : ∀ {is : List Nat} {ts : List Tr} {env : LEn} {n : Nat} {Φ : LFl → Nat → Prop}, (putTs is ts env).ok n Φ → ∃ env', putTs is ts env = .ret (.nx env') ∧ Φ (.nx env') n
  | [], [], env, n, Φ, h => ⟨env, rfl, h⟩
  | [], _ :: _, env, n, Φ, h => h.elim
  | _ :: _, [], env, n, Φ, h => h.elim
  | i :: is, t :: ts, env, n, Φ, h => by
    by_cases c : free env i = true
    · have e : putTs (i :: is) (t :: ts) env = putTs is ts (env.set i (.tr t)) := if_pos c
      rw [e] at h ⊢
      exact putTs_ok h
    · rw [show putTs (i :: is) (t :: ts) env = .bad from if_neg c] at h
      exact h.elim
theorem clN_le (nm : Str) : (clN nm).length ≤ 5 := by
  unfold clN
  split
  · decide
  · split
    · decide
    · split
      · decide
      · exact Nat.zero_le _
theorem putF_at {x : Str} {v : V} : ∀ {fs : List (Str × V)} {k : Nat} {w : V}, (fs.map (·.1)).Nodup → fs[k]? = some (x, w) → putF x v fs = fs.set k (x, v)
  | [], _, _, _, h => by simp at h
  | p :: r, 0, w, _, h => by
    have e : p = (x, w) := by simpa using h
    subst e
    exact if_pos rfl
  | p :: r, k + 1, w, nd, h => by
    have h' : r[k]? = some (x, w) := by simpa using h
    obtain ⟨n1, n2⟩ := List.nodup_cons.mp (show (p.1 :: r.map (·.1)).Nodup from nd)
    have ne : ¬ p.1 = x := fun z => n1 (by rw [z]; exact List.mem_map_of_mem (f := (·.1)) (List.mem_of_getElem? h'))
    show (if p.1 = x then (p.1, v) :: r else (p.1, p.2) :: putF x v r) = p :: r.set k (x, v)
    rw [if_neg ne, putF_at n2 h']
theorem putF_new {x : Str} {v : V} : ∀ {fs : List (Str × V)}, x ∉ fs.map (·.1) → putF x v fs = fs ++ [(x, v)]
  | [], _ => rfl
  | p :: r, h => by
    have ne : ¬ p.1 = x := fun z => h (by rw [← z]; exact List.mem_cons_self ..)
    show (if p.1 = x then (p.1, v) :: r else (p.1, p.2) :: putF x v r) = _
    rw [if_neg ne, putF_new fun z => h (List.mem_cons_of_mem _ z)]
    rfl
theorem nd_take {α : Type} {l : List α} {k : Nat} {x : α} (nd : l.Nodup) (h : l[k]? = some x) : x ∉ l.take k := fun z => by
  have e : l.take (k + 1) = l.take k ++ [x] := by rw [List.take_succ, h]; rfl
  have n := nd.sublist (List.take_sublist (k + 1) l)
  rw [e] at n
  exact (List.nodup_append.mp n).2.2 x z x (List.mem_singleton.mpr rfl) rfl
section
variable {C : Ck} {K : PySem.W.Frag} {G H : Hp}
theorem TRs.setV : ∀ (k : Nat) {vs : List V} {ts : List Tr} {F : List Addr} {H' : Hp} {v' : V} {t' : Tr} {F' : List Addr}, TRs C K G H vs ts F → k < ts.length → TR C K G H' v' t' F' → (∀ b ∈ F, H' b = H b) → (∀ b ∈ F', b ∉ F) → ∃ F2, TRs C K G H' (vs.set k v') (ts.set k t') F2 ∧ ∀ b ∈ F2, b ∈ F ∨ b ∈ F'
  | _, _, _, _, _, _, _, _, .nil, h, _, _, _ => by simp at h
  | 0, _, _, _, H', v', t', F', .cons (F := F1) (F' := F2) h r dj, _, h', kp, fr => by
    refine ⟨F' ++ F2, .cons h' (r.keep (fun _ _ e => e) fun b hb => ⟨kp b (List.mem_append_right _ hb), (r.foot b hb).1⟩) fun b hb hb2 => fr b hb (List.mem_append_right _ hb2), fun b hb => ?_⟩
    rcases List.mem_append.mp hb with z | z
    · exact .inr z
    · exact .inl (List.mem_append_right _ z)
  | k + 1, _, _, _, H', v', t', F', .cons (F := F1) (F' := F2) h r dj, hk, h', kp, fr => by
    obtain ⟨F3, q1, q2⟩ := TRs.setV k r (Nat.lt_of_succ_lt_succ hk) h' (fun b hb => kp b (List.mem_append_right _ hb)) fun b hb z => fr b hb (List.mem_append_right _ z)
    refine ⟨F1 ++ F3, .cons (h.keep (fun _ _ e => e) fun b hb => ⟨kp b (List.mem_append_left _ hb), (h.foot b hb).1⟩) q1 fun b hb hb2 => ?_, fun b hb => ?_⟩
    · rcases q2 b hb2 with z | z
      · exact dj b hb z
      · exact fr b z (List.mem_append_left _ hb)
    · rcases List.mem_append.mp hb with z | z
      · exact .inl (List.mem_append_left _ z)
      · exact (q2 b z).imp (fun w => List.mem_append_right _ w) id
variable {ob : Option Bo} {pin : Nat → V} {env : LEn} {Fs : Nat → List Addr} {n : Nat} {σ : L2.St}
theorem Sta.any (s : Sta C K ob pin env Fs n σ G H) {j : Nat} (hj : env[j]? = some .unk) (x : Option V) : Sta C K ob pin env Fs n (σ.set j x) G H := by
  have ne : ∀ {i e}, env[i]? = some e → e ≠ .unk → j ≠ i := fun h hn z => by
    rw [← z, hj] at h
    exact hn (Option.some.inj h).symm
  refine ⟨by rw [List.length_set]; exact s.len, fun i t h => ?_, fun i t h => ?_, fun i h => ?_, s.un, s.dj, s.nm, s.wd⟩
  · rw [List.getElem?_set_ne (ne h fun z => nomatch z)]
    exact s.tr i t h
  · rw [List.getElem?_set_ne (ne h fun z => nomatch z)]
    exact s.pn i t h
  · rw [List.getElem?_set_ne (ne h fun z => nomatch z)]
    exact s.bx i h
end
section
variable {q : Gq} {C : Ck} {ob : Option Bo} {pin : Nat → V}
variable (hD : HD q.K q.w q.da) (hB : HB q ob) (hA : q.any = true)
include hD hB hA
theorem lSetFd (p : Pl) (c k : Nat) (b : LB) {env : LEn} {Fs : Nat → List Addr} {n : Nat} {σ : L2.St} {G H : Hp} {Φ : LFl → Nat → Prop} (s : Sta C q.K ob pin env Fs n σ G H) (hk : (evL (.setFd p c k b) env).ok n Φ) (D : Ends) (x : DnL C q.K ob pin Fs G H Φ D) : tL q C (.setFd p c k b) D σ H := by
  refine lX hD hB hA b s (Dr.ok_bind.mp hk) fun v t F n1 G1 H1 m1 s1 tr fr k1 => ?_
  refine lP hD hB hA p s1 (Dr.ok_bind.mp k1) fun w r n2 G2 H2 m2 s2 pl k2 => ?_
  obtain ⟨t', et, k3⟩ := Dr.ok_opt (Dr.ok_bind.mp k2)
  have nM : ∀ a ∈ F, ¬ (mS ob).M a := fun a ha => not_M s.wd (fr a ha)
  have tr2 := tr_mv s1 m2 tr nM
  have nFs : ∀ a ∈ F, ∀ j, a ∉ Fs j := fun a ha j hj => by
    obtain ⟨_, o, e, _⟩ := s.foot hj
    rw [fr a ha] at e
    cases e
  obtain ⟨i, pt, t0⟩ := r
  cases t0 with
  | d _ => cases et
  | lst _ => cases et
  | dct _ _ => cases et
  | ins nm ts =>
    have et' : (if nm = clsN c ∧ k < (clN nm).length then (if k < ts.length then some (Tr.ins nm (ts.set k t)) else if k = ts.length then some (.ins nm (ts ++ [t])) else none) else none) = some t' := et
    by_cases c1 : nm = clsN c ∧ k < (clN nm).length
    · rw [if_pos c1] at et'
      obtain ⟨rfl, hk⟩ := c1
      obtain ⟨a, F1, rfl, trO, ha, hs, put⟩ := Rel.putP pl (((Rel.refl s).step m1 s1).step m2 s2)
      cases trO with
      | @ins _ cc dx _ fs _ F0 hh g ec tr0 nn =>
        have aF : a ∉ F := fun z => nFs a z i (hs a ha)
        have hlen : fs.length ≤ 5 := by
          have := congrArg List.length ec.2
          rw [List.length_map, List.length_take] at this
          have := clN_le (clsN c)
          omega
        have ftl : fs.length = ts.length := by
          have := tr0.len
          rw [List.length_map] at this
          exact this
        have nk : (clN (clsN c))[k]? = some (fnC c k) := by
          rw [fnC_eq hk, List.getD_eq_getElem?_getD, List.getElem?_eq_getElem hk]
          rfl
        refine ⟨a, cc, dx, fs, rfl, hh, ec.1.cl, ec.1.no _ (List.mem_of_getElem? nk), by omega, ?_⟩
        have keep0 : ∀ o, ∀ b ∈ F0, upd H2 a o b = H2 b := fun o b hb => upd_ne fun z => nn (by rw [← z]; exact hb)
        have trN : ∀ o, TR C q.K G2 (upd H2 a o) v t F := fun o => tr2.keep (fun _ _ e => e) fun b hb => ⟨upd_ne fun z => aF (by rw [← z]; exact hb), (tr2.foot b hb).1⟩
        have nF0 : ∀ b ∈ F, b ∉ F0 := fun b hb z => nFs b hb i (hs b (List.mem_cons_of_mem _ z))
        have fin : ∀ F2 : List Addr, (∀ b ∈ F2, b ∈ F0 ∨ b ∈ F) → (a ∉ F2) ∧ ∀ b ∈ a :: F2, b ∈ a :: F0 ∨ ((∀ j, b ∉ Fs j) ∧ ¬ (mS ob).M b ∧ (Fp Fs b ∨ H b = none)) := fun F2 h => ⟨fun z => (h a z).elim nn aF, fun b hb => by
          rcases List.mem_cons.mp hb with rfl | hb
          · exact .inl (List.mem_cons_self ..)
          · exact (h b hb).imp (fun z => List.mem_cons_of_mem _ z) fun z => ⟨nFs b z, nM b z, .inr (fr b z)⟩⟩
        by_cases c2 : k < ts.length
        · rw [if_pos c2] at et'
          cases et'
          have hf : fs[k]? = some (fnC c k, (fs[k]'(by omega)).2) := by
            have h1 : (fs.map (·.2))[k]? = some (fs[k]'(by omega)).2 := by rw [List.getElem?_map, List.getElem?_eq_getElem (by omega)]; rfl
            have := (fst_at ec.2 h1).1
            rw [← fnC_eq hk] at this
            exact this
          have ep := putF_at (v := v) (fld_nd ec.2) hf
          rw [ep]
          obtain ⟨F2, q1, q2⟩ := TRs.setV k tr0 c2 (trN (.ins cc dx (fs.set k (fnC c k, v)))) (keep0 _) nF0
          obtain ⟨f1, f2⟩ := fin F2 q2
          have e1 : (fs.set k (fnC c k, v)).map (·.1) = (clN (clsN c)).take (fs.set k (fnC c k, v)).length := by
            rw [List.length_set, ← ec.2, List.map_set]
            refine List.ext_getElem? fun i => ?_
            by_cases ci : k = i
            · subst ci
              rw [List.getElem?_set_self (by rw [List.length_map]; omega), List.getElem?_map, hf]
              rfl
            · rw [List.getElem?_set_ne ci]
          have e2 : (fs.set k (fnC c k, v)).map (·.2) = (fs.map (·.2)).set k v := by rw [List.map_set]
          obtain ⟨Fs', r2⟩ := put (.ins cc dx (fs.set k (fnC c k, v))) (.ins (clsN c) (ts.set k t)) (a :: F2) (.ins upd_same g ⟨ec.1, e1⟩ (by rw [e2]; exact q1) f1) f2
          exact x.nx σ _ Fs' n2 G2 _ r2 k3
        · rw [if_neg c2] at et'
          by_cases c3 : k = ts.length
          · rw [if_pos c3] at et'
            cases et'
            have ek : k = fs.length := by omega
            have hn : fnC c k ∉ fs.map (·.1) := by
              rw [ec.2, ← ek]
              exact nd_take (clN_nd _) nk
            have ep := putF_new (v := v) hn
            rw [ep]
            have q1 := TRs.snoc (q := q) (tr0.keep (G' := G2) (H' := upd H2 a (.ins cc dx (fs ++ [(fnC c k, v)]))) (fun _ _ e => e) fun b hb => ⟨keep0 _ b hb, (tr0.foot b hb).1⟩) (trN (.ins cc dx (fs ++ [(fnC c k, v)]))) fun b hb z => nF0 b z hb
            obtain ⟨f1, f2⟩ := fin (F0 ++ F) fun b hb => List.mem_append.mp hb
            have e1 : (fs ++ [(fnC c k, v)]).map (·.1) = (clN (clsN c)).take (fs ++ [(fnC c k, v)]).length := by
              rw [List.map_append, List.length_append, ec.2]
              show _ = (clN (clsN c)).take (fs.length + 1)
              rw [List.take_succ, ← ek, nk]
              rfl
            obtain ⟨Fs', r2⟩ := put (.ins cc dx (fs ++ [(fnC c k, v)])) (.ins (clsN c) (ts ++ [t])) (a :: (F0 ++ F)) (.ins upd_same g ⟨ec.1, e1⟩ (by rw [List.map_append]; exact q1) f1) f2
            exact x.nx σ _ Fs' n2 G2 _ r2 k3
          · rw [if_neg c3] at et'
            cases et'
    · rw [if_neg c1] at et'
      cases et'
theorem lAppP (p : Pl) (bw : Bool) (e : E) {env : LEn} {Fs : Nat → List Addr} {n : Nat} {σ : L2.St} {G H : Hp} {Φ : LFl → Nat → Prop} (s : Sta C q.K ob pin env Fs n σ G H) (hk : (evL (.appP p bw e) env).ok n Φ) (D : Ends) (x : DnL C q.K ob pin Fs G H Φ D) : tL q C (.appP p bw e) D σ H := by
  refine lP hD hB hA p s (Dr.ok_bind.mp hk) fun v r n1 G1 H1 m1 s1 pl k1 => ?_
  obtain ⟨i, pt, t0⟩ := r
  obtain ⟨ts, rfl, k2⟩ := lstD_ok (Dr.ok_bind.mp k1)
  obtain ⟨a0, xs0, F0, rfl, hh0, _⟩ := Rel.putPL pl ((Rel.refl s).step m1 s1)
  refine ⟨.inl ⟨rfl, _, .inl (.inl hh0)⟩, lE hD hB hA bw e s1 (Dr.ok_bind.mp k2) fun y d n2 G2 H2 m2 s2 dy k3 => ?_⟩
  obtain ⟨a, xs, F, ea, hh, tr, put⟩ := Rel.putPL (pl.step s1 m2) (((Rel.refl s).step m1 s1).step m2 s2)
  cases ea
  by_cases c : ts.length ≤ 100000
  · rw [if_pos c] at k3
    obtain ⟨Fs', r2⟩ := put (xs ++ [y]) (ts ++ [.d d]) (tr.snocD dy)
    exact ⟨a0, xs, y, rfl, rfl, hh, Nat.lt_of_le_of_lt (by rw [tr.len]; exact c) (by decide), x.nx σ _ Fs' n2 G2 _ r2 k3⟩
  · rw [if_neg c] at k3
    exact k3.elim
theorem lSetP (p : Pl) (bw : Bool) (ix e : E) {env : LEn} {Fs : Nat → List Addr} {n : Nat} {σ : L2.St} {G H : Hp} {Φ : LFl → Nat → Prop} (s : Sta C q.K ob pin env Fs n σ G H) (hk : (evL (.setP p bw ix e) env).ok n Φ) (D : Ends) (x : DnL C q.K ob pin Fs G H Φ D) : tL q C (.setP p bw ix e) D σ H := by
  refine lE hD hB hA bw e s (Dr.ok_bind.mp hk) fun y d n1 G1 H1 m1 s1 dy k1 => ?_
  refine lP hD hB hA p s1 (Dr.ok_bind.mp k1) fun v r n2 G2 H2 m2 s2 pl k2 => ?_
  obtain ⟨i, pt, t0⟩ := r
  obtain ⟨ts, rfl, k3⟩ := lstD_ok (Dr.ok_bind.mp k2)
  refine lE hD hB hA true ix s2 (Dr.ok_bind.mp k3) fun z dz n3 G3 H3 m3 s3 hz k4 => ?_
  obtain ⟨m, j, rfl, em, k5⟩ := asIx_ok (Dr.ok_bind.mp k4)
  cases hz
  obtain ⟨a, xs, F, rfl, hh, tr, put⟩ := Rel.putPL (pl.step s2 m3) ((((Rel.refl s).step m1 s1).step m2 s2).step m3 s3)
  by_cases c : isD (ts.getD j (.lst [])) = true
  · rw [if_pos c] at k5
    obtain ⟨Fs', r2⟩ := put (xs.set j y) (ts.set j (.d d)) (tr.setD j ((dy.mono m2.gr).mono m3.gr) c)
    exact ⟨a, xs, m, j, rfl, rfl, hh, by rw [tr.len]; exact em, x.nx σ _ Fs' n3 G3 _ r2 k5⟩
  · rw [if_neg c] at k5
    exact k5.elim
theorem lInsP (p : Pl) (jx : E) (bw : Bool) (e : E) {env : LEn} {Fs : Nat → List Addr} {n : Nat} {σ : L2.St} {G H : Hp} {Φ : LFl → Nat → Prop} (s : Sta C q.K ob pin env Fs n σ G H) (hk : (evL (.insP p jx bw e) env).ok n Φ) (D : Ends) (x : DnL C q.K ob pin Fs G H Φ D) : tL q C (.insP p jx bw e) D σ H := by
  refine lP hD hB hA p s (Dr.ok_bind.mp hk) fun v r n1 G1 H1 m1 s1 pl k1 => ?_
  obtain ⟨i, pt, t0⟩ := r
  obtain ⟨ts, rfl, k2⟩ := lstD_ok (Dr.ok_bind.mp k1)
  obtain ⟨a0, xs0, F0, rfl, hh0, _⟩ := Rel.putPL pl ((Rel.refl s).step m1 s1)
  refine ⟨.inl ⟨rfl, _, .inl (.inl hh0)⟩, lE hD hB hA true jx s1 (Dr.ok_bind.mp k2) fun z dz n2 G2 H2 m2 s2 hz k3 => ?_⟩
  refine lE hD hB hA bw e s2 (Dr.ok_bind.mp k3) fun y d n3 G3 H3 m3 s3 dy k4 => ?_
  obtain ⟨t, et, k5⟩ := Dr.ok_opt (Dr.ok_bind.mp k4)
  obtain ⟨a, xs, F, ea, hh, tr, put⟩ := Rel.putPL ((pl.step s1 m2).step s2 m3) ((((Rel.refl s).step m1 s1).step m2 s2).step m3 s3)
  cases ea
  cases dz with
  | int l =>
    cases hz
    obtain ⟨ds, e1, h2⟩ := Option.bind_eq_some_iff.mp (show (undT ts).bind (fun ds => if 0 ≤ l ∧ l ≤ 100000 ∧ ds.length ≤ 100000 then some (Tr.lst ((ds.take l.toNat ++ [d] ++ ds.drop l.toNat).map .d)) else none) = some t from et)
    obtain ⟨rfl, _⟩ := undT_eq e1
    by_cases c : 0 ≤ l ∧ l ≤ 100000 ∧ ds.length ≤ 100000
    · rw [if_pos c] at h2
      cases h2
      obtain ⟨dd, rfl⟩ := TRs.dat tr
      have dl := dd.len
      obtain ⟨Fs', r2⟩ := put (xs.take l.toNat ++ [y] ++ xs.drop l.toNat) ((ds.take l.toNat ++ [d] ++ ds.drop l.toNat).map .d) (TRs.ofD (DP.DDs.app (DP.DDs.app (dd.take _) (.cons dy .nil)) (dd.drop _)))
      exact ⟨a0, xs, l, y, rfl, rfl, hh, Nat.lt_of_le_of_lt (by rw [dl]; exact c.2.2) (by decide), c.1, by omega, x.nx σ _ Fs' n3 G3 _ r2 k5⟩
    · rw [if_neg c] at h2
      cases h2
  | none => cases et
  | bool _ => cases et
  | str _ => cases et
  | tuple _ => cases et
  | list _ => cases et
  | dict _ => cases et
theorem lAli (j : Nat) (t : T) (p1 p2 : Pl) (bw : Bool) (e : E) {env : LEn} {Fs : Nat → List Addr} {n : Nat} {σ : L2.St} {G H : Hp} {Φ : LFl → Nat → Prop} (s : Sta C q.K ob pin env Fs n σ G H) (hk : (evL (.ali j t p1 p2 bw e) env).ok n Φ) (D : Ends) (x : DnL C q.K ob pin Fs G H Φ D) : tL q C (.ali j t p1 p2 bw e) D σ H := by
  have key : ∀ (p : Pl) {n1 : Nat} {G1 H1 : Hp}, Mv (mS ob).M G H G1 H1 → Sta C q.K ob pin env Fs n1 σ G1 H1 → ((evPl p env).bind fun r => if free env j = true ∧ r.1 ≠ j then (lstD r.2.2).bind fun ts => (evEb bw e (env.set j .unk)).bind fun x => if ts.length ≤ 100000 then Dr.ret (LFl.nx (plPut (env.set j .unk) r.1 r.2.1 (.lst (ts ++ [.d x])))) else .bad else .bad).ok n1 Φ →
      tPl q p σ H1 fun v H2 => gName j v σ H2 fun σ' H' => tDrop (tBM q.K "list" rAppend (tVar j) (tCons (tE q e) tNil)) D σ' H' := fun p n1 G1 H1 m1 s1 k1 => by
    refine lP hD hB hA p s1 (Dr.ok_bind.mp k1) fun v r n2 G2 H2 m2 s2 pl k2 => ?_
    obtain ⟨i, pt, t0⟩ := r
    by_cases c : free env j = true ∧ i ≠ j
    · rw [if_pos (show free env j = true ∧ (i, pt, t0).1 ≠ j from c)] at k2
      obtain ⟨ts, rfl, k3⟩ := lstD_ok (Dr.ok_bind.mp k2)
      have hj := free_lt c.1
      have s3 : Sta C q.K ob pin (env.set j .unk) (updF Fs j []) n2 (σ.set j (some v)) G2 H2 := (s2.unk j).any (List.getElem?_set_self hj) _
      have r2 : Rel C q.K ob pin (Fp Fs) G H env Fs n2 σ G2 H2 := ((Rel.refl s).step m1 s1).step m2 s2
      have r3 : Rel C q.K ob pin (Fp Fs) G H (env.set j .unk) (updF Fs j []) n2 (σ.set j (some v)) G2 H2 := ⟨s3, r2.x, f_upd r2.f fun _ z => nomatch z⟩
      have pl3 : PlR (env.set j .unk) (σ.set j (some v)) H2 i pt (.lst ts) v := by
        obtain ⟨e0, t00, w0, g1, g2, g3, g4, g5, g6⟩ := pl
        exact ⟨e0, t00, w0, by rw [List.getElem?_set_ne (Ne.symm c.2)]; exact g1, g2, g3, g4, by rw [List.getElem?_set_ne (Ne.symm c.2)]; exact g5, g6⟩
      obtain ⟨a0, xs0, F0, rfl, hh0, _⟩ := Rel.putPL pl3 r3
      refine ⟨.ref a0, List.getElem?_set_self (by rw [s2.len]; exact hj), .inl ⟨rfl, _, .inl (.inl hh0)⟩, lE hD hB hA bw e s3 (Dr.ok_bind.mp k3) fun y d n4 G4 H4 m4 s4 dy k4 => ?_⟩
      obtain ⟨a, xs, F, ea, hh, tr, put⟩ := Rel.putPL (pl3.step s3 m4) (r3.step m4 s4)
      cases ea
      by_cases c : ts.length ≤ 100000
      · rw [if_pos c] at k4
        obtain ⟨Fs', r5⟩ := put (xs ++ [y]) (ts ++ [.d d]) (tr.snocD dy)
        exact ⟨a0, xs, y, rfl, rfl, hh, Nat.lt_of_le_of_lt (by rw [tr.len]; exact c) (by decide), x.nx _ _ Fs' n4 G4 _ r5 k4⟩
      · rw [if_neg c] at k4
        exact k4.elim
    · rw [if_neg (show ¬ (free env j = true ∧ (i, pt, t0).1 ≠ j) from c)] at k2
      exact k2.elim
  refine lT hD hB hA t s (Dr.ok_bind.mp hk) fun b n1 G1 H1 m1 s1 k1 => ?_
  cases b with
  | true => exact iteT (key p1 m1 s1 k1)
  | false => exact iteF (key p2 m1 s1 k1)
end
section
variable {q : Gq} {C : Ck} {ob : Option Bo} {pin : Nat → V}
variable (hD : HD q.K q.w q.da) (hB : HB q ob) (hA : q.any = true)
include hD hB hA
theorem sL : ∀ (t : LS) {env : LEn} {Fs : Nat → List Addr} {n : Nat} {σ : L2.St} {G H : Hp} {Φ : LFl → Nat → Prop}, Sta C q.K ob pin env Fs n σ G H → (evL t env).ok n Φ → ∀ D, DnL C q.K ob pin Fs G H Φ D → tL q C t D σ H
  | .next, env, Fs, n, σ, G, H, Φ, s, hk, D, x => x.nx _ _ _ _ _ _ (Rel.refl s) hk
  | .seq a b, env, Fs, n, σ, G, H, Φ, s, hk, D, x => by
    refine sL a s (Dr.ok_bind.mp hk) _ ⟨fun σ' env' Fs' n' G2 H2 r k => ?_, fun v y F σ' env' Fs' n' G2 H2 r d d1 d2 d3 k => x.rt v y F σ' env' Fs' n' G2 H2 r d d1 d2 d3 k, fun σ' env' Fs' n' G2 H2 r k => x.bk σ' env' Fs' n' G2 H2 r k, fun σ' env' Fs' n' G2 H2 r k => x.ct σ' env' Fs' n' G2 H2 r k⟩
    exact sL b r.s k D (x.at r)
  | .asg bw g e, env, Fs, n, σ, G, H, Φ, s, hk, D, x => by
    refine lE hD hB hA bw e s (Dr.ok_bind.mp hk) fun v d n1 G1 H1 m1 s1 dv k => ?_
    obtain ⟨env', ep, k2⟩ := Dr.ok_opt (Dr.ok_bind.mp k)
    exact lG g ep ((Rel.refl s).step m1 s1) dv _ fun σ2 Fs2 r2 => x.nx σ2 env' Fs2 n1 G1 H1 r2 k2
  | .newE bw i f, env, Fs, n, σ, G, H, Φ, s, hk, D, x => by
    refine lF hD hB hA bw f s (Dr.ok_bind.mp hk) fun l xs ds n1 G1 H1 m1 s1 nl gl hl dd k => ?_
    by_cases c : free env i = true
    · rw [if_pos c] at k
      exact x.nx _ _ _ n1 G1 H1 (((Rel.refl s).step m1 s1).setN (free_lt c) hl gl dd nl (fun j a ha => (s.foot ha).2.imp fun o h => h.1) (not_M s.wd nl) nl) k
    · rw [if_neg c] at k
      exact k.elim
  | .newL bw i e, env, Fs, n, σ, G, H, Φ, s, hk, D, x => by
    refine lE hD hB hA false e s (Dr.ok_bind.mp hk) fun v d n1 G1 H1 m1 s1 dv k => ?_
    obtain ⟨ds, hs, k2⟩ := asSeq_ok (Dr.ok_bind.mp k)
    have sq : ∃ a ys, v = .ref a ∧ (SqL q.K H1 a ys ∨ SqT q.K H1 a ys) ∧ DDs q.K G1 ys ds := by
      rcases hs with rfl | rfl
      · cases dv with
        | @lst a ys _ hh t => exact ⟨a, ys, rfl, .inl (.inl (.inl (s1.wd.sub _ _ hh))), t⟩
      · cases dv with
        | @tup a ys _ hh t => exact ⟨a, ys, rfl, .inr ((sqm s1.wd.sub hh)), t⟩
    obtain ⟨p0, ys, rfl, hsq, dd⟩ := sq
    refine ⟨p0, ys, rfl, hsq, fun p np => ?_⟩
    by_cases c : free env i = true
    · rw [if_pos c] at k2
      have g1 : G1 p = none := by
        cases e : G1 p with
        | none => rfl
        | some o => rw [s1.wd.sub p o e] at np; cases np
      have m2 : Mv (mS ob).M G1 H1 G1 (upd H1 p (.lst ys)) := mv_lay s1.wd.sub np
      have s2 := s1.step m2 (wd_lay s1.wd np)
      have r2 := ((Rel.refl s).step m1 s1).step m2 s2
      exact x.nx _ _ _ n1 G1 _ (r2.setN (free_lt c) upd_same g1 dd np (fun j a ha => (s1.foot ha).2.imp fun o h => h.1) (not_M s1.wd np) (((Rel.refl s).step m1 s1).x.fresh np)) k2
    · rw [if_neg c] at k2
      exact k2.elim
  | .app bw i e, env, Fs, n, σ, G, H, Φ, s, hk, D, x => by
    obtain ⟨ts, el, k⟩ := ok_lst (Dr.ok_bind.mp hk)
    obtain ⟨u, e1, e2, ew⟩ := lst_ok el
    obtain ⟨a, xs0, F0, hv, h0, _⟩ := (Rel.refl s).list e1 e2
    refine ⟨.ref a, hv, .inl ⟨rfl, _, .inl (.inl h0)⟩, lE hD hB hA bw e s (Dr.ok_bind.mp k) fun v d n1 G1 H1 m1 s1 dv k2 => ?_⟩
    have r1 := (Rel.refl s).step m1 s1
    obtain ⟨a', xs, F, hv', h1, g1, t1, hF, hn⟩ := r1.list e1 e2
    rw [hv] at hv'
    cases hv'
    by_cases c : ts.length ≤ 100000
    · rw [if_pos c, ew] at k2
      refine ⟨a, xs, v, rfl, rfl, h1, Nat.lt_of_le_of_lt (by rw [t1.len]; exact c) (by decide), ?_⟩
      exact x.nx _ _ _ n1 G1 _ (r1.putL e1 e2 hv hF hn (t1.snocD dv)) k2
    · rw [if_neg c] at k2
      exact k2.elim
  | .setix bw i ix e, env, Fs, n, σ, G, H, Φ, s, hk, D, x => by
    obtain ⟨ts, el, k⟩ := ok_lst (Dr.ok_bind.mp hk)
    obtain ⟨u, e1, e2, ew⟩ := lst_ok el
    obtain ⟨a, xs0, F0, hv, h0, _⟩ := (Rel.refl s).list e1 e2
    refine lE hD hB hA bw e s (Dr.ok_bind.mp k) fun v d n1 G1 H1 m1 s1 dv k2 => ?_
    refine ⟨.ref a, hv, lE hD hB hA true ix s1 (Dr.ok_bind.mp k2) fun y d2 n2 G2 H2 m2 s2 dy k3 => ?_⟩
    have r2 := ((Rel.refl s).step m1 s1).step m2 s2
    obtain ⟨a', xs, F, hv', h1, g1, t1, hF, hn⟩ := r2.list e1 e2
    rw [hv] at hv'
    cases hv'
    cases dy with
    | int j =>
      obtain ⟨m, em, k4⟩ := Dr.ok_opt (show (Dr.opt (ixN ts.length j)).ok n2 _ from Dr.ok_bind.mp k3)
      by_cases c : isD (ts.getD m (.lst [])) = true
      · rw [if_pos c, ew] at k4
        refine ⟨a, xs, j, m, rfl, rfl, h1, by rw [t1.len]; exact em, ?_⟩
        exact x.nx _ _ _ n2 G2 _ (r2.putL e1 e2 hv hF hn (t1.setD m (dv.mono m2.gr) c)) k4
      · rw [if_neg c] at k4
        exact k4.elim
    | non => exact (Dr.ok_bind.mp k3).elim
    | bl _ => exact (Dr.ok_bind.mp k3).elim
    | str _ => exact (Dr.ok_bind.mp k3).elim
    | lst _ _ => exact (Dr.ok_bind.mp k3).elim
    | tup _ _ => exact (Dr.ok_bind.mp k3).elim
    | obj _ _ _ => exact (Dr.ok_bind.mp k3).elim
    | dct _ _ _ h1 _ _ =>
      subst h1
      exact (Dr.ok_bind.mp k3).elim
  | .rev i, env, Fs, n, σ, G, H, Φ, s, hk, D, x => by
    obtain ⟨ts, el, k⟩ := ok_lst (Dr.ok_bind.mp hk)
    obtain ⟨u, e1, e2, ew⟩ := lst_ok el
    obtain ⟨a, xs, F, hv, h0, g0, t0, hF, hn⟩ := (Rel.refl s).list e1 e2
    refine ⟨.ref a, hv, .inl ⟨rfl, _, .inl (.inl h0)⟩, a, xs, rfl, rfl, h0, ?_⟩
    by_cases c : ts.all isD = true
    · rw [if_pos c, ew] at k
      obtain ⟨ds, rfl, dd, rfl⟩ := t0.allD c
      have t1 : TRs C q.K G H xs.reverse ((ds.map Tr.d).reverse) [] := by
        rw [← List.map_reverse]
        exact TRs.ofD dd.reverse
      exact x.nx _ _ _ n G _ ((Rel.refl s).putL e1 e2 hv hF hn t1) k
    · rw [if_neg c] at k
      exact k.elim
  | .cond c a b, env, Fs, n, σ, G, H, Φ, s, hk, D, x => by
    refine lT hD hB hA c s (Dr.ok_bind.mp hk) fun v n1 G1 H1 m1 s1 k => ?_
    have r1 := (Rel.refl s).step m1 s1
    cases v with
    | true => exact iteT (sL a s1 k D (x.at r1))
    | false => exact iteF (sL b s1 k D (x.at r1))
  | .loop it g b, env, Fs, n, σ, G, H, Φ, s, hk, D, x => by
    refine lI hD hB hA it s (Dr.ok_bind.mp hk) fun J its n2 G2 H2 m s2 ⟨A, Y, wk, hA', hY⟩ k => ?_
    have x2 := x.at ((Rel.refl s).step m s2)
    refine for_it wk (fun i σ' H3 => ∃ G3 env' Fs' n', Rel C q.K ob pin (Fp Fs) G2 H2 env' Fs' n' σ' G3 H3 ∧ (forLL (lstepL (evL b) g) (its.drop i) env').ok n' Φ) ⟨G2, env, Fs, n2, Rel.refl s2, k⟩ (fun i σ' H3 _ ⟨G3, _, _, _, r3, _⟩ => hA' H3 fun a o e => r3.s.wd.sub a o (r3.x.gr a o e)) ?_ ?_
    · rintro i y σ' H3 H4 hlt ⟨G3, env', Fs', n', r3, k3⟩ hy
      have hd' : its[i]? = some its[i] := List.getElem?_eq_getElem hlt
      obtain ⟨G4, m4, dx⟩ := hY i its[i] G3 H3 y H4 hd' r3.x.gr r3.s.wd.sub hy
      have m4' : Mv (mS ob).M G3 H3 G4 H4 := m4.weak fun _ f => f.elim
      have s4 := r3.s.step m4' (r3.s.wd.pure m4)
      have r4 := r3.step m4' s4
      rw [List.drop_eq_getElem_cons hlt] at k3
      have k4 := Dr.ok_bind.mp (Dr.ok_bind.mp k3)
      obtain ⟨env2, ep, k5⟩ := Dr.ok_opt k4
      refine lG g ep r4 dx _ fun σ2 Fs2 r5 => ?_
      exact sL b r5.s k5 _ ⟨fun a b c d e f r6 k6 => ⟨e, b, c, d, r5.trans r6, k6⟩, fun a y F b c d e f g r6 dv d1 d2 d3 k6 => x2.rt a y F b c d e f g (r5.trans r6) dv d1 d2 (fun z hz => (d3 z hz).elim (fun ⟨j, hj⟩ => r5.f j z hj) fun w => .inr (r5.x.fresh w)) k6, fun a b c d e f r6 k6 => x2.nx a b c d e f (r5.trans r6) k6, fun a b c d e f r6 k6 => ⟨e, b, c, d, r5.trans r6, k6⟩⟩
    · rintro σ' H3 ⟨G3, env', Fs', n', r3, k3⟩
      rw [List.drop_length] at k3
      exact x2.nx σ' env' Fs' n' G3 H3 r3 k3
  | .ret bw e, env, Fs, n, σ, G, H, Φ, s, hk, D, x => by
    exact lE hD hB hA bw e s (Dr.ok_bind.mp hk) fun v d n1 G1 H1 m1 s1 dv k => x.rt v (.d d) [] σ env Fs n1 G1 H1 ((Rel.refl s).step m1 s1) (.d dv) (fun _ _ z => nomatch z) (fun _ z => nomatch z) (fun _ z => nomatch z) k
  | .callC g c, env, Fs, n, σ, G, H, Φ, s, hk, D, x => by
    cases g with
    | none => exact sC hD hB hA c s (Dr.ok_bind.mp hk) fun v r env' Fs' Fr n1 G1 H1 r1 tr d1 d2 d3 k => x.nx σ env' Fs' n1 G1 H1 r1 k
    | some j =>
      refine sC hD hB hA c s (Dr.ok_bind.mp hk) fun v r env' Fs' Fr n1 G1 H1 r1 tr d1 d2 d3 k => ?_
      have k' : (if free env' j = true ∧ j ∉ ownIx c.own then Dr.ret (.nx (env'.set j (.tr r))) else .bad : Dr LFl).ok n1 Φ := k
      by_cases c : free env' j = true ∧ j ∉ ownIx c.own
      · rw [if_pos c] at k'
        exact x.nx _ _ _ n1 G1 H1 ⟨r1.s.setT (free_lt c.1) tr (fun i a _ ha => d1 i a ha) d2, r1.x, f_upd r1.f d3⟩ k'
      · rw [if_neg c] at k'
        exact k'.elim
  | .retX X, env, Fs, n, σ, G, H, Φ, s, hk, D, x => sX hD hB hA X s (Dr.ok_bind.mp hk) fun v d env1 Fs1 n1 G1 H1 r1 dv k => x.rt v (.d d) [] σ env1 Fs1 n1 G1 H1 r1 (.d dv) (fun _ _ z => nomatch z) (fun _ z => nomatch z) (fun _ z => nomatch z) k
  | .retC c, env, Fs, n, σ, G, H, Φ, s, hk, D, x => sC hD hB hA c s (Dr.ok_bind.mp hk) fun v r env' Fs' Fr n1 G1 H1 r1 tr d1 d2 d3 k => x.rt v r Fr σ env' Fs' n1 G1 H1 r1 tr d1 d2 d3 k
  | .retB b, env, Fs, n, σ, G, H, Φ, s, hk, D, x => lX hD hB hA b s (Dr.ok_bind.mp hk) fun v t F n1 G1 H1 m1 s1 tr fr k => x.rt v t F σ env Fs n1 G1 H1 ((Rel.refl s).step m1 s1) tr (fun j a ha hj => by
      obtain ⟨_, o, e, _⟩ := s.foot hj
      rw [fr a ha] at e
      cases e) (fun a ha => not_M s.wd (fr a ha)) (fun a ha => .inr (fr a ha)) k
  | .drpX X, env, Fs, n, σ, G, H, Φ, s, hk, D, x => sX hD hB hA X s (Dr.ok_bind.mp hk) fun v d env1 Fs1 n1 G1 H1 r1 dv k => x.nx σ env1 Fs1 n1 G1 H1 r1 k
  | .appP p bw e, env, Fs, n, σ, G, H, Φ, s, hk, D, x => lAppP hD hB hA p bw e s hk D x
  | .insP p jx bw e, env, Fs, n, σ, G, H, Φ, s, hk, D, x => lInsP hD hB hA p jx bw e s hk D x
  | .setP p bw ix e, env, Fs, n, σ, G, H, Φ, s, hk, D, x => lSetP hD hB hA p bw ix e s hk D x
  | .setFd p c k b, env, Fs, n, σ, G, H, Φ, s, hk, D, x => lSetFd hD hB hA p c k b s hk D x
  | .ali j t p1 p2 bw e, env, Fs, n, σ, G, H, Φ, s, hk, D, x => lAli hD hB hA j t p1 p2 bw e s hk D x
  | .brk, env, Fs, n, σ, G, H, Φ, s, hk, D, x => x.bk _ _ _ _ _ _ (Rel.refl s) hk
  | .cnt, env, Fs, n, σ, G, H, Φ, s, hk, D, x => x.ct _ _ _ _ _ _ (Rel.refl s) hk
  | .frz i t, env, Fs, n, σ, G, H, Φ, s, hk, D, x => by
    obtain ⟨u, e, k⟩ := trAt_ok (Dr.ok_bind.mp hk)
    obtain ⟨y, ey, k2⟩ := Dr.ok_opt (Dr.ok_bind.mp k)
    obtain ⟨G', r⟩ := Rel.frz s (hB.any hA) e ey
    exact sL t r.s k2 D (x.at r)
  | .callM g f as, env, Fs, n, σ, G, H, Φ, s, hk, D, x => by
    have key : ∀ (Q : VK), (∀ v env' Fs' r us Fr n1 G1 H1, Rel C q.K ob pin (Fp Fs) G H env' Fs' n1 σ G1 H1 → TR C q.K G1 H1 v r Fr → (∀ j a, a ∈ Fr → a ∉ Fs' j) → (∀ a ∈ Fr, ¬ (mS ob).M a) → (∀ a ∈ Fr, Fp Fs a ∨ H a = none) → backs as us env = some env' → (endM (ownIx as) env' r g).ok n1 Φ → Q v H1) → tCall (spL C q.K f) [] E0 (tLA q as) σ H Q := fun Q hQ => by
      refine lAs hD hB hA as s (Dr.ok_bind.mp (show ((evLA as env).bind _).ok n Φ from hk)) fun vs ts n1 G1 H1 m1 s1 ar k => ?_
      obtain ⟨p, hf, k2⟩ := Dr.ok_pur (Dr.ok_bind.mp k)
      by_cases nd : (ownIx as).Nodup
      · rw [if_pos nd] at k2
        obtain ⟨env', hb, k3⟩ := Dr.ok_opt (Dr.ok_bind.mp k2)
        have r1 := (Rel.refl s).step m1 s1
        refine lCall hB hA s1 ar nd hf hb fun v Fs' Fr G2 H2 r2 tr d1 d2 d3 => ?_
        exact hQ v env' Fs' p.1 p.2 Fr n1 G2 H2 (r1.trans r2) tr d1 d2 (fun a ha => (d3 a ha).imp id fun z => r1.x.fresh z) hb k3
      · rw [if_neg nd] at k2
        exact k2.elim
    cases g with
    | none => exact key _ fun v env' Fs' r us Fr n1 G1 H1 r2 tr d1 d2 d3 hb k => x.nx σ env' Fs' n1 G1 H1 r2 k
    | some j =>
      refine key _ fun v env' Fs' r us Fr n1 G1 H1 r2 tr d1 d2 d3 hb k => ?_
      have k' : (if free env' j = true ∧ j ∉ ownIx as then Dr.ret (.nx (env'.set j (.tr r))) else .bad : Dr LFl).ok n1 Φ := k
      by_cases c : free env' j = true ∧ j ∉ ownIx as
      · rw [if_pos c] at k'
        exact x.nx _ _ _ n1 G1 H1 ⟨r2.s.setT (free_lt c.1) tr (fun i a _ ha => d1 i a ha) d2, r2.x, f_upd r2.f d3⟩ k'
      · rw [if_neg c] at k'
        exact k'.elim
  | .newT i b, env, Fs, n, σ, G, H, Φ, s, hk, D, x => by
    refine lX hD hB hA b s (Dr.ok_bind.mp hk) fun v t F n1 G1 H1 m1 s1 tr fr k => ?_
    by_cases c : free env i = true
    · rw [if_pos c] at k
      have r1 := (Rel.refl s).step m1 s1
      exact x.nx _ _ _ n1 G1 H1 ⟨r1.s.setT (free_lt c) tr (fun j a _ ha hj => by
        obtain ⟨_, o, e, _⟩ := s.foot hj
        rw [fr a ha] at e
        cases e) (fun a ha => not_M s.wd (fr a ha)), r1.x, f_upd r1.f fun a ha => .inr (fr a ha)⟩ k
    · rw [if_neg c] at k
      exact k.elim
  | .setix2 bw i ix jx e, env, Fs, n, σ, G, H, Φ, s, hk, D, x => by
    refine lE hD hB hA bw e s (Dr.ok_bind.mp hk) fun v d n1 G1 H1 m1 s1 dv k => ?_
    obtain ⟨ts, el, k1⟩ := ok_lst (Dr.ok_bind.mp k)
    obtain ⟨u, e1, e2, ew⟩ := lst_ok el
    have r1 := (Rel.refl s).step m1 s1
    obtain ⟨a, xs0, F0, hv, h0, _⟩ := r1.list e1 e2
    refine ⟨.ref a, hv, lE hD hB hA true ix s1 (Dr.ok_bind.mp k1) fun y d2 n2 G2 H2 m2 s2 dy k2 => ?_⟩
    have r2 := r1.step m2 s2
    obtain ⟨m, j, rfl, em, k3⟩ := asIx_ok (Dr.ok_bind.mp k2)
    cases dy
    obtain ⟨us, hu, k4⟩ := innAt_ok (Dr.ok_bind.mp k3)
    obtain ⟨a', xs, F, hv', h1, g1, t1, hF, hn⟩ := r2.list e1 e2
    rw [hv] at hv'
    cases hv'
    obtain ⟨b, ys0, F', q1, _⟩ := t1.inner j hu
    refine ⟨a, xs, m, .ref b, rfl, rfl, .inl (.inl h1), by rw [atI_ix (by rw [t1.len]; exact em)]; exact q1, ?_⟩
    refine lE hD hB hA true jx s2 (Dr.ok_bind.mp k4) fun z d3 n3 G3 H3 m3 s3 dz k5 => ?_
    have r3 := r2.step m3 s3
    obtain ⟨m', l, rfl, em', k6⟩ := asIx_ok (Dr.ok_bind.mp k5)
    cases dz
    obtain ⟨a', xs3, F3, hv', h3, g3, t3, hF3, hn3⟩ := r3.list e1 e2
    rw [hv] at hv'
    cases hv'
    have hx : xs3 = xs := by
      have e := m3.kp a _ h1 (s2.nm i a (by rw [hF]; exact List.mem_cons_self ..))
      rw [h3] at e
      cases e
      rfl
    subst hx
    obtain ⟨b', ys, F'', q1', q2, q3, q4, q5, q6⟩ := t3.inner j hu
    rw [q1] at q1'
    cases q1'
    by_cases c : isD (us.getD l (.lst [])) = true
    · rw [if_pos c, ew] at k6
      refine ⟨b, ys, m', l, rfl, rfl, q2, by rw [q4.len]; exact em', ?_⟩
      exact x.nx _ _ _ n3 G3 _ (r3.putI e1 e2 hv hF3 hn3 h3 q5 (q6 (ys.set l v) (us.set l (.d d)) (q4.setD l ((dv.mono m2.gr).mono m3.gr) c))) k6
    · rw [if_neg c] at k6
      exact k6.elim
  | .parY i j a b, env, Fs, n, σ, G, H, Φ, s, hk, D, x => by
    show tPar i j (tCons (tY q C a) (tCons (tY q C b) tNil)) D σ H
    have sY : ∀ (y : LY) {env : LEn} {Fs : Nat → List Addr} {n : Nat} {G H : Hp} {Φ : Tr × LEn → Nat → Prop}, Sta C q.K ob pin env Fs n σ G H → (evY y env).ok n Φ → ∀ {Q : VK}, (∀ v r env' Fs' Fr n' G2 H2, Rel C q.K ob pin (Fp Fs) G H env' Fs' n' σ G2 H2 → TR C q.K G2 H2 v r Fr → (∀ j a, a ∈ Fr → a ∉ Fs' j) → (∀ a ∈ Fr, ¬ (mS ob).M a) → (∀ a ∈ Fr, Fp Fs a ∨ H a = none) → Φ (r, env') n' → Q v H2) → tY q C y σ H Q := fun y {env Fs n G H Φ} s hk {Q} hQ => by
      cases y with
      | x e => exact sX hD hB hA e s (Dr.ok_bind.mp (show ((evX e env).bind _).ok n Φ from hk)) fun v d env1 Fs1 n1 G1 H1 r1 dv k1 => hQ v (.d d) env1 Fs1 [] n1 G1 H1 r1 (.d dv) (fun _ _ z => nomatch z) (fun _ z => nomatch z) (fun _ z => nomatch z) k1
      | c c => exact sC hD hB hA c s hk hQ
    refine sY a s (Dr.ok_bind.mp (show ((evY a env).bind _).ok n Φ from hk)) fun v r env1 Fs1 Fr1 n1 G1 H1 r1 tr1 d1 d2 d3 k1 => ?_
    refine sY b r1.s (Dr.ok_bind.mp k1) fun u q2 env2 Fs2 Fr2 n2 G2 H2 r2 tr2 e1 e2 e3 k2 => ?_
    have r3 := r1.trans r2
    have nf : ∀ a ∈ Fr1, ¬ Fp Fs1 a := fun a ha ⟨j, hj⟩ => d1 j a ha hj
    have kp : ∀ a ∈ Fr1, H2 a = H1 a ∧ G2 a = none := fun a ha => by
      obtain ⟨g0, o, ho, _⟩ := tr1.foot a ha
      exact ⟨by rw [ho]; exact r2.x.kp a o ho (nf a ha) (d2 a ha), by rw [r2.x.old a o ho (nf a ha)]; exact g0⟩
    have tr1' := tr1.keep r2.x.gr kp
    have ap : ∀ a ∈ Fr1, ¬ (Fp Fs1 a ∨ H1 a = none) := fun a ha z => by
      obtain ⟨_, o, ho, _⟩ := tr1.foot a ha
      rcases z with z | z
      · exact nf a ha z
      · rw [ho] at z
        cases z
    obtain ⟨env', e', k3⟩ := putTs_ok k2
    obtain ⟨_, Fs', r4⟩ := putTs_rel [i, j] r3 (TRs.cons tr1' (TRs.cons tr2 .nil (fun _ _ z => nomatch z)) (fun a ha z => by
      rw [List.append_nil] at z
      exact ap a ha (e3 a z))) (fun a ha j' hj => by
      rcases List.mem_append.mp ha with ha | ha
      · exact ap a ha (r2.f j' a hj)
      · rw [List.append_nil] at ha
        exact e1 j' a ha hj) (fun a ha => by
      rcases List.mem_append.mp ha with ha | ha
      · exact d2 a ha
      · rw [List.append_nil] at ha
        exact e2 a ha) (fun a ha => by
      rcases List.mem_append.mp ha with ha | ha
      · exact d3 a ha
      · rw [List.append_nil] at ha
        rcases e3 a ha with ⟨j', hj⟩ | z
        · exact r1.f j' a hj
        · exact .inr (r1.x.fresh z)) e'
    exact ⟨v, u, rfl, x.nx _ env' Fs' n2 G2 H2 r4 k3⟩
  | .parX i j a b, env, Fs, n, σ, G, H, Φ, s, hk, D, x => by
    show tPar i j (tCons (tX q C a) (tCons (tX q C b) tNil)) D σ H
    refine sX hD hB hA a s (Dr.ok_bind.mp (show ((evX a env).bind _).ok n Φ from hk)) fun v d env1 Fs1 n1 G1 H1 r1 dv k1 => ?_
    refine sX hD hB hA b r1.s (Dr.ok_bind.mp k1) fun u e env2 Fs2 n2 G2 H2 r2 du k2 => ?_
    have r3 := r1.trans r2
    obtain ⟨env', e', k3⟩ := putTs_ok k2
    obtain ⟨_, Fs', r4⟩ := putTs_rel [i, j] r3 (TRs.cons (F := []) (.d (dv.mono r2.x.gr)) (TRs.cons (F := []) (.d du) .nil (fun _ z => nomatch z)) (fun _ z => nomatch z)) (fun _ z => nomatch z) (fun _ z => nomatch z) (fun _ z => nomatch z) e'
    exact ⟨v, u, rfl, x.nx _ env' Fs' n2 G2 H2 r4 k3⟩
  | .asgX g X, env, Fs, n, σ, G, H, Φ, s, hk, D, x => by
    refine sX hD hB hA X s (Dr.ok_bind.mp hk) fun v d env1 Fs1 n1 G1 H1 r1 dv k => ?_
    obtain ⟨env', ep, k2⟩ := Dr.ok_opt (Dr.ok_bind.mp k)
    exact lG g ep r1 dv _ fun σ2 Fs2 r2 => x.nx σ2 env' Fs2 n1 G1 H1 r2 k2
  | .setk i kx X, env, Fs, n, σ, G, H, Φ, s, hk, D, x => by
    refine sX hD hB hA X s (Dr.ok_bind.mp hk) fun v d env1 Fs1 n1 G1 H1 r1 dv k => ?_
    obtain ⟨_, _, u0, e0, t0, _, k1⟩ := dctAt_ok (Dr.ok_bind.mp k)
    obtain ⟨a, _, _, hv, _⟩ := r1.dict e0 t0
    refine ⟨.ref a, hv, lE hD hB hA true kx r1.s (Dr.ok_bind.mp k1) fun y d2 n2 G2 H2 m2 s2 dy k2 => ?_⟩
    obtain ⟨ks, ds, u, e1, e2, ew, k3⟩ := dctAt_ok (Dr.ok_bind.mp k2)
    obtain ⟨ky, ek, k4⟩ := Dr.ok_opt (Dr.ok_bind.mp k3)
    have r2 := r1.step m2 s2
    obtain ⟨a', kvs, F, hv', h1, g1, e3, t1, hF, hn⟩ := r2.dict e1 e2
    rw [hv] at hv'
    cases hv'
    obtain ⟨ds', e4, dd, rfl⟩ := t1.allD (all_isD ds)
    have e5 : ds' = ds := (mapD_inj e4).symm
    subst e5
    by_cases c : ks.length ≤ 100000 ∧ ks.length = ds'.length
    · rw [if_pos (show (ks, ds').1.length ≤ 100000 ∧ (ks, ds').1.length = (ks, ds').2.length from c), ew] at k4
      have hy := ky_val dy ek
      subst hy
      refine ⟨a, _, rfl, DPut.k h1 (Nat.lt_of_le_of_lt (by rw [← List.length_map (f := (·.1)), e3]; exact c.1) (by decide)), ?_⟩
      obtain ⟨q1, q2⟩ := put_ds (k := ky) (dv.mono m2.gr) dd
      rw [e3] at q1 q2
      exact x.nx _ _ _ n2 G2 _ (r2.putO e1 e2 hv hF (.dct upd_same g1 q1 (TRs.ofD q2) hn)) k4
    · rw [if_neg (show ¬ ((ks, ds').1.length ≤ 100000 ∧ (ks, ds').1.length = (ks, ds').2.length) from c)] at k4
      exact k4.elim
  | .parB is b, env, Fs, n, σ, G, H, Φ, s, hk, D, x => by
    have hk' : (if is.length = 2 ∨ is.length = 3 then (evLB b env).bind fun ts => putTs is ts env else .bad : Dr LFl).ok n Φ := hk
    by_cases c : is.length = 2 ∨ is.length = 3
    · rw [if_pos c] at hk'
      have key : ∀ Q : List V → Hp → Prop, (∀ vs env' Fs' n1 G1 H1, vs.length = is.length → Rel C q.K ob pin (Fp Fs) G H env' Fs' n1 ((is.zip vs).foldl (fun s p => s.set p.1 (some p.2)) σ) G1 H1 → Φ (.nx env') n1 → Q vs H1) → tLB q C b σ H Q := fun Q hQ => by
        refine lB hD hB hA b s (Dr.ok_bind.mp hk') fun vs ts F n1 G1 H1 m1 s1 tr fr k => ?_
        obtain ⟨env', e, k2⟩ := putTs_ok k
        obtain ⟨hl, Fs', r2⟩ := putTs_rel is ((Rel.refl s).step m1 s1) tr (fun a ha j hj => by
          obtain ⟨_, o, e, _⟩ := s.foot hj
          rw [fr a ha] at e
          cases e) (fun a ha m => by
          obtain ⟨o, e⟩ := (mS ob).dom s.wd.inv m
          rw [fr a ha] at e
          cases e) (fun a ha => .inr (fr a ha)) e
        exact hQ vs env' Fs' n1 G1 H1 hl r2 k2
      match is, c, key with
      | [i, j], _, key =>
        refine key _ fun vs env' Fs' n1 G1 H1 hl r2 k2 => ?_
        match vs, hl, r2 with
        | [v, w], _, r2 => exact ⟨v, w, rfl, x.nx _ env' Fs' n1 G1 H1 r2 k2⟩
      | [i, j, l], _, key =>
        refine key _ fun vs env' Fs' n1 G1 H1 hl r2 k2 => ?_
        match vs, hl, r2 with
        | [v, w, u], _, r2 => exact ⟨v, w, u, rfl, x.nx _ env' Fs' n1 G1 H1 r2 k2⟩
      | [], c, _ => rcases c with c | c <;> cases c
      | [_], c, _ => rcases c with c | c <;> cases c
      | _ :: _ :: _ :: _ :: _, c, _ => rcases c with c | c <;> simp at c
    · rw [if_neg c] at hk'
      exact hk'.elim
end
def startL (N : Nat) (ts : List Tr) : LEn := ts.map (fun t => if isD t = true then LSl.tr t else .pn t) ++ List.replicate (N - ts.length) .unk
def outsL : List Tr → LEn → Option (List Tr)
  | [], _ => some []
  | .d x :: ts, _ :: es => (outsL ts es).map (.d x :: ·)
  | _ :: ts, .pn u :: es => (outsL ts es).map (u :: ·)
  | _, _ => none
def toldL (ts : List Tr) : LFl → Dr (Tr × List Tr)
  | .rt r env => (Dr.opt (outsL ts env)).bind fun us => .ret (r, us)
  | .nx env => (Dr.opt (outsL ts env)).bind fun us => .ret (.d .none, us)
  | _ => .bad
def runL (N p : Nat) (b : LS) : LF := fun ts => if ts.length = p then (evL b (startL N ts)).bind (toldL ts) else .bad
section
variable {C : Ck} {K : PySem.W.Frag} {G H : Hp}
theorem TRs.split : ∀ {vs : List V} {ts : List Tr} {F : List Addr}, TRs C K G H vs ts F → ∃ Fs : Nat → List Addr, (∀ i v t, vs[i]? = some v → ts[i]? = some t → TR C K G H v t (Fs i)) ∧ (∀ i, ts.length ≤ i → Fs i = []) ∧ (∀ i j a, i ≠ j → a ∈ Fs i → a ∉ Fs j) ∧ (∀ a, (∃ i, a ∈ Fs i) ↔ a ∈ F)
  | _, _, _, .nil => ⟨fun _ => [], fun i v t h => (by cases h), fun _ _ => rfl, fun _ _ _ _ h => (nomatch h), fun a => ⟨fun ⟨i, h⟩ => (nomatch h), fun h => (nomatch h)⟩⟩
  | v :: vs, t :: ts, _, .cons (F := F1) (F' := F2) h r dj => by
    obtain ⟨Fs, h1, h2, h3, h4⟩ := TRs.split r
    refine ⟨fun i => match i with
      | 0 => F1
      | i + 1 => Fs i, fun i w u a b => ?_, fun i hi => ?_, fun i j a ne ha hb => ?_, fun a => ⟨fun ⟨i, hi⟩ => ?_, fun ha => ?_⟩⟩
    · cases i with
      | zero =>
        cases a
        cases b
        exact h
      | succ i => exact h1 i w u a b
    · cases i with
      | zero => exact absurd hi (by simp)
      | succ i => exact h2 i (by simpa using hi)
    · cases i with
      | zero =>
        cases j with
        | zero => exact ne rfl
        | succ j => exact dj a ha ((h4 a).mp ⟨j, hb⟩)
      | succ i =>
        cases j with
        | zero => exact dj a hb ((h4 a).mp ⟨i, ha⟩)
        | succ j => exact h3 i j a (fun z => ne (congrArg Nat.succ z)) ha hb
    · cases i with
      | zero => exact List.mem_append_left _ hi
      | succ i => exact List.mem_append_right _ ((h4 a).mp ⟨i, hi⟩)
    · rcases List.mem_append.mp ha with ha | ha
      · exact ⟨0, ha⟩
      · obtain ⟨i, hi⟩ := (h4 a).mpr ha
        exact ⟨i + 1, hi⟩
theorem startL_at {N : Nat} {ts : List Tr} {i : Nat} {e : LSl} (h : (startL N ts)[i]? = some e) : e = .unk ∧ ts.length ≤ i ∨ ∃ t, ts[i]? = some t ∧ e = if isD t = true then LSl.tr t else .pn t := by
  unfold startL at h
  by_cases hi : i < ts.length
  · rw [List.getElem?_append_left (by simpa using hi), List.getElem?_map] at h
    obtain ⟨t, ht, e1⟩ := Option.map_eq_some_iff.mp h
    exact .inr ⟨t, ht, e1.symm⟩
  · rw [List.getElem?_append_right (by simpa using Nat.not_lt.mp hi), List.getElem?_replicate] at h
    split at h
    · cases h
      exact .inl ⟨rfl, by omega⟩
    · cases h
theorem Sta.start {N : List Str} {vs : List V} {ts : List Tr} {F : List Addr} (t : TRs C K G H vs ts F) (hs : ∀ a o, G a = some o → H a = some o) :
    ∃ Fs, Sta C K none (fun i => vs.getD i .non) (startL N.length ts) Fs 0 (L2.start N vs) G H ∧ ∀ a, (∃ i, a ∈ Fs i) ↔ a ∈ F := by
  obtain ⟨Fs, h1, h2, h3, h4⟩ := t.split
  have len := t.len
  have val : ∀ i u, ts[i]? = some u → ∃ v, vs[i]? = some v ∧ (L2.start N vs)[i]? = some (some v) ∧ vs.getD i .non = v := fun i u hu => by
    have hi : i < vs.length := by rw [len]; exact (List.getElem?_eq_some_iff.mp hu).1
    refine ⟨vs[i], List.getElem?_eq_getElem hi, ?_, by simp [hi]⟩
    unfold L2.start
    rw [List.getElem?_append_left (by simpa using hi), List.getElem?_map, List.getElem?_eq_getElem hi]
    rfl
  refine ⟨Fs, ⟨by simp [startL, L2.start, len], fun i u e => ?_, fun i u e => ?_, fun i e => ?_, fun i e => ?_, h3, fun i a _ z => z.elim, wd_pu hs⟩, h4⟩
  · rcases startL_at e with ⟨z, _⟩ | ⟨u', hu, z⟩
    · cases z
    · by_cases c : isD u' = true
      · rw [if_pos c] at z
        cases z
        obtain ⟨v, hv, h5, _⟩ := val i u hu
        exact ⟨v, h5, h1 i v u hv hu⟩
      · rw [if_neg c] at z
        cases z
  · rcases startL_at e with ⟨z, _⟩ | ⟨u', hu, z⟩
    · cases z
    · by_cases c : isD u' = true
      · rw [if_pos c] at z
        cases z
      · rw [if_neg c] at z
        cases z
        obtain ⟨v, hv, h5, h6⟩ := val i u hu
        rw [h6]
        exact ⟨h5, h1 i v u hv hu⟩
  · rcases startL_at e with ⟨z, _⟩ | ⟨u', hu, z⟩
    · cases z
    · split at z <;> cases z
  · by_cases hi : i < ts.length
    · have hu : ts[i]? = some ts[i] := List.getElem?_eq_getElem hi
      exfalso
      have : (startL N.length ts)[i]? = some (if isD ts[i] = true then LSl.tr ts[i] else .pn ts[i]) := by
        unfold startL
        rw [List.getElem?_append_left (by simpa using hi), List.getElem?_map, hu]
        rfl
      rw [this] at e
      split at e <;> cases e
    · exact h2 i (by omega)
end
section
variable {P : Program} {w : World} {K : PySem.W.Frag} {mg : Str → Option Value} {base : Heap} {x qual : Str} {st : Stmt} {f : Addr} {fd : FuncData} {k : Nat} {N ps : List Str} {b : LS} {C : Ck} {da : Nat → Option Addr}
theorem runL_len {p : Nat} {vs : List V} {H : Hp} {Q : VK} {E : XK} (h : spL C K (runL N.length p b) vs H Q E) : vs.length = p := by
  obtain ⟨G, ts, F', r, us, tr, _, hp, _⟩ := h
  rw [tr.len]
  unfold runL at hp
  split at hp
  · assumption
  · cases hp
end
section
variable {P : Program} {w : World} {K : PySem.W.Frag} {mg : Str → Option Value} {base : Heap} {x qual : Str} {st : Stmt} {f : Addr} {fd : FuncData} {k : Nat} {N ps : List Str} {b : LS} {C : Ck} {da : Nat → Option Addr}
end
end LT
namespace LT
open PySem PySem.Spec PyProof.Rows L2 ZX DL RT DP
structure CMR (P : Program) (w : World) (K : PySem.W.Frag) (mg : Str → Option Value) (base : Heap) (k : Nat) (C : Addr) (m : Str) (ps : List Str) (sp : Sp) : Prop where
  ex : ∃ (f : Addr) (fd : FuncData), FnOk P w K mg base CX0 k f fd ps sp ∧ Meth K C m f ∧ Binds K fd ps []
structure CIR (P : Program) (w : World) (K : PySem.W.Frag) (mg : Str → Option Value) (base : Heap) (k : Nat) (C : Addr) (x : Str) (ps : List Str) (sp : Sp) : Prop where
  ex : ∃ (f : Addr) (fd : FuncData), FnOk P w K mg base CX0 k f fd ps sp ∧ Mk K C f ∧ Binds K fd ps [] ∧ mg x = some (.ref C)
section
variable {X : Cx} {k j : Nat} {C : Addr} {m x : Str} {ps : List Str} {sp : Sp} {p pos apos : Pos} {o e : Expr} {es : List Expr} {ta : TE} {t : TA} {pl : Sem Bool}
end
end LT
namespace LT
open PySem PySem.Spec PyProof.Rows L2 ZX DL RT DP
section
variable {P : Program} {w : World} {K : PySem.W.Frag} {mg : Str → Option Value} {base : Heap} {x qual : Str} {st : Stmt} {f : Addr} {fd : FuncData} {k : Nat} {N ps : List Str} {b : LS} {C : Ck} {da : Nat → Option Addr}
end
end LT
namespace DP
open PySem PySem.Spec PyProof.Rows L2 ZX DL RT
end DP
namespace DP
open PySem PySem.Spec PyProof.Rows L2 ZX DL RT
end DP
namespace GG
open PySem PySem.Spec PyProof.Rows L2 ZX DL RT DP
end GG
namespace DP
open PySem PySem.Spec PyProof.Rows L2 ZX DL RT GG
end DP
namespace GG
open PySem PySem.Spec PyProof.Rows L2 ZX DL RT DP
end GG
namespace DP
open PySem PySem.Spec PyProof.Rows L2 ZX DL RT GG
end DP
namespace GG
open PySem PySem.Spec PyProof.Rows L2 ZX DL RT DP DX
end GG
namespace DP
open PySem PySem.Spec PyProof.Rows L2 ZX DL RT GG
end DP
namespace LZ
open PySem PySem.Spec PyProof.Rows L2 ZX
abbrev lsO (acc : List Value) (c : Nat) : Obj := { cls := .type "list", dict := none, data := .seq acc.toArray c, slots := #[] }
section
variable {prog : Program} {w : World} {A : Around} {R : Result → Shared → Prop}
theorem loop {I S : Addr} {res : Value} {n : Nat} (hn : n ≤ sizeLine) {St : Nat → List Value → Shared → Prop} {Fn : List Value → Shared → Prop}
    (item : ∀ i acc s (Q : Option Value → Shared → Prop) (E : Value → Shared → Prop), i < n → St i acc s → (∀ v s', St (i + 1) (acc ++ [v]) s' → (∀ o, s.heap.get? S = some o → s'.heap.get? S = some o) → Q (some v) s') → wpAny (model prog w) A.in1 (pyNext (.ref I)) Q E s)
    (frame : ∀ i acc (s : Shared) h', St i acc s → (∃ o, h'.get? S = some o) → (∀ b o, b ≠ S → s.heap.get? b = some o → h'.get? b = some o) → St i acc { s with heap := h' })
    (done : ∀ acc s (Q : Option Value → Shared → Prop) (E : Value → Shared → Prop), St n acc s → (∀ s', Fn acc s' → (∀ o, s.heap.get? S = some o → s'.heap.get? S = some o) → Q none s') → wpAny (model prog w) A.in1 (pyNext (.ref I)) Q E s) :
    ∀ (k i : Nat) (s : Shared) (acc : List Value) (c : Nat), n - i = k → i ≤ n → acc.length = i → St i acc s → s.heap.get? S = some (lsO acc c) →
      (∀ s' acc' c', Fn acc' s' → acc'.length = n → s'.heap.get? S = some (lsO acc' c') → R (.ok (.ret res)) s') →
      codeAny (model prog w) A (.builtin "list.extend.loop" ⟨[.ref S, .ref I, res], []⟩) R s := by
  intro k
  induction k with
  | zero =>
    intro i s acc c hk hi hl hst hS hR
    have hin : i = n := by omega
    subst hin
    refine codeAny_builtin F.entry_extend_loop ?_
    rw [Around.under_plainId F.plain_extend_loop _]
    show wpAny _ A.in1 (pyNext (.ref I) >>= _) _ _ s
    refine wpAny_bind (done acc s _ _ hst fun s' hm hk' => ?_)
    exact wpAny_pure (hR s' acc c hm hl (hk' _ hS))
  | succ k ih =>
    intro i s acc c hk hi hl hst hS hR
    have hlt : i < n := by omega
    refine codeAny_builtin F.entry_extend_loop ?_
    rw [Around.under_plainId F.plain_extend_loop _]
    show wpAny _ A.in1 (pyNext (.ref I) >>= _) _ _ s
    refine wpAny_bind (item i acc s _ _ hlt hst fun v s' hst' hm => ?_)
    have hS' := hm _ hS
    obtain ⟨c', hc⟩ : ∃ c', (s'.heap.update S (Obj.mapSeq (·.push v))).get? S = some (lsO (acc ++ [v]) c') := by
      have q := Heap.get?_update_self (Obj.mapSeq (·.push v)) hS' rfl
      rw [q]
      exact ⟨_, by simp only [Obj.mapSeq, lsO, List.push_toArray]; rfl⟩
    show wpAny _ A.in1 (updateSeq S (·.push v) >>= _) _ _ _
    refine wpAny_bind ?_
    refine wpAny_updateSeq hS' rfl (wpAny_pure ⟨plainId_quiet F.plain_extend_loop _, ih (i + 1) _ (acc ++ [v]) c' (by omega) hlt (by simp [hl]) (frame _ _ s' _ hst' ⟨_, hc⟩ fun b o hb e => ?_) hc hR⟩)
      (by show acc.toArray.size ≤ _; rw [List.size_toArray]; omega) (by show (acc.toArray.push v).size ≤ sizeLine + 1; rw [Array.size_push, List.size_toArray]; omega)
    exact (Heap.get?_update_other _ _ (Ne.symm hb)).trans e
end
inductive Ext (H : Hp) : List (V × V) → Hp → List V → Prop
  | nil : Ext H [] H []
  | snoc {ps : List (V × V)} {H2 : Hp} {ts : List V} {T : Addr} {x y : V} (h : Ext H ps H2 ts) (n : H2 T = none) : Ext H (ps ++ [(x, y)]) (upd H2 T (.tup [x, y])) (ts ++ [.ref T])
theorem Ext.gr {H : Hp} {ps : List (V × V)} {H2 : Hp} {ts : List V} (h : Ext H ps H2 ts) : ∀ a o, H a = some o → H2 a = some o := by
  induction h with
  | nil => exact fun _ _ e => e
  | snoc h n ih => exact fun a o e => by rw [upd_ne (ne_of_none (ih a o e) n)]; exact ih a o e
theorem Ext.len {H : Hp} {ps : List (V × V)} {H2 : Hp} {ts : List V} (h : Ext H ps H2 ts) : ts.length = ps.length := by
  induction h with
  | nil => rfl
  | snoc h n ih => simp [ih]
structure Off (S z TI TO i1 i2 a b : Addr) : Prop where
  z : z ≠ S
  TI : TI ≠ S
  TO : TO ≠ S
  i1 : i1 ≠ S
  i2 : i2 ≠ S
section
variable {X : Cx} {pins : List (Addr × Obj)} {σ : L2.St} {H1 : Hp} {xs ys : List V} {z TI TO i1 i2 a b S : Addr}
end
end LZ
namespace LZ
open PySem PySem.Spec PyProof.Rows L2 ZX
section
variable {prog : Program} {w : World} {A : Around} {E : Value → Shared → Prop} {s : Shared} {l : Addr} {its : List Value} {ns : List Int} {xs : Array (Int × Tok)}
end
end LZ
namespace DP
open PySem PySem.Spec PyProof.Rows L2 ZX DL RT
end DP
namespace DP
open PySem PySem.Spec PyProof.Rows L2 ZX DL RT
def gK {α : Type} : List α → List α → List α
  | [a], [w, g, r] => [a, r, g, w]
  | us, ws => us ++ ws
def wgr : List Str := ["word", "gap", "rooms"]
structure CITK (P : Program) (w : World) (K : PySem.W.Frag) (mg : Str → Option Value) (base : Heap) (k : Nat) (C : Addr) (ps : List Str) (sp : Sp) : Prop where
  ex : ∃ (f : Addr) (fd : FuncData), FnOk P w K mg base CX0 k f fd ps sp ∧ Mk K C f ∧ KBn K fd ps 1 wgr (fun us ws => gK us ws) (fun vs zs => gK vs zs) ∧ mg "Table" = some (.ref C)
theorem CITK.mono {P : Program} {w : World} {K : PySem.W.Frag} {mg : Str → Option Value} {base : Heap} {k : Nat} {C : Addr} {ps : List Str} {sp sp' : Sp} (c : CITK P w K mg base k C ps sp) (h : ∀ f fd, FnOk P w K mg base CX0 k f fd ps sp → FnOk P w K mg base CX0 k f fd ps sp') : CITK P w K mg base k C ps sp' := by
  obtain ⟨f, fd, F, M, b, g⟩ := c.ex
  exact ⟨f, fd, h f fd F, M, b, g⟩
end DP
namespace CNX
open PySem PySem.Spec PyProof.Rows L2 ZX DL RT
end CNX
namespace DP
open PySem PySem.Spec PyProof.Rows L2 ZX DL RT CNX
end DP
namespace SEX
open PySem PySem.Spec PyProof.Rows L2
abbrev nob (w : World) : Obj := { cls := .type "set", dict := none, data := .set #[] 0 (.fresh 0 0 (!w.params.followText "set-order")) }
abbrev GE : Array GenState → Array GenState → Prop := fun a b => b = a
variable {P : Program} {w : World} {A : Around} {E : Value → Shared → Prop} {s : Shared}
set_option maxRecDepth 100000 in
set_option maxHeartbeats 3200000 in
theorem set_any {l : Addr} {items : Array Value} {Q : Value → Shared → Prop} {Φ : Heap → Prop} (hh : A.handled = none) (hl : s.heap.IsList l items)
    (lp : ∀ (A2 : Around) (I : Addr) (fp : List Addr) (St : Nat → Shared → Prop) (s1 : Shared) (R : Result → Shared → Prop), A2.in1.units = A.units + 3 → WalksS P w A2.in1 I fp [I] GE items.size (fun i v => items[i]? = some v) St →
      s.heap.objs.size ∉ fp → s.heap.get? I = none → St 0 s1 → (∀ b o, s.heap.get? b = some o → s1.heap.get? b = some o) → s1.heap.get? s.heap.objs.size = some (nob w) →
      (∀ s', Moved (s.heap.objs.size :: [I]) GE s1 s' → Φ s'.heap → (∀ b o, s.heap.get? b = some o → s'.heap.get? b = some o) → R (.ok (.ret .none)) s') → codeAny (model P w) A2 (.builtin "set.update.loop" ⟨[.ref s.heap.objs.size, .ref I], []⟩) R s1)
    (fin : ∀ h' tk, Φ h' → (∀ b o, s.heap.get? b = some o → h'.get? b = some o) → Q (.ref s.heap.objs.size) { s with heap := h', toks := tk }) : wpAny (model P w) A (call (.type "set") [.ref l]) Q E s := by
  obtain ⟨mc, ml, hmro⟩ := F.called_set.mro
  have made := F.called_set.made; have sub := F.called_set.sub
  refine wpAny_call (codeAny_of_tree ?_)
  show wpAny _ _ (callAny (.type "set") _) _ _ _
  refine wpAny_pure ⟨Code.quiet_builtin _ (by decide +kernel), codeAny_builtin F.entry_type_call ?_⟩
  have wt := weight_type_call_type "set" [.ref l] []; rw [Around.under_plain wt rfl]
  have c1 := F.called_set.notType; have c2 := F.called_set.canCreate; have c3 := F.typeCall_set_1 (.ref l)
  repeat (any_goals (first | assumption | wp_step))
  refine codeAny_mono (code_set_led1 (.ref l) (E := E) (Q₁ := fun z s₁ => z = .ref s.heap.objs.size ∧ s₁ = { s with heap := s.heap.push (nob w) }) ⟨rfl, rfl⟩) fun r s₁ hr => ?_
  cases r with
  | error e => exact hr
  | ok fl =>
    cases fl with
    | ret z =>
      obtain ⟨rfl, rfl⟩ := hr
      have hS : (s.heap.push (nob w)).get? s.heap.objs.size = some (nob w) := Heap.get?_push_size _ rfl
      have hT : Shared.TypeIs { s with heap := s.heap.push (nob w) } (.ref s.heap.objs.size) "set" := ⟨_, hS, rfl⟩
      have i1 := F.called_set.init.lookup; have i2 := F.called_set.init.bind (.ref s.heap.objs.size)
      repeat (any_goals (first | assumption | wp_step))
      refine codeAny_mono (codeAny_call_builtin (R := wants (fun r s₂ => r = .none ∧ ∃ h' tk, s₂ = { s with heap := h', toks := tk } ∧ Φ h' ∧ ∀ b o, s.heap.get? b = some o → h'.get? b = some o) E) F.called_set.init.plain F.entry_set_init (check_set_init_1 hT ?_)) fun r₂ s₂ hr₂ => ?_
      · obtain ⟨ol, hol, hcl, nl, hdl⟩ := hl
        obtain ⟨kc, kd, kdata, ks⟩ := ol
        simp only at hcl hdl
        subst hcl; subst hdl
        have hol' : (s.heap.push (nob w)).get? l = some { cls := .type "list", dict := kd, data := .seq items nl, slots := ks } := Heap.get?_push_of_some _ hol
        have d1 := F.sub_list_set; have d2 := F.sub_list_frozenset
        have hne : (Value.type "list" == Value.type "dict") = false := by decide
        have hl1 : (s.heap.push (nob w)).IsList l items := ⟨_, hol', rfl, nl, rfl⟩
        unfold Builtin.«set.__init__» noKeywords Builtin.Frozenset.updateFrom
        generalize hPI : pyIter = PI
        wp_walk
        subst hPI
        refine wpAny_pyIter_list hl1 (wpAny_bind (wpAny_runValue ?_))
        have hlS : l < s.heap.objs.size := Heap.lt_size hol
        have nn : ∀ b, s.heap.objs.size ≤ b → s.heap.get? b = none := fun b hb => by
          cases q : s.heap.get? b with
          | none => rfl
          | some o => exact absurd (Nat.lt_of_lt_of_le (Heap.lt_size q) hb) (Nat.lt_irrefl _)
        have sz : (s.heap.push (nob w)).objs.size = s.heap.objs.size + 1 := Heap.size_push ..
        have neI : l ≠ (s.heap.push (nob w)).objs.size := by rw [sz]; exact Nat.ne_of_lt (Nat.lt_succ_of_lt hlS)
        refine lp _ _ [(s.heap.push (nob w)).objs.size, l] _ _ _ rfl ((Walks.list (by simp [hh]) _ l neI items).toS) ?_ (nn (s.heap.push (nob w)).objs.size (by rw [sz]; exact Nat.le_succ _)) ⟨⟨_, Heap.get?_push_size _ rfl, rfl, rfl⟩, hl1.push _⟩ (fun b o e => Heap.get?_push_of_some _ (Heap.get?_push_of_some _ e)) (Heap.get?_push_of_some _ hS) fun s' hm hP hk => ?_
        · rw [sz]
          simp only [List.mem_cons, List.not_mem_nil, or_false, not_or]
          exact ⟨Nat.ne_of_lt (Nat.lt_succ_self _), Nat.ne_of_gt hlS⟩
        · obtain ⟨h', g2, dr, tk', os'⟩ := s'
          have eg : g2 = s.gens := hm.gens
          have ed : dr = s.drawn := hm.drawn
          have eo : os' = s.os := hm.os
          subst eg; subst ed; subst eo
          show wpAny _ _ _ _ _ _
          refine wpAny_pure ?_
          show wpAny _ _ (ret Value.none) _ _ _
          exact wpAny_pure ⟨rfl, h', tk', rfl, hP, hk⟩
      · cases r₂ with
        | error e => exact hr₂
        | ok fl₂ =>
          cases fl₂ with
          | ret r =>
            obtain ⟨rfl, h', tk, rfl, hP, hk⟩ := hr₂
            repeat (any_goals (first | assumption | wp_step))
            exact fin _ _ hP hk
          | _ => exact hr₂.elim
    | _ => exact hr.elim
end SEX
namespace SEX
open PySem PySem.Spec PyProof.Rows L2
structure SetB (P : Program) (w : World) (h : Heap) (a : Addr) (L : List (Addr × List Int)) (es : Array (Int × Value)) (ep : Nat) (t : SetTable) : Prop where
  ob : ∃ o, h.get? a = some o ∧ o.ExactSet ∧ o.data = .set es ep t
  rows : es.toList = rowsOf P w L
  tab : TabOk t (L.map fun p => thash P w p.2)
  nd : (L.map (·.2)).Nodup
  tup : ∀ p ∈ L, IsT P w h p.2 p.1
  plain : t.plain = true
  led : w.params.followText "set-order" = true ∨ t.led = true
  room : L.length * 5 < t.mask * 3
  few : L.length ≤ 64
variable {P : Program} {w : World} {A : Around} {E : Value → Shared → Prop} {s : Shared} {a : Addr} {L : List (Addr × List Int)} {es : Array (Int × Value)} {ep : Nat} {t : SetTable}
theorem SetB.of {h : Heap} (R : SetTR P w h a L es ep t) : SetB P w h a L es ep t := ⟨R.ob, R.rows, R.tab, R.nd, R.tup, R.plain, R.led, R.room, Nat.le_of_lt R.few⟩
theorem SetB.tr {h : Heap} (R : SetB P w h a L es ep t) (hl : L.length < 64) : SetTR P w h a L es ep t := ⟨R.ob, R.rows, R.tab, R.nd, R.tup, R.plain, R.led, R.room, hl⟩
theorem SetB.size {h : Heap} (R : SetB P w h a L es ep t) : es.size = L.length := by
  have e := congrArg List.length R.rows
  unfold rowsOf at e
  rw [Array.length_toList, List.length_map] at e
  exact e
theorem SetB.fits {h : Heap} (R : SetB P w h a L es ep t) : t.fits es.size = true := by
  have e1 := R.tab.sz; have e2 := R.size; have e3 := R.room
  rw [List.length_map] at e1
  unfold SetTable.fits SetTable.fill
  rw [R.tab.dm, Bool.and_eq_true, beq_iff_eq, decide_eq_true_eq]
  exact ⟨by omega, show t.place.size + 0 ≤ t.mask by omega⟩
theorem SetB.keep {h h' : Heap} (R : SetB P w h a L es ep t) (ha : ∀ o, h.get? a = some o → h'.get? a = some o) (ht : ∀ p ∈ L, IsT P w h' p.2 p.1) : SetB P w h' a L es ep t := by
  obtain ⟨o, ho, r⟩ := R.ob
  exact ⟨⟨o, ha o ho, r⟩, R.rows, R.tab, R.nd, ht, R.plain, R.led, R.room, R.few⟩
theorem add64 (R : SetTR P w s.heap a L es ep t) (h63 : L.length = 63) {x : Addr} {k : List Int} (hx : IsT P w s.heap k x) (hu : A.units < cLine) {Q : Bool → Shared → Prop}
    (hQ : ∀ b h' L' es' ep' t', Heap.SameBut a s.heap h' → SetB P w h' a L' es' ep' t' → (k ∈ L.map (·.2) → L' = L) → (k ∉ L.map (·.2) → L'.Perm ((x, k) :: L)) → Q b { s with heap := h' }) : wpAny (model P w) A (setAddHashed a (.ref x) (thash P w k)) Q E s := by
  obtain ⟨o, ho, hex, hd⟩ := R.ob
  have hsl := R.size; have hroom := R.room
  unfold setAddHashed
  refine wpAny_holding ?_
  rw [show (100000 : Nat) = 99999 + 1 from rfl, setAddHashedIn_succ]
  refine wpAny_bind (wpAny_setState_of ho hd R.fits ?_)
  dsimp only
  refine wp_if_neg (by simp [byScan, Value.scannable]) ?_
  try refine wpAny_bind (wpAny_pure ?_)
  refine wpAny_bind (search_at R hx hu (fun hm => ?_) fun K hm hK hb => ?_)
  · dsimp only; exact wpAny_pure (hQ false s.heap L es ep t (.refl a s.heap) (.of R) (fun _ => rfl) fun z => absurd hm z)
  · dsimp only; refine wpAny_bind (wpAny_setState_of ho hd R.fits ?_)
    dsimp only
    obtain ⟨q1, q2, q3, q4, q5, q6, q7, q8, q9⟩ := R.tab.put hK hb
    have hp1 : (t.put (way t.mask (thash P w k) K)).1.plain = true := q6.trans R.plain
    generalize hpt : t.put (way t.mask (thash P w k) K) = pt at q1 q3 q4 q5 q6 q7 q8 q9 hp1 ⊢
    obtain ⟨t1, p⟩ := pt
    dsimp only at q1 q3 q4 q5 q6 q7 q8 q9 hp1 ⊢
    subst q1
    first
      | (refine wpAny_bind ?_; refine wp_if_pos hp1 ?_; refine hashBy_tup hx ?_)
      | refine wp_if_pos hp1 (wpAny_bind (hashBy_tup hx ?_))
    simp only [if_true]
    have hin : (SetTable.insertAt es (SetTable.below t.place (way t.mask (thash P w k) K)) (thash P w k, Value.ref x)).toList = rowsOf P w (L.take (SetTable.below t.place (way t.mask (thash P w k) K)) ++ (x, k) :: L.drop (SetTable.below t.place (way t.mask (thash P w k) K))) := (SetTable.toList_insertAt ..).trans (by rw [rows_put, R.rows])
    generalize hpp : SetTable.below t.place (way t.mask (thash P w k) K) = p at q2 q3 hin ⊢
    have pm := put_perm L p (x, k)
    have hlen : (L.take p ++ (x, k) :: L.drop p).length = 64 := pm.length_eq.trans (by rw [List.length_cons, h63])
    have hhs : (L.take p ++ (x, k) :: L.drop p).map (fun p => thash P w p.2) = (L.map fun p => thash P w p.2).take p ++ thash P w k :: (L.map fun p => thash P w p.2).drop p := (List.map_append ..).trans (by rw [List.map_cons, List.map_take, List.map_drop])
    rw [← hhs] at q3
    have nd1 : ((L.take p ++ (x, k) :: L.drop p).map (·.2)).Nodup := (pm.map (·.2)).nodup_iff.mpr (by rw [List.map_cons]; exact List.nodup_cons.mpr ⟨hm, R.nd⟩)
    have hes : (SetTable.insertAt es p (thash P w k, Value.ref x)).size = 64 := by
      have z := congrArg List.length hin
      unfold rowsOf at z
      rw [Array.length_toList, List.length_map, hlen] at z
      exact z
    generalize SetTable.insertAt es p (thash P w k, Value.ref x) = es1 at hin hes ⊢
    generalize L.take p ++ (x, k) :: L.drop p = L1 at pm hlen q3 nd1 hin
    refine wpAny_bind (wpAny_storeSet_of ho hd ?_ (by rw [hes, sizeLine_eq]; omega))
    have sb : Heap.SameBut a s.heap (s.heap.update a (Obj.putSet es1 t1)) := .update ..
    have ho1 := store_at (es' := es1) (t' := t1) ho hd
    generalize s.heap.update a (Obj.putSet es1 t1) = h1 at sb ho1 ⊢
    have m127 : t1.mask = 127 := by
      rw [q4]
      rcases R.tab.mok with e | e | e
      · rw [e] at hroom; omega
      · rw [e] at hroom; omega
      · exact e
    have hf : ¬ t1.tooFull = true := fun h => by
      unfold SetTable.tooFull at h
      rw [decide_eq_true_eq, q9, List.length_map, m127] at h
      omega
    first
      | refine wp_if_neg (by simp [hf]) ?_
      | (refine wpAny_bind ?_; refine wp_if_neg (by simp [hf]) ?_; refine wpAny_pure ?_)
    refine wpAny_pure (hQ true h1 L1 es1 (ep + 1) t1 sb ⟨⟨_, ho1, ⟨hex.1, hex.2.1, hex.2.2⟩, rfl⟩, hin, q3, nd1, fun p hp => ?_, hp1, by rw [q5]; exact R.led, by rw [hlen, m127]; decide, by rw [hlen]; exact Nat.le_refl _⟩ (fun z => absurd z hm) fun _ => pm)
    exact (List.mem_cons.mp (pm.mem_iff.mp hp)).elim (fun e => by rw [e]; exact isT_same hx ho hd sb) fun hp => isT_same (R.tup p hp) ho hd sb
theorem addB (R : SetB P w s.heap a L es ep t) (h : L.length < 64) {x : Addr} {k : List Int} (hx : IsT P w s.heap k x) (hu : A.units < cLine) {Q : Bool → Shared → Prop}
    (hQ : ∀ b h' L' es' ep' t', Heap.SameBut a s.heap h' → SetB P w h' a L' es' ep' t' → (k ∈ L.map (·.2) → L' = L) → (k ∉ L.map (·.2) → L'.Perm ((x, k) :: L)) → Q b { s with heap := h' }) : wpAny (model P w) A (setAddHashed a (.ref x) (thash P w k)) Q E s := by
  by_cases c : L.length + 1 < 64
  · exact add_at (R.tr h) hx hu c fun b h' L' es' ep' t' sb r => hQ b h' L' es' ep' t' sb (.of r)
  · exact add64 (R.tr h) (by omega) hx hu hQ
theorem loopB {I : Addr} {fp wr : List Addr} {G : Array GenState → Array GenState → Prop} {n : Nat} {Pv : Nat → Value → Prop} {St : Nat → Shared → Prop} {R : Result → Shared → Prop}
    (W : WalksS P w A.in1 I fp wr G n Pv St) (S : Addr) (hSf : S ∉ fp) (ks : List (Addr × List Int)) (hn : n = ks.length) (h64 : ks.length ≤ 64) (hval : ∀ i v, Pv i v → ∃ p, ks[i]? = some p ∧ v = .ref p.1)
    (h0 : Heap) (hk : ∀ p ∈ ks, IsT P w h0 p.2 p.1) (hS0 : h0.get? S = none) (hw0 : ∀ b ∈ wr, h0.get? b = none) (hu : A.in1.units < cLine) :
    ∀ (m i : Nat) (s : Shared), n - i = m → i ≤ n → St i s → (∀ b o, h0.get? b = some o → s.heap.get? b = some o) → (∃ L es ep t, SetB P w s.heap S L es ep t ∧ Got ks i L) →
      (∀ s' L es ep t, Moved (S :: wr) G s s' → SetB P w s'.heap S L es ep t → Got ks n L → (∀ b o, h0.get? b = some o → s'.heap.get? b = some o) → R (.ok (.ret .none)) s') → codeAny (model P w) A (.builtin "set.update.loop" ⟨[.ref S, .ref I], []⟩) R s := by
  have nw : S ∉ wr := fun h => hSf (W.sub _ h)
  have kM : ∀ {s s' : Shared}, Moved wr G s s' → (∀ b o, h0.get? b = some o → s.heap.get? b = some o) → ∀ b o, h0.get? b = some o → s'.heap.get? b = some o := fun hm hkp b o e => hm.heap b o (fun hb => by rw [hw0 b hb] at e; cases e) (hkp b o e)
  intro m
  induction m with
  | zero =>
    intro i s hm0 hi hst hkp ⟨L, es, ep, t, hS, g⟩ hR
    obtain rfl : i = n := by omega
    refine codeAny_builtin F.entry_set_update_loop ?_
    rw [Around.under_plainId F.plain_set_update_loop _]
    show wpAny _ A.in1 (pyNext (.ref I) >>= _) _ _ s
    refine wpAny_bind (W.done s _ _ hst fun s' hm => ?_)
    have hkp' := kM hm hkp
    show wpAny _ A.in1 (ret Value.none) _ _ s'
    exact wpAny_pure (hR s' L es ep t (hm.mono fun b hb => List.mem_cons_of_mem _ hb) (hS.keep (fun o e => hm.heap S o nw e) fun p hp => isT_keep (hk p (List.mem_of_mem_take (g.sub p hp))) hkp') g hkp')
  | succ m ih =>
    intro i s hm0 hi hst hkp ⟨L, es, ep, t, hS, g⟩ hR
    have lt : i < n := by omega
    refine codeAny_builtin F.entry_set_update_loop ?_
    rw [Around.under_plainId F.plain_set_update_loop _]
    show wpAny _ A.in1 (pyNext (.ref I) >>= _) _ _ s
    refine wpAny_bind (W.item i s _ _ lt hst fun v s' hP hst' hm => ?_)
    obtain ⟨p, hp, rfl⟩ := hval i v hP
    have hkp' := kM hm hkp
    have hS' : SetB P w s'.heap S L es ep t := hS.keep (fun o e => hm.heap S o nw e) fun q hq => isT_keep (hk q (List.mem_of_mem_take (g.sub q hq))) hkp'
    have hx : IsT P w s'.heap p.2 p.1 := isT_keep (hk p (List.mem_of_getElem? hp)) hkp'
    show wpAny _ A.in1 (holding [Value.ref p.1] (setAdd S (.ref p.1)) >>= _) _ _ s'
    refine wpAny_bind (wpAny_holding ?_)
    unfold setAdd
    refine wpAny_holding (wpAny_bind (wpAny_pyHash_tuple hu hx ?_))
    refine addB (s := { s' with toks := s'.toks + (p.2.length + 1) }) hS' (by have := g.len; omega) hx hu fun b h' L' es' ep' t' sb r c1 c2 => ?_
    have g' : Got ks (i + 1) L' := (Classical.em (p.2 ∈ L.map (·.2))).elim (fun c => by rw [c1 c]; exact g.same hp c) fun c => g.more hp (c2 c)
    have hk2 : ∀ b o, h0.get? b = some o → h'.get? b = some o := fun b o e => (sb.2 b fun z => by rw [z, hS0] at e; cases e).trans (hkp' b o e)
    refine wpAny_pure ⟨plainId_quiet F.plain_set_update_loop _, ih (i + 1) _ (by omega) lt (W.frame _ s' _ _ hst' (Nat.le_add_right _ _) fun b hb o e => ?_) hk2 ⟨L', es', ep', t', r, g'⟩ fun s'' L2 e2 p2 t2 m2 r2 g2 k2 => ?_⟩
    · rw [sb.2 b fun h : b = S => hSf (by rw [← h]; exact hb)]; exact e
    · refine hR s'' L2 e2 p2 t2 (Moved.trans W.gtrans ((hm.mono fun b hb => List.mem_cons_of_mem _ hb).then_heap (Nat.le_add_right _ _) fun b o hb e => ?_) m2) r2 g2 k2
      rw [sb.2 b fun h : b = S => hb (by rw [h]; exact List.mem_cons_self)]; exact e
theorem set_tups {l : Addr} {items : Array Value} (ks : List (Addr × List Int)) {Q : Value → Shared → Prop} (hh : A.handled = none) (hl : s.heap.IsList l items) (hit : items.toList = ks.map fun p => Value.ref p.1) (hk : ∀ p ∈ ks, IsT P w s.heap p.2 p.1) (h64 : ks.length ≤ 64) (hu : A.units + 3 < cLine)
    (fin : ∀ (h' : Heap) (tk : Nat) L es ep t, SetB P w h' s.heap.objs.size L es ep t → Got ks ks.length L → (∀ b o, s.heap.get? b = some o → h'.get? b = some o) → Q (.ref s.heap.objs.size) { s with heap := h', toks := tk }) : wpAny (model P w) A (call (.type "set") [.ref l]) Q E s := by
  have sz : items.size = ks.length := by
    have q := congrArg List.length hit
    rw [Array.length_toList, List.length_map] at q
    exact q
  refine set_any (Φ := fun h' => ∃ L es ep t, SetB P w h' s.heap.objs.size L es ep t ∧ Got ks ks.length L) hh hl (fun A2 I fp St s1 R hU W nS nI st0 kp hS hR => ?_) fun h' tk ⟨L, es, ep, t, r, g⟩ k => fin h' tk L es ep t r g k
  have n0 : s.heap.get? s.heap.objs.size = none := by
    cases q : s.heap.get? s.heap.objs.size with
    | none => rfl
    | some o => exact absurd (Heap.lt_size q) (Nat.lt_irrefl _)
  refine loopB W s.heap.objs.size nS ks sz h64 (fun i v hv => ?_) s.heap hk n0 (fun b hb => by rw [List.mem_singleton.mp hb]; exact nI) (by rw [hU]; exact hu) items.size 0 s1 (Nat.sub_zero _) (Nat.zero_le _) st0 kp ⟨[], #[], 0, _, .of (setTR_fresh hS), Got.zero ks⟩ fun s' L es ep t m r g k => hR s' m ⟨L, es, ep, t, r, by rw [← sz]; exact g⟩ k
  have q : items.toList[i]? = some v := by rw [Array.getElem?_toList]; exact hv
  rw [hit, List.getElem?_map] at q
  obtain ⟨p, hp, e⟩ := Option.map_eq_some_iff.mp q
  exact ⟨p, hp, e.symm⟩
end SEX
namespace SEX
open PySem PySem.Spec PyProof.Rows L2 ZX DL RT DP GG
abbrev Tks := List (Addr × List Int)
abbrev rfs (ks : Tks) : List V := ks.map fun p => V.ref p.1
def SetOk (K : PySem.W.Frag) (x : V) (H : Hp) (l : Addr) (ks : Tks) : Prop := x = .ref l ∧ SqL K H l (rfs ks) ∧ (∀ p ∈ ks, SqT K H p.1 (p.2.map V.int)) ∧ ks.length ≤ 64
def rLenSetT (K : PySem.W.Frag) : V → Hp → VK → Prop := fun x H Q => ∃ (l : Addr) (ks : Tks), SetOk K x H l ks ∧ ∀ L : Tks, (∀ p ∈ L, p ∈ ks) → (∀ p ∈ ks, p.2 ∈ L.map (·.2)) → (L.map (·.2)).Nodup → Q (.int (L.length : Nat)) H
section
variable {X : Cx} {a : Expr} {ta : TE} {p p2 q pos : Pos}
theorem pe_lenSetT (hc : X.calm = true) (hu : X.A.units + 64 < cLine) (hg : Gl X "len") (hm : X.mg "len" = none) (hg2 : Gl X "set") (hm2 : X.mg "set" = none) (ha : PE X a ta)
    (na : starEach [a] X.env = (false, eval a X.env) :: starEach [] X.env := by rfl) : PE X (.Call (.Name "len" p) [.Call (.Name "set" p2) [a] [] q] [] pos) (tUn (rLenSetT X.K) ta) := by
  refine ⟨fun pins s σ H Q I h => ?_⟩
  refine Call_ (ld_blt I hg hm PySem.boot_len (PyProof.Rows.callWith_builtin1 (PyProof.Rows.args_cons ?_ rfl) rfl rfl))
  refine Call_ (ld_blt I hg2 hm2 PyProof.Rows.boot_set (PyProof.Rows.callWith_type1 (PyProof.Rows.args_cons (thn (ha.run pins s σ H _ I h) fun v s1 ⟨x, H1, I1, r1, q1⟩ => PyProof.Rows.args_nil ?_) na) na rfl))
  obtain ⟨l, ks, ⟨rfl, hq, hk, h64⟩, q1⟩ := q1
  cases r1
  obtain ⟨its, r, pl, hz⟩ := I1.list hq
  refine set_tups (P := X.prog) (w := X.w) ks (I1.ok.hd hc) pl.isList (by simpa using refs_of_vals r) (fun p hp => I1.isT (hk p hp)) h64 (by omega) fun h' tk L es ep t R g kp => PyProof.Rows.args_nil ?_
  obtain ⟨o, ho, hex, hd⟩ := R.ob
  have I2 : Inv X pins σ H1 { s1 with heap := h', toks := tk } := I1.kept kp
  have sz := R.size
  have few := R.few
  refine call_len_set ho hex hd R.fits (by omega) ⟨.int L.length, H1, I2.tok _, ⟨_, by rw [sz]⟩, q1 L (fun p hp => List.mem_of_mem_take (g.sub p hp)) (fun p hp => g.all p (by rw [List.take_length]; exact hp)) R.nd⟩
end
end SEX
namespace DP
open PySem PySem.Spec PyProof.Rows L2 ZX DL RT SEX
def intTs : List PyData → Option (List (List Int))
  | [] => some []
  | .tuple ds :: r => (kInts ds).bind fun k => (intTs r).map (k :: ·)
  | _ :: _ => none
theorem kInts_v {K : PySem.W.Frag} {G : Hp} : ∀ {vs : List V} {ds : List PyData} {k : List Int}, DDs K G vs ds → kInts ds = some k → vs = k.map V.int ∧ ds = k.map .int
  | _, _, _, .nil, e => by
    cases e
    exact ⟨rfl, rfl⟩
  | _, _, k, .cons (d := d) h t, e => by
    cases d with
    | int i =>
      obtain ⟨k', e1, rfl⟩ := Option.map_eq_some_iff.mp (show (kInts _).map (i :: ·) = some k from e)
      obtain ⟨rfl, rfl⟩ := kInts_v t e1
      cases h
      exact ⟨rfl, rfl⟩
    | none => cases e
    | bool _ => cases e
    | str _ => cases e
    | list _ => cases e
    | tuple _ => cases e
    | dict _ => cases e
theorem intTs_v {K : PySem.W.Frag} {G : Hp} : ∀ {vs : List V} {ds : List PyData} {xs : List (List Int)}, DDs K G vs ds → intTs ds = some xs → ∃ ks : SEX.Tks, vs = rfs ks ∧ ks.map (·.2) = xs ∧ (∀ p ∈ ks, SqT K G p.1 (p.2.map V.int)) ∧ ∀ p ∈ ks, DD K G (.ref p.1) (.tuple (p.2.map .int))
  | _, _, _, .nil, e => by
    cases e
    exact ⟨[], rfl, rfl, fun _ z => (nomatch z), fun _ z => (nomatch z)⟩
  | _, _, xs, .cons (d := d) h t, e => by
    cases d with
    | tuple ds =>
      obtain ⟨k, e1, e2⟩ := Option.bind_eq_some_iff.mp (show (kInts ds).bind (fun k => (intTs _).map (k :: ·)) = some xs from e)
      obtain ⟨r, e3, rfl⟩ := Option.map_eq_some_iff.mp e2
      obtain ⟨ks, rfl, rfl, f1, f2⟩ := intTs_v t e3
      cases h with
      | @tup a us _ hh tt =>
        obtain ⟨rfl, rfl⟩ := kInts_v tt e1
        refine ⟨(a, k) :: ks, rfl, rfl, fun p hp => ?_, fun p hp => ?_⟩
        · rcases List.mem_cons.mp hp with rfl | hp
          · exact hh
          · exact f1 p hp
        · rcases List.mem_cons.mp hp with rfl | hp
          · exact .tup hh tt
          · exact f2 p hp
    | none => cases e
    | bool _ => cases e
    | str _ => cases e
    | list _ => cases e
    | int _ => cases e
    | dict _ => cases e
def ddp : List (List Int) → List (List Int)
  | [] => []
  | x :: r => if x ∈ r then ddp r else x :: ddp r
theorem mem_ddp {y : List Int} : ∀ {xs : List (List Int)}, y ∈ ddp xs ↔ y ∈ xs
  | [] => Iff.rfl
  | x :: r => by
    unfold ddp
    split
    · rename_i h
      rw [mem_ddp (xs := r)]
      exact ⟨List.mem_cons_of_mem _, fun z => (List.mem_cons.mp z).elim (fun e => by rw [e]; exact h) id⟩
    · rw [List.mem_cons, List.mem_cons, mem_ddp (xs := r)]
theorem nd_ddp : ∀ xs : List (List Int), (ddp xs).Nodup
  | [] => .nil
  | x :: r => by
    unfold ddp
    split
    · exact nd_ddp r
    · rename_i h
      exact List.nodup_cons.mpr ⟨fun z => h (mem_ddp.mp z), nd_ddp r⟩
theorem ddp_perm {xs ys : List (List Int)} (nd : ys.Nodup) (h : ∀ y, y ∈ ys ↔ y ∈ xs) : ys.Perm (ddp xs) := (List.perm_ext_iff_of_nodup nd (nd_ddp xs)).mpr fun y => (h y).trans mem_ddp.symm
theorem set_mem {ks L : SEX.Tks} (h1 : ∀ p ∈ L, p ∈ ks) (h2 : ∀ p ∈ ks, p.2 ∈ L.map (·.2)) : ∀ y, y ∈ L.map (·.2) ↔ y ∈ ks.map (·.2) := fun y => ⟨fun h => by
  obtain ⟨p, hp, rfl⟩ := List.mem_map.mp h
  exact List.mem_map.mpr ⟨p, h1 p hp, rfl⟩, fun h => by
  obtain ⟨p, hp, rfl⟩ := List.mem_map.mp h
  exact h2 p hp⟩
def uLenSet : O1 where
  rel := rLenSetT
  f := fun d => match d with
    | .list ds => (intTs ds).bind fun xs => if xs.length ≤ 64 then some (.int ((ddp xs).length : Nat)) else none
    | _ => none
  ok := fun K d z h x G H hx hs Q hQ => by
    split at h
    · obtain ⟨xs, hn, h2⟩ := Option.bind_eq_some_iff.mp h
      split at h2
      · rename_i hc
        cases h2
        cases hx with
        | @lst a vs _ hl t =>
          obtain ⟨ks, rfl, rfl, f1, f2⟩ := intTs_v t hn
          rw [List.length_map] at hc
          refine ⟨a, ks, ⟨rfl, .inl (.inl (hs _ _ hl)), fun p hp => sqm hs (f1 p hp), hc⟩, fun L h1 h2 nd => ?_⟩
          have e := (ddp_perm nd (set_mem h1 h2)).length_eq
          rw [List.length_map] at e
          rw [e]
          exact hQ _ G H (Mv.refl hs) (DD.int _)
      · cases h2
    · cases h
theorem kInts_z : ∀ k : List Int, kInts (k.map .int) = some k
  | [] => rfl
  | i :: k => by
    show (kInts (k.map .int)).map (i :: ·) = _
    rw [kInts_z k]
    rfl
theorem intTs_map : ∀ xs : List (List Int), intTs (xs.map fun ns => .tuple (ns.map .int)) = some xs
  | [] => rfl
  | x :: xs => by
    show (kInts (x.map .int)).bind (fun k => (intTs (xs.map fun ns => .tuple (ns.map .int))).map (k :: ·)) = _
    rw [kInts_z, intTs_map xs]
    rfl
theorem f_lenSet {xs : List (List Int)} (h : xs.length ≤ 64) : uLenSet.f (.list (xs.map fun ns => .tuple (ns.map .int))) = some (.int ((ddp xs).length : Nat)) := by
  show (intTs _).bind _ = _
  rw [intTs_map]
  exact if_pos h
end DP
namespace SEX
open PySem PySem.Spec PyProof.Rows L2 ZX DL RT DP GG
section
variable {X : Cx} {a : Expr} {ta : TE} {p p2 q pos : Pos}
end
end SEX
namespace DP
open PySem PySem.Spec PyProof.Rows L2 ZX DL RT SEX
end DP
namespace DP
open PySem PySem.Spec PyProof.Rows L2 ZX DL RT
def a_bare : S :=
  (.ret (.op oRepT (.tup (.cons (cI 0) .nil)) (.cb bLen (.cons (.var 0) .nil))))
def sem_bare : Fs := run 1 1 a_bare
def x_net_of_1 : E :=
  (.var 6)
def q_net_of_1 : T :=
  (.tru tB' (.op oEq (.var 5) (.var 1)))
def x_net_of_2 : E :=
  (.var 6)
def q_net_of_2 : T :=
  (.tru tB' (.op oEq (.var 5) (.var 2)))
def a_net_of : S :=
  (.seq (.asg (.nm 3) (.cb bSum (.cons (.lc (.one wSeq (.var 0)) (.tp (.cons (.nm 5) (.cons (.nm 6) .nil))) [5, 6] q_net_of_1 x_net_of_1) .nil)))
    (.seq (.asg (.nm 4) (.cb bSum (.cons (.lc (.one wSeq (.var 0)) (.tp (.cons (.nm 5) (.cons (.nm 6) .nil))) [5, 6] q_net_of_2 x_net_of_2) .nil)))
    (.ret (.op oSub (.var 3) (.var 4)))))
def sem_net_of : Fs := run 7 3 a_net_of
def a_nets : S :=
  (.ret (.tup (.cons (.call sem_net_of (.cons (.var 0) (.cons (cS "L+") (.cons (cS "L-") .nil)))) (.cons (.call sem_net_of (.cons (.var 0) (.cons (cS "R+") (.cons (cS "R-") .nil)))) .nil))))
def sem_nets : Fs := run 1 1 a_nets
def a_reached : S :=
  (.seq (.asg (.nm 2) (.un uListRg (.cb bLen (.cons (.var 0) .nil))))
    (.seq (.cond (.tru tB' (.op oInS (.var 1) (.tup (.cons (cS "L+") (.cons (cS "L-") .nil))))) (.ret (.var 2)) .next)
    (.ret (.un uRevL (.var 2)))))
def sem_reached : Fs := run 3 2 a_reached
def b_run_done_1 : S :=
  (.seq (.cond (.tru tB' (.op oEq (.var 6) (cI 0))) .brk .next)
    (.seq (.asg (.nm 8) (.cb bMin (.cons (.var 6) (.cons (.ite (.tru tB' (.var 5)) (.op oSub (.op oIxQ (.var 0) (.var 7)) (.oix 4 (.var 7))) (.oix 4 (.var 7))) .nil))))
    (.seq (.augix 4 (.var 7) oAddA (.ite (.tru tB' (.var 5)) (.var 8) (.un uNeg (.var 8))))
    (.aug 6 oSubA (.var 8)))))
def a_run_done : S :=
  (.seq (.newL 4 (.var 1))
    (.seq (.asg (.nm 5) (.gin 0 (.var 2)))
    (.seq (.asg (.nm 6) (.var 3))
    (.seq (.loop (.one wSeq (.call sem_reached (.cons (.var 0) (.cons (.var 2) .nil)))) (.nm 7) b_run_done_1)
    (.frz 4 (.ret (.tup (.cons (.var 4) (.cons (.var 6) .nil)))))))))
def sem_run_done : Fs := run 9 4 a_run_done
def b_word_done_1 : S :=
  (.seq (.asg (.tp (.cons (.nm 3) (.cons (.nm 7) .nil))) (.call sem_run_done (.cons (.var 0) (.cons (.var 3) (.cons (.var 5) (.cons (.var 6) .nil))))))
    (.augix 4 (.gd 0 (.var 5)) oAddA (.var 7)))
def a_word_done : S :=
  (.seq (.asg (.nm 3) (.cb bList (.cons (.var 1) .nil)))
    (.seq (.newO 4 (.cons (cI 0) (.cons (cI 0) (.cons (cI 0) (.cons (cI 0) .nil)))))
    (.seq (.loop (.one wSeq (.var 2)) (.tp (.cons (.nm 5) (.cons (.nm 6) .nil))) b_word_done_1)
    (.frz 4 (.ret (.tup (.cons (.cb bTup (.cons (.var 3) .nil)) (.cons (.cb bTup (.cons (.var 4) .nil)) .nil))))))))
def sem_word_done : Fs := run 8 3 a_word_done
def a_breathed : S :=
  (.seq (.asg (.tp (.cons (.nm 3) (.cons (.nm 4) .nil))) (.call sem_word_done (.cons (.var 0) (.cons (.var 1) (.cons (.var 2) .nil)))))
    (.ret (.var 3)))
def sem_breathed : Fs := run 5 3 a_breathed
def a_brought_between : S :=
  (.ret (.cb bMax (.cons (.var 1) (.cons (.cb bMin (.cons (.var 0) (.cons (.var 2) .nil))) .nil))))
def sem_brought_between : Fs := run 3 3 a_brought_between
def a_full : S :=
  (.ret (.cb bTup (.cons (.var 0) .nil)))
def sem_full : Fs := run 1 1 a_full
def x_T___init___1 : E :=
  (.tup (.cons (.cb bMax (.cons (cI 0) (.cons (.op oSub (.var 9) (.op oIxT (.var 4) (cI 1))) .nil))) (.cons (.cb bMin (.cons (.var 9) (.cons (.op oIxT (.var 4) (cI 1)) .nil))) .nil)))
def x_T___init___2 : E :=
  (.tup (.cons (.cb bMin (.cons (.var 9) (.cons (.op oIxT (.var 4) (cI 0)) .nil))) (.cons (.cb bMax (.cons (cI 0) (.cons (.op oSub (.var 9) (.op oIxT (.var 4) (cI 0))) .nil))) .nil)))
def x_T___init___3 : E :=
  (.call sem_breathed (.cons (.var 4) (.cons (.var 10) (.cons (.var 3) .nil))))
def x_T___init___4 : E :=
  (.cb bSum (.cons (.var 10) .nil))
def x_T___init___5 : E :=
  (.op oIxT (.var 10) (cI 0))
def x_T___init___6 : E :=
  (.op oIxT (.call sem_breathed (.cons (.var 4) (.cons (.var 10) (.cons (.var 3) .nil)))) (cI 0))
def itI_T : It' := .st "row_rooms" (.cb bTup (.cons (.var 1) .nil))
def itR_T : List It' := [.st "gap" (.var 2),
  .st "net" (.op oIxT (.call sem_nets (.cons (.var 3) .nil)) (cI 0)),
  .two 4 2,
  .asg 5 (.un uListRg (.op oAdd (.cb bSum (.cons (.var 4) .nil)) (cI 1))),
  .asg 6 (.lc (.one wSeq (.var 5)) (.nm 9) [9] qY x_T___init___1),
  .asg 7 (.lc (.one wSeq (.var 5)) (.nm 9) [9] qY x_T___init___2),
  .asg 8 (.lc (.one wSeq (.var 6)) (.nm 10) [10] qY x_T___init___3),
  .st "totals" (.lc (.one wSeq (.var 8)) (.nm 10) [10] qY x_T___init___4),
  .st "lows" (.lc (.one wSeq (.var 8)) (.nm 10) [10] qY x_T___init___5),
  .st "highs" (.lc (.one wSeq (.var 7)) (.nm 10) [10] qY x_T___init___6)]
def sem_T___init__ : Fs := iniT 11 4 (itI_T :: itR_T)
def a_T_ahead_of : S :=
  (.ret (.call sem_brought_between (.cons (.op oAdd (.var 1) (.un uF2 (.var 0))) (.cons (.op oIxL (.un uF4 (.var 0)) (.var 2)) (.cons (.op oIxL (.un uF5 (.var 0)) (.var 2)) .nil)))))
def sem_T_ahead_of : Fs := run 3 3 a_T_ahead_of
def a_T_leads : S :=
  (.seq (.asg (.nm 2) (.cb bSum (.cons (.var 1) .nil)))
    (.seq (.asg (.nm 3) (.meth 1 sem_T_ahead_of (.var 0) (.cons (.op oIxQ (.var 1) (cI 0)) (.cons (.var 2) .nil))))
    (.ret (.tup (.cons (.var 3) (.cons (.op oSub (.op oIxL (.un uF3 (.var 0)) (.var 2)) (.var 3)) .nil))))))
def sem_T_leads : Fs := run 4 2 a_T_leads
def a_T_total : S :=
  (.ret (.op oIxL (.un uF3 (.var 0)) (.var 1)))
def sem_T_total : Fs := run 2 2 a_T_total
def a_T_walls : S :=
  (.ret (.tup (.cons (.op oIxL (.un uF4 (.var 0)) (.var 1)) (.cons (.op oIxL (.un uF5 (.var 0)) (.var 1)) .nil))))
def sem_T_walls : Fs := run 2 2 a_T_walls
def a_T_shift : S :=
  (.ret (.un uF2 (.var 0)))
def sem_T_shift : Fs := run 1 1 a_T_shift
def a_T_rooms : S :=
  (.ret (.un uF0 (.var 0)))
def sem_T_rooms : Fs := run 1 1 a_T_rooms
def a_T_spot : S :=
  (.ret (.un uF1 (.var 0)))
def sem_T_spot : Fs := run 1 1 a_T_spot
def a_T___eq__ : S :=
  (.seq (.cond (.not (.tru tB' (.isT (.var 1)))) (.ret (cB false)) .next)
    (.seq (.cond (.or (.tru tB' (.op oNeD (.un uF0 (.var 0)) (.un uF0 (.var 1)))) (.or (.tru tB' (.op oNe (.un uF1 (.var 0)) (.un uF1 (.var 1)))) (.tru tB' (.op oNe (.un uF2 (.var 0)) (.un uF2 (.var 1)))))) (.ret (cB false)) .next)
    (.ret (.and (.op oEqD (.un uF3 (.var 0)) (.un uF3 (.var 1))) (.and (.op oEqD (.un uF4 (.var 0)) (.un uF4 (.var 1))) (.op oEqD (.un uF5 (.var 0)) (.un uF5 (.var 1))))))))
def sem_T___eq__ : Fs := run 2 2 a_T___eq__
def x_T_then_1 : E :=
  (.op oIxL (.un uF3 (.var 1)) (.var 3))
def x_T_then_2 : E :=
  (.meth 1 sem_T_ahead_of (.var 1) (.cons (.var 4) (.cons (.var 3) .nil)))
def x_T_then_3 : E :=
  (.meth 1 sem_T_ahead_of (.var 1) (.cons (.var 5) (.cons (.var 3) .nil)))
def a_T_then : S :=
  (.seq (.cond (.or (.tru tB' (.op oNeD (.un uF0 (.var 0)) (.un uF0 (.var 1)))) (.tru tB' (.op oNe (.un uF1 (.var 0)) (.un uF1 (.var 1))))) .stuck .next)
    (.seq (.newTD 2 sem_T___init__ (.cons (.un uF0 (.var 0)) (.cons (.un uF1 (.var 0)) .nil)))
    (.seq (.setF 2 2 (.op oAdd (.un uF2 (.var 0)) (.un uF2 (.var 1))))
    (.seq (.setF 2 3 (.lc (.one wSeq (.un uF3 (.var 0))) (.nm 3) [3] qY x_T_then_1))
    (.seq (.setF 2 4 (.lc (.many wZip (.cons (.un uF4 (.var 0)) (.cons (.un uF3 (.var 0)) .nil))) (.tp (.cons (.nm 4) (.cons (.nm 3) .nil))) [4, 3] qY x_T_then_2))
    (.seq (.setF 2 5 (.lc (.many wZip (.cons (.un uF5 (.var 0)) (.cons (.un uF3 (.var 0)) .nil))) (.tp (.cons (.nm 5) (.cons (.nm 3) .nil))) [5, 3] qY x_T_then_3))
    .next))))))
def sem_T_then : Fs := runT 6 2 2 a_T_then
def b_T_times_1 : S :=
  (.seq (.cond (.tru tB' (.op oEq (.op oOdd (.var 4) (cI 1)) (cI 1))) (.frzT 2 (.newM 2 7 sem_T_then (.var 2) (.cons (.var 3) .nil))) .next)
    (.seq (.asg (.nm 3) (.meth 7 sem_T_then (.var 3) (.cons (.var 3) .nil)))
    (.asg (.nm 4) (.op oShr (.var 4) (cI 1)))))
def a_T_times : S :=
  (.seq (.newTD 2 sem_T___init__ (.cons (.un uF0 (.var 0)) (.cons (.un uF1 (.var 0)) .nil)))
    (.seq (.asg (.nm 3) (.var 0))
    (.seq (.asg (.nm 4) (.cb bMin (.cons (.var 1) (.cons (.cb bSum (.cons (.un uF0 (.var 0)) .nil)) .nil))))
    (.seq (.whil 64 (.tru tB' (.op oGt (.var 4) (cI 0))) b_T_times_1)
    (.seq (.setF 2 2 (.op oMul (.un uF2 (.var 0)) (.var 1)))
    (.frzT 2 (.ret (.var 2))))))))
def sem_T_times : Fs := run 5 2 a_T_times
def b_L_word_1 : S :=
  (.app 3 (.tup (.cons (.op oIxL (.lst (.cons (cS "L+") (.cons (cS "L-") (.cons (cS "R+") (.cons (cS "R-") .nil))))) (.callB takeF 0 (.cons (cI 4) .nil))) (.cons (.op oAdd (cI 1) (.callB takeF 0 (.cons (.var 2) .nil))) .nil))))
def a_L_word : S :=
  (.seq (.newO 3 .nil)
    (.seq (.loop (.many wRng (.cons (.callB takeF 0 (.cons (.op oAdd (.var 1) (cI 1)) .nil)) .nil)) (.nm 4) b_L_word_1)
    (.retO 3)))
def sem_L_word : Fs := runB 5 3 a_L_word
def x_L_sizes_1 : E :=
  (.op oAdd (cI 1) (.callB takeF 0 (.cons (.var 2) .nil)))
def a_L_sizes : S :=
  (.ret (.cb bTup (.cons (.lc (.many wRng (.cons (.op oAdd (cI 1) (.callB takeF 0 (.cons (.var 1) .nil))) .nil)) (.nm 3) [3] qY x_L_sizes_1) .nil)))
def sem_L_sizes : Fs := runB 4 3 a_L_sizes
def b_L_spot_1 : S :=
  (.cond (.ite (.tru tB' (.op oEq (.op oIxS (.var 2) (cI 1)) (cS "+"))) (.tru tB' (.op oLt (.op oIxT (.var 1) (.var 4)) (.op oIxT (.var 0) (.var 4)))) (.tru tB' (.op oGt (.op oIxT (.var 1) (.var 4)) (cI 0)))) (.ret (.var 4)) .next)
def a_L_spot : S :=
  (.seq (.asg (.nm 3) (.un uListRg (.cb bLen (.cons (.var 0) .nil))))
    (.seq (.loop (.one wSeq (.ite (.tru tB' (.op oEq (.op oIxS (.var 2) (cI 0)) (cS "L"))) (.var 3) (.un uRevL (.var 3)))) (.nm 4) b_L_spot_1)
    (.ret cN)))
def sem_L_spot : Fs := run 5 3 a_L_spot
def a_L_breathed : S :=
  (.seq (.asg (.nm 3) (.call sem_L_spot (.cons (.var 0) (.cons (.var 1) (.cons (.var 2) .nil)))))
    (.seq (.cond (.tru tB' (.op oIsN (.var 3) cN)) (.ret (.var 1)) .next)
    (.seq (.asg (.nm 4) (.op oAdd (.op oIxT (.var 1) (.var 3)) (.ite (.tru tB' (.op oEq (.op oIxS (.var 2) (cI 1)) (cS "+"))) (cI 1) (.un uNeg (cI 1)))))
    (.ret (.op oCatT (.op oCatT (.sl sTup (.var 1) .no (.at (.var 3))) (.tup (.cons (.var 4) .nil))) (.sl sTup (.var 1) (.at (.op oAdd (.var 3) (cI 1))) .no))))))
def sem_L_breathed : Fs := run 5 3 a_L_breathed
def b_L_runs_1 : S :=
  (.app 3 (.tup (.cons (.op oIxL (.lst (.cons (cS "L+") (.cons (cS "L-") (.cons (cS "R+") (.cons (cS "R-") .nil))))) (.callB takeF 0 (.cons (cI 4) .nil))) (.cons (.op oAdd (cI 1) (.callB takeF 0 (.cons (.var 2) .nil))) .nil))))
def a_L_runs : S :=
  (.seq (.newO 3 .nil)
    (.seq (.loop (.many wRng (.cons (.callB takeF 0 (.cons (.op oAdd (.var 1) (cI 1)) .nil)) .nil)) (.nm 4) b_L_runs_1)
    (.retO 3)))
def sem_L_runs : Fs := runB 5 3 a_L_runs
def b_L_gone_1 : S :=
  (.asg (.nm 1) (.call sem_L_breathed (.cons (.var 0) (.cons (.var 1) (.cons (.var 3) .nil)))))
def b_L_gone_2 : S :=
  (.loop (.many wRng (.cons (.var 4) .nil)) (.nm 5) b_L_gone_1)
def a_L_gone : S :=
  (.seq (.loop (.one wSeq (.var 2)) (.tp (.cons (.nm 3) (.cons (.nm 4) .nil))) b_L_gone_2)
    (.ret (.var 1)))
def sem_L_gone : Fs := run 6 3 a_L_gone
def x_L_all_1 : E :=
  (.op oCatT (.var 4) (.tup (.cons (.var 5) .nil)))
def b_L_all_1 : S :=
  (.asg (.nm 3) (.op oCatL (.var 3) (.lc (.many wRng (.cons (.op oAdd (.var 2) (cI 1)) .nil)) (.nm 5) [5] qY x_L_all_1)))
def b_L_all_2 : S :=
  (.seq (.asg (.nm 3) (.lst .nil))
    (.seq (.loop (.one wSeq (.var 1)) (.nm 4) b_L_all_1)
    (.asg (.nm 1) (.var 3))))
def a_L_all : S :=
  (.seq (.asg (.nm 1) (.lst (.cons (.tup .nil) .nil)))
    (.seq (.loop (.one wSeq (.var 0)) (.nm 2) b_L_all_2)
    (.ret (.var 1))))
def sem_L_all : Fs := run 6 1 a_L_all
end DP
namespace DP
open PySem PySem.Spec PyProof.Rows L2 ZX DL RT
abbrev dI (ns : List Int) : List PyData := ns.map .int
abbrev tN (ns : List Int) : PyData := .tuple (ns.map .int)
abbrev lN (ns : List Int) : PyData := .list (ns.map .int)
section
variable {d : PyData} {ds : List PyData}
theorem ixQ_seq (h : seqF d = some ds) (i : Int) : oIxQ.f d (.int i) = atI ds i := by
  rcases seqF_of h with rfl | rfl <;> rfl
theorem len_seq (h : seqF d = some ds) : bLen.f [d] = some (.int ds.length) := by
  rcases seqF_of h with rfl | rfl <;> rfl
theorem list_seq (h : seqF d = some ds) : bList.f [d] = some (.list ds) := by
  rcases seqF_of h with rfl | rfl <;> rfl
theorem tup_seq (h : seqF d = some ds) : bTup.f [d] = some (.tuple ds) := by
  rcases seqF_of h with rfl | rfl <;> rfl
theorem asSeq_seq (h : seqF d = some ds) : asSeq d = .ret ds := by
  rcases seqF_of h with rfl | rfl <;> rfl
theorem sum_seq {ns : List Int} (h : seqF d = some (dI ns)) : bSum.f [d] = some (.int ns.sum) := by
  rcases seqF_of h with rfl | rfl
  · show (intsOf (dI ns)).map _ = _
    rw [intsOf_map]
    rfl
  · show (intsOf (dI ns)).map _ = _
    rw [intsOf_map]
    rfl
end
theorem Dr.opt_some {α : Type} (a : α) : Dr.opt (some a) = .ret a := rfl
section
variable (i j : Int) (x y : Str) (p q : Bool) (ds es : List PyData) (l h : Option Int)
theorem f_add : oAdd.f (.int i) (.int j) = some (.int (i + j)) := rfl
theorem f_sub : oSub.f (.int i) (.int j) = some (.int (i - j)) := rfl
theorem f_lt : oLt.f (.int i) (.int j) = some (.bool (decide (i < j))) := rfl
theorem f_le : oLe.f (.int i) (.int j) = some (.bool (decide (i ≤ j))) := rfl
theorem f_gt : oGt.f (.int i) (.int j) = some (.bool (decide (j < i))) := rfl
theorem f_ge : oGe.f (.int i) (.int j) = some (.bool (decide (j ≤ i))) := rfl
theorem f_addA : oAddA.f (.int i) (.int j) = some (.int (i + j)) := rfl
theorem f_subA : oSubA.f (.int i) (.int j) = some (.int (i - j)) := rfl
theorem f_eqI : oEq.f (.int i) (.int j) = some (.bool (decide (i = j))) := rfl
theorem f_eqS : oEq.f (.str x) (.str y) = some (.bool (decide (x = y))) := rfl
theorem f_eqB : oEq.f (.bool p) (.bool q) = some (.bool (p == q)) := rfl
theorem f_neI : oNe.f (.int i) (.int j) = some (.bool (!decide (i = j))) := rfl
theorem f_isN (d : PyData) : oIsN.f d .none = some (.bool (isNon d)) := rfl
theorem f_ixL : oIxL.f (.list ds) (.int i) = atI ds i := rfl
theorem f_ixT : oIxT.f (.tuple ds) (.int i) = atI ds i := rfl
theorem f_neg : uNeg.f (.int i) = some (.int (-i)) := rfl
theorem f_not : uNot.f (.bool p) = some (.bool (!p)) := rfl
theorem f_min : bMin.f [.int i, .int j] = some (.int (if j < i then j else i)) := rfl
theorem f_max : bMax.f [.int i, .int j] = some (.int (if j > i then j else i)) := rfl
theorem f_abs : bAbs.f [.int i] = some (.int (if i < 0 then -i else i)) := rfl
theorem f_tB : tB'.f (.bool p) = some p := rfl
theorem f_lenL : bLen.f [.list ds] = some (.int ds.length) := rfl
theorem f_lenT : bLen.f [.tuple ds] = some (.int ds.length) := rfl
theorem f_list : bList.f [.list ds] = some (.list ds) := rfl
theorem f_listT : bList.f [.tuple ds] = some (.list ds) := rfl
theorem f_tup : bTup.f [.list ds] = some (.tuple ds) := rfl
theorem f_tupT : bTup.f [.tuple ds] = some (.tuple ds) := rfl
theorem f_wSeqL : wSeq.f (.list ds) = some ds := rfl
theorem f_wSeqT : wSeq.f (.tuple ds) = some ds := rfl
theorem f_cutT : sTup.f (.tuple ds) l h = some (.tuple (cutD ds l h)) := rfl
theorem f_cutL : sLst.f (.list ds) l h = some (.list (cutD ds l h)) := rfl
theorem f_intI : bInt.f [.int i] = some (.int i) := rfl
theorem f_intB : bInt.f [.bool p] = some (.int (if p then 1 else 0)) := rfl
theorem f_odd : oOdd.f (.int i) (.int 1) = some (.int (i % 2)) := rfl
theorem f_notN (d : PyData) : oNotN.f d .none = some (.bool (!isNon d)) := rfl
theorem f_fListL : fList.f [.list ds] = some ds := rfl
theorem f_fListT : fList.f [.tuple ds] = some ds := rfl
theorem non_i : isNon (.int i) = false := rfl
theorem non_n : isNon .none = true := rfl
theorem f_neS : oNe.f (.str x) (.str y) = some (.bool (!decide (x = y))) := rfl
theorem asIx_int (n : Nat) : asIx n (.int i) = .opt (ixN n i) := rfl
end
section
variable (env : En) (x : Sl) (d : PyData) (ds : List PyData) (i : Nat) {α β : Type} (a : α) (f : α → Dr β) (k : En → Dr Fl) (t : Dr PyData) (g : Tt) (gs : Ts)
theorem slot_zero : slot (.dat d :: env) 0 = .ret d := rfl
theorem slot_succ : slot (x :: env) (i + 1) = slot env i := rfl
theorem own_zero : ownAt (.own ds :: env) 0 = .ret ds := rfl
theorem own_succ : ownAt (x :: env) (i + 1) = ownAt env i := rfl
theorem box_zero : boxAt (.box :: env) 0 = .ret () := rfl
theorem box_succ : boxAt (x :: env) (i + 1) = boxAt env i := rfl
theorem bind_r : (Dr.ret a).bind f = f a := rfl
theorem pur_r : (Dr.ret a).pur = .ret a := rfl
theorem put_nm : (Tt.nm i).put env d = some (env.set i (.dat d)) := rfl
theorem put_tp : (Tt.tp gs).put env (.tuple ds) = gs.puts env ds := rfl
theorem put_tpL : (Tt.tp gs).put env (.list ds) = gs.puts env ds := rfl
theorem puts_nil : Ts.nil.puts env [] = some env := rfl
theorem puts_cons : (Ts.cons g gs).puts env (d :: ds) = (g.put env d).bind fun env' => gs.puts env' ds := rfl
theorem then_nx : (Fl.nx env).then k = k env := rfl
theorem then_rt : (Fl.rt d).then k = .ret (.rt d) := rfl
theorem then_bk : (Fl.bk env).then k = .ret (.bk env) := rfl
theorem then_ct : (Fl.ct env).then k = .ret (.ct env) := rfl
theorem evT_qY : evT qY env = .ret true := rfl
theorem told_rt : told (.rt d) = .ret d := rfl
theorem told_rtO : told (.rtO ds) = .ret (.list ds) := rfl
theorem then_rtO : (Fl.rtO ds).then k = .ret (.rtO ds) := rfl
theorem put2_c (x y : Sl) (j : Nat) : put2 env i j [x, y] = .ret ((env.set i x).set j y) := rfl
theorem put3_c (x y z : Sl) (j k : Nat) : put3 env i j k [x, y, z] = .ret (((env.set i x).set j y).set k z) := rfl
theorem flat_i (z : Int) : flatR (.int z) = .ret (.int z) := rfl
theorem flat_b (z : Bool) : flatR (.bool z) = .ret (.bool z) := rfl
theorem flat_s (z : Str) : flatR (.str z) = .ret (.str z) := rfl
theorem asLst_l : asLst (.list ds) = .ret ds := rfl
theorem andB_t : andB t (.bool true) = t := rfl
theorem andB_f : andB t (.bool false) = .ret (.bool false) := rfl
theorem orB_t : orB t (.bool true) = .ret (.bool true) := rfl
theorem orB_f : orB t (.bool false) = t := rfl
theorem asInt_i (z : Int) : asInt (.int z) = .ret (some z) := rfl
end
theorem forL_inv {step : PyData → En → Dr Fl} (I : Nat → En → Prop) {F : En → Prop} : ∀ {its : List PyData} {j : Nat} {env : En}, I j env →
    (∀ i d env, its[i]? = some d → I (j + i) env → ∃ env', (step d env = .ret (.nx env') ∧ I (j + i + 1) env') ∨ (step d env = .ret (.bk env') ∧ F env')) → (∀ env, I (j + its.length) env → F env) →
    ∃ env', forL step its env = .ret (.nx env') ∧ F env'
  | [], j, env, h0, _, hF => ⟨env, rfl, hF env h0⟩
  | d :: r, j, env, h0, hs, hF => by
    obtain ⟨env', h | h⟩ := hs 0 d env rfl h0
    · obtain ⟨e, hI⟩ := h
      obtain ⟨env2, e2, h2⟩ := forL_inv (step := step) I (its := r) (j := j + 1) (env := env') hI (fun i d env hi hI => by
        have := hs (i + 1) d env hi (by rw [show j + (i + 1) = j + 1 + i from by omega]; exact hI)
        rwa [show j + (i + 1) = j + 1 + i from by omega] at this) (fun env h => hF env (by rw [show j + (d :: r).length = j + 1 + r.length from by rw [List.length_cons]; omega]; exact h))
      refine ⟨env2, ?_, h2⟩
      show (step d env).bind _ = _
      rw [e]
      exact e2
    · obtain ⟨e, hI⟩ := h
      refine ⟨env', ?_, hI⟩
      show (step d env).bind _ = _
      rw [e]
      rfl
theorem forL_fold {α β : Type} {g : α → PyData} {enc : β → En → Prop} {stp : β → α → β} {step : PyData → En → Dr Fl} : ∀ {xs : List α} {b : β} {env : En}, enc b env →
    (∀ x ∈ xs, ∀ b env, enc b env → ∃ env', step (g x) env = .ret (.nx env') ∧ enc (stp b x) env') → ∃ env', forL step (xs.map g) env = .ret (.nx env') ∧ enc (xs.foldl stp b) env'
  | [], b, env, h0, _ => ⟨env, rfl, h0⟩
  | x :: r, b, env, h0, hs => by
    obtain ⟨env', e, h⟩ := hs x (List.mem_cons_self ..) b env h0
    obtain ⟨env2, e2, h2⟩ := forL_fold (g := g) (enc := enc) (stp := stp) (step := step) (xs := r) (b := stp b x) (env := env') h fun y hy => hs y (List.mem_cons_of_mem _ hy)
    refine ⟨env2, ?_, h2⟩
    show (step (g x) env).bind _ = _
    rw [e]
    exact e2
theorem compr_map {α : Type} {step : PyData → Dr (Option PyData)} {g h : α → PyData} : ∀ {xs : List α}, (∀ x ∈ xs, step (g x) = .ret (some (h x))) → compr step (xs.map g) = .ret (xs.map h)
  | [], _ => rfl
  | x :: r, hs => by
    show (step (g x)).bind _ = _
    rw [hs x (List.mem_cons_self ..)]
    show (compr step (r.map g)).bind _ = _
    rw [compr_map (h := h) fun y hy => hs y (List.mem_cons_of_mem _ hy)]
    rfl
namespace Dr
variable {α β : Type}
abbrev le (t : Dr α) (n : Nat) (Φ : α → Prop) : Prop := t.ok n fun a _ => Φ a
theorem ok_add (t : Dr α) : ∀ (n r : Nat) (Ψ : α → Nat → Prop), t.ok n Ψ → t.ok (n + r) fun a n' => r ≤ n' ∧ Ψ a (n' - r) := by
  induction t with
  | ret a =>
    intro n r Ψ h
    exact ⟨by omega, by rw [Nat.add_sub_cancel]; exact h⟩
  | bad => exact fun _ _ _ h => h
  | draw m k ih =>
    rintro n r Ψ ⟨n', rfl, h1, h2, h3⟩
    exact ⟨n' + r, by omega, h1, h2, fun j a b => ih j n' r Ψ (h3 j a b)⟩
theorem le_up {t : Dr α} {n m : Nat} {Φ : α → Prop} (h : t.le n Φ) (hn : n ≤ m) : t.le m Φ := by
  have := ok_add t n (m - n) _ h
  rw [show n + (m - n) = m by omega] at this
  exact ok_mono (fun a n h => h.2) this
theorem le_bind {t : Dr α} {f : α → Dr β} {n m : Nat} {Φ : α → Prop} {Ψ : β → Prop} (h : t.le n Φ) (hf : ∀ a, Φ a → (f a).le m Ψ) : (t.bind f).le (n + m) Ψ := by
  refine ok_bind.mpr (ok_mono (fun a n' q => ?_) (ok_add t n m _ h))
  exact le_up (hf a q.2) q.1
end Dr
theorem take_le {m : Int} (h1 : 1 ≤ m) (h2 : m < 2 ^ 42) : (takeF [.int m]).le 1 fun d => ∃ i, d = .int i ∧ 0 ≤ i ∧ i < m := ⟨0, rfl, h1, h2, fun j a b => ⟨j, rfl, a, b⟩⟩
theorem compr_le {α : Type} {step : PyData → Dr (Option PyData)} {g : α → PyData} {k : Nat} {Ψ : α → PyData → Prop} : ∀ {xs : List α}, (∀ x ∈ xs, (step (g x)).le k fun o => ∃ v, o = some v ∧ Ψ x v) → (compr step (xs.map g)).le (k * xs.length) fun l => l.length = xs.length ∧ ∀ (i : Nat) x v, xs[i]? = some x → l[i]? = some v → Ψ x v
  | [], _ => ⟨rfl, fun i x v h => by simp at h⟩
  | x :: r, hs => by
    have h2 := compr_le (step := step) (g := g) (k := k) (Ψ := Ψ) fun y hy => hs y (List.mem_cons_of_mem _ hy)
    have e : k * (x :: r).length = k + k * r.length := by rw [List.length_cons, Nat.mul_succ, Nat.add_comm]
    rw [e]
    refine Dr.le_bind (hs x (List.mem_cons_self ..)) fun o ⟨v, eo, hv⟩ => ?_
    subst eo
    refine Dr.le_bind (m := 0) h2 fun l ⟨hl, hp⟩ => ⟨?_, fun i y u hi hu => ?_⟩
    · show (v :: l).length = _
      rw [List.length_cons, List.length_cons, hl]
    · cases i with
      | zero =>
        cases hi
        cases hu
        exact hv
      | succ i => exact hp i y u hi hu
theorem forL_le {step : PyData → En → Dr Fl} {k : Nat} (I : Nat → En → Prop) : ∀ {its : List PyData} {j : Nat} {env : En}, I j env →
    (∀ i d env, its[i]? = some d → I (j + i) env → (step d env).le k fun f => ∃ env', f = .nx env' ∧ I (j + i + 1) env') → (forL step its env).le (k * its.length) fun f => ∃ env', f = .nx env' ∧ I (j + its.length) env'
  | [], j, env, h0, _ => ⟨env, rfl, h0⟩
  | d :: r, j, env, h0, hs => by
    have e : k * (d :: r).length = k + k * r.length := by rw [List.length_cons, Nat.mul_succ, Nat.add_comm]
    rw [e]
    refine Dr.le_bind (hs 0 d env rfl h0) fun f ⟨env', ef, hI⟩ => ?_
    subst ef
    have := forL_le (step := step) (k := k) I (its := r) (j := j + 1) (env := env') hI fun i d env hi hI => by
      have := hs (i + 1) d env hi (by rw [show j + (i + 1) = j + 1 + i from by omega]; exact hI)
      rwa [show j + (i + 1) = j + 1 + i from by omega] at this
    rw [show j + (d :: r).length = j + 1 + r.length from by rw [List.length_cons]; omega]
    exact this
end DP
namespace DP
open PySem PySem.Spec PyProof.Rows L2 ZX DL RT
abbrev Br := Bool × Bool
def Br.nm : Br → Str
  | (true, true) => "L+"
  | (true, false) => "L-"
  | (false, true) => "R+"
  | (false, false) => "R-"
theorem inLL (b : Br) : oInS.f (.str b.nm) (.tuple [.str "L+", .str "L-"]) = some (.bool b.1) := by
  rcases b with ⟨_ | _, _ | _⟩ <;> rfl
theorem ginIn (b : Br) : ginAt 0 (.str b.nm) = .ret (.bool b.2) := by
  rcases b with ⟨_ | _, _ | _⟩ <;> rfl
def order (b : Br) (n : Nat) : List Nat := if b.1 = true then List.range n else (List.range n).reverse
abbrev ixD (l : List Nat) : List PyData := l.map fun (i : Nat) => PyData.int (i : Int)
theorem reached_eq {r : PyData} {rs : List PyData} (hr : seqF r = some rs) (hl : rs.length ≤ 1000) (b : Br) : sem_reached [r, .str b.nm] = .ret (.list (ixD (order b rs.length))) := by
  have e1 : uListRg.f (.int (rs.length : Int)) = some (.list (ixD (List.range rs.length))) := by
    show (if 0 ≤ (rs.length : Int) ∧ (rs.length : Int) ≤ 16777216 then some (PyData.list (rangeD 0 (rs.length : Int).toNat)) else none) = _
    rw [if_pos ⟨by omega, by omega⟩, Int.toNat_natCast]
    congr 2
    unfold rangeD
    refine List.map_congr_left fun i _ => ?_
    rw [Int.zero_add]
  have e2 : ∀ l, uRevL.f (.list (ixD l)) = some (.list (ixD l.reverse)) := fun l => by
    show some (PyData.list (ixD l).reverse) = _
    rw [← List.map_reverse]
  simp only [sem_reached, a_reached, DP.run, DP.runB, evS, evE, evA, evT, evP, evI, startE, startX, slot_zero, slot_succ, own_zero, own_succ, box_zero, box_succ, bind_r, Dr.bind_assoc, pur_r, put_nm, put_tp, put_tpL, puts_nil, puts_cons, then_nx, then_rt, then_rtO, told_rtO, put2_c, put3_c, evF, evB, flat_i, flat_b, flat_s, asLst_l, f_intI, f_intB, f_odd, f_notN, f_fListL, f_fListT, non_i, non_n, f_neS, then_bk, then_ct, told_rt, evT_qY, andB_t, andB_f, orB_t, orB_f, asInt_i, Dr.opt_some, small, within, List.length_cons, List.length_nil, List.map_cons, List.map_nil, List.cons_append, List.nil_append, List.replicate, List.set_cons_zero, List.set_cons_succ, Tt.vs, Ts.vs, Option.bind_some, Nat.reduceAdd, Nat.reduceSub, Nat.reduceLeDiff, Nat.reduceEqDiff, reduceIte, if_true, if_false, asIx_int, f_add, f_sub, f_lt, f_le, f_gt, f_ge, f_addA, f_subA, f_eqI, f_eqS, f_eqB, f_neI, f_isN, f_ixL, f_ixT, f_neg, f_not, f_min, f_max, f_abs, f_tB, f_lenL, f_lenT, f_list, f_listT, f_tup, f_tupT, f_wSeqL, f_wSeqT, f_cutT, f_cutL, wipeX, List.all_cons, List.all_nil, List.contains_cons, List.elem_nil, Bool.and_true, Bool.true_and, beq_self_eq_true, Bool.or_true, Bool.true_or, Bool.false_eq_true, Option.some.injEq, decide_true, decide_false, Bool.not_true, Bool.not_false, Nat.reduceBEq, Bool.or_false, Bool.false_or, List.append_nil, List.singleton_append, true_and, and_true, and_self, len_seq hr, e1, inLL]
  unfold order
  cases b.1 with
  | true => rfl
  | false =>
    simp only [DP.run, DP.runB, evS, evE, evA, evT, evP, evI, startE, startX, slot_zero, slot_succ, own_zero, own_succ, box_zero, box_succ, bind_r, Dr.bind_assoc, pur_r, put_nm, put_tp, put_tpL, puts_nil, puts_cons, then_nx, then_rt, then_rtO, told_rtO, put2_c, put3_c, evF, evB, flat_i, flat_b, flat_s, asLst_l, f_intI, f_intB, f_odd, f_notN, f_fListL, f_fListT, non_i, non_n, f_neS, then_bk, then_ct, told_rt, evT_qY, andB_t, andB_f, orB_t, orB_f, asInt_i, Dr.opt_some, small, within, List.length_cons, List.length_nil, List.map_cons, List.map_nil, List.cons_append, List.nil_append, List.replicate, List.set_cons_zero, List.set_cons_succ, Tt.vs, Ts.vs, Option.bind_some, Nat.reduceAdd, Nat.reduceSub, Nat.reduceLeDiff, Nat.reduceEqDiff, reduceIte, if_true, if_false, asIx_int, f_add, f_sub, f_lt, f_le, f_gt, f_ge, f_addA, f_subA, f_eqI, f_eqS, f_eqB, f_neI, f_isN, f_ixL, f_ixT, f_neg, f_not, f_min, f_max, f_abs, f_tB, f_lenL, f_lenT, f_list, f_listT, f_tup, f_tupT, f_wSeqL, f_wSeqT, f_cutT, f_cutL, wipeX, List.all_cons, List.all_nil, List.contains_cons, List.elem_nil, Bool.and_true, Bool.true_and, beq_self_eq_true, Bool.or_true, Bool.true_or, Bool.false_eq_true, Option.some.injEq, decide_true, decide_false, Bool.not_true, Bool.not_false, Nat.reduceBEq, Bool.or_false, Bool.false_or, List.append_nil, List.singleton_append, true_and, and_true, and_self, e2]
def cap (s : Bool) (r l : Int) : Int := if s = true then r - l else l
def put1 (s : Bool) (l d : Int) : Int := if s = true then l + d else l - d
def stepI (s : Bool) (rs : List Int) (st : List Int × Int) (i : Nat) : List Int × Int :=
  (st.1.set i (put1 s (st.1.getD i 0) (min st.2 (cap s (rs.getD i 0) (st.1.getD i 0)))), st.2 - min st.2 (cap s (rs.getD i 0) (st.1.getD i 0)))
def Fits (rs ls : List Int) : Prop := ls.length = rs.length ∧ ∀ (i : Nat) (r l : Int), rs[i]? = some r → ls[i]? = some l → 0 ≤ l ∧ l ≤ r
theorem atI_nat' {α : Type} {xs : List α} {i : Nat} {a : α} (h : xs[i]? = some a) : atI xs (i : Int) = some a := atI_nat h
theorem ixN_nat {n i : Nat} (h : i < n) : ixN n (i : Int) = some i := by
  unfold ixN
  rw [if_pos (by omega), if_pos (by omega), Int.toNat_natCast]
theorem set_self {α : Type} {xs : List α} {i : Nat} {a : α} (h : xs[i]? = some a) : xs.set i a = xs := by
  obtain ⟨hi, e⟩ := List.getElem?_eq_some_iff.mp h
  rw [← e]
  exact List.set_getElem_self hi
theorem fits_step {s : Bool} {rs ls : List Int} {n : Int} {i : Nat} (hf : Fits rs ls) (hn : 0 ≤ n) (hi : i < rs.length) : Fits rs (stepI s rs (ls, n) i).1 ∧ 0 ≤ (stepI s rs (ls, n) i).2 := by
  have hl : i < ls.length := by rw [hf.1]; exact hi
  have e1 : rs[i]? = some rs[i] := List.getElem?_eq_getElem hi
  have e2 : ls[i]? = some ls[i] := List.getElem?_eq_getElem hl
  obtain ⟨b1, b2⟩ := hf.2 i _ _ e1 e2
  have g1 : rs.getD i 0 = rs[i] := by rw [List.getD_eq_getElem?_getD, e1]; rfl
  have g2 : ls.getD i 0 = ls[i] := by rw [List.getD_eq_getElem?_getD, e2]; rfl
  unfold stepI
  simp only [g1, g2]
  unfold cap put1
  refine ⟨⟨by rw [List.length_set]; exact hf.1, fun j r l hr hl2 => ?_⟩, by cases s <;> simp <;> omega⟩
  rcases set_of hl2 with ⟨rfl, rfl, _⟩ | ⟨_, h⟩
  · rw [e1] at hr
    cases hr
    cases s <;> simp <;> omega
  · exact hf.2 j r l hr h
theorem step_zero {s : Bool} {rs ls : List Int} {i : Nat} (hf : Fits rs ls) (hi : i < rs.length) : stepI s rs (ls, 0) i = (ls, 0) := by
  have hl : i < ls.length := by rw [hf.1]; exact hi
  have e1 : rs[i]? = some rs[i] := List.getElem?_eq_getElem hi
  have e2 : ls[i]? = some ls[i] := List.getElem?_eq_getElem hl
  obtain ⟨b1, b2⟩ := hf.2 i _ _ e1 e2
  have g1 : rs.getD i 0 = rs[i] := by rw [List.getD_eq_getElem?_getD, e1]; rfl
  have g2 : ls.getD i 0 = ls[i] := by rw [List.getD_eq_getElem?_getD, e2]; rfl
  unfold stepI
  simp only [g1, g2]
  have hm : min 0 (cap s rs[i] ls[i]) = 0 := by
    unfold cap
    cases s <;> simp <;> omega
  rw [hm]
  have hp : put1 s ls[i] 0 = ls[i] := by
    unfold put1
    cases s <;> simp
  rw [hp, set_self e2]
  rfl
theorem fold_zero {s : Bool} {rs ls : List Int} (hf : Fits rs ls) : ∀ (is : List Nat), (∀ i ∈ is, i < rs.length) → is.foldl (stepI s rs) (ls, 0) = (ls, 0)
  | [], _ => rfl
  | i :: is, h => by
    rw [List.foldl_cons, step_zero hf (h i (List.mem_cons_self ..))]
    exact fold_zero hf is fun j hj => h j (List.mem_cons_of_mem _ hj)
def runI (b : Br) (rs ls : List Int) (n : Int) : List Int × Int := (order b rs.length).foldl (stepI b.2 rs) (ls, n)
theorem order_lt {b : Br} {n i : Nat} (h : i ∈ order b n) : i < n := by
  unfold order at h
  split at h
  · exact List.mem_range.mp h
  · exact List.mem_range.mp (List.mem_reverse.mp h)
theorem run_done_eq {r st : PyData} {rs ls : List Int} {n : Int} (hr : seqF r = some (dI rs)) (hs : seqF st = some (dI ls)) (hf : Fits rs ls) (hl : rs.length ≤ 1000) (hn : 0 ≤ n) (b : Br) :
    sem_run_done [r, st, .str b.nm, .int n] = .ret (.tuple [lN (runI b rs ls n).1, .int (runI b rs ls n).2]) := by
  have eR := reached_eq hr (by rw [List.length_map]; exact hl) b
  rw [List.length_map] at eR
  have key : ∃ env', forL (lstep (evS b_run_done_1) (.nm 7)) (ixD (order b rs.length)) [.dat r, .dat st, .dat (.str b.nm), .dat (.int n), .own (dI ls), .dat (.bool b.2), .dat (.int n), .unk, .unk] = .ret (.nx env') ∧
      ∃ u v, env' = [.dat r, .dat st, .dat (.str b.nm), .dat (.int n), .own (dI (runI b rs ls n).1), .dat (.bool b.2), .dat (.int (runI b rs ls n).2), u, v] := by
    refine forL_inv (fun j env => ∃ u v, Fits rs ((order b rs.length).take j |>.foldl (stepI b.2 rs) (ls, n)).1 ∧ 0 ≤ ((order b rs.length).take j |>.foldl (stepI b.2 rs) (ls, n)).2 ∧ env = [.dat r, .dat st, .dat (.str b.nm), .dat (.int n), .own (dI ((order b rs.length).take j |>.foldl (stepI b.2 rs) (ls, n)).1), .dat (.bool b.2), .dat (.int ((order b rs.length).take j |>.foldl (stepI b.2 rs) (ls, n)).2), u, v]) (j := 0) ⟨.unk, .unk, hf, hn, rfl⟩ ?step ?done
    case done =>
      rintro env ⟨u, v, _, _, rfl⟩
      refine ⟨u, v, ?_⟩
      rw [Nat.zero_add, List.length_map, List.take_length]
      rfl
    case step =>
      rintro j d env hd ⟨u, v, hF, hN, rfl⟩
      rw [Nat.zero_add] at hF hN ⊢
      rw [List.getElem?_map] at hd
      obtain ⟨i, hi, rfl⟩ := Option.map_eq_some_iff.mp hd
      have hlt := order_lt (List.mem_of_getElem? hi)
      obtain ⟨L, m, eS⟩ : ∃ L m, ((order b rs.length).take j |>.foldl (stepI b.2 rs) (ls, n)) = (L, m) := ⟨_, _, rfl⟩
      rw [eS] at hF hN ⊢
      have hL : i < L.length := by rw [hF.1]; exact hlt
      have nxt : ((order b rs.length).take (j + 1) |>.foldl (stepI b.2 rs) (ls, n)) = stepI b.2 rs (L, m) i := by
        rw [List.take_add_one, hi, List.foldl_append, eS]
        rfl
      have e1 : rs[i]? = some rs[i] := List.getElem?_eq_getElem hlt
      have e2 : L[i]? = some L[i] := List.getElem?_eq_getElem hL
      have a1 : oIxQ.f r (.int (i : Int)) = some (.int rs[i]) := by
        rw [ixQ_seq hr, atI_nat' (a := .int rs[i]) (by rw [List.getElem?_map, e1]; rfl)]
      have a2 : atI (dI L) (i : Int) = some (.int L[i]) := atI_nat' (by rw [List.getElem?_map, e2]; rfl)
      have a3 : ixN (dI L).length (i : Int) = some i := ixN_nat (by rw [List.length_map]; exact hL)
      have a4 : (dI L)[i]? = some (.int L[i]) := by rw [List.getElem?_map, e2]; rfl
      obtain ⟨f1, f2⟩ := fits_step (s := b.2) hF hN hlt
      by_cases hz : m = 0
      · subst hz
        refine ⟨[.dat r, .dat st, .dat (.str b.nm), .dat (.int n), .own (dI L), .dat (.bool b.2), .dat (.int 0), .dat (.int (i : Int)), v], .inr ⟨?_, ?_⟩⟩
        · simp only [lstep, b_run_done_1, DP.run, DP.runB, evS, evE, evA, evT, evP, evI, startE, startX, slot_zero, slot_succ, own_zero, own_succ, box_zero, box_succ, bind_r, Dr.bind_assoc, pur_r, put_nm, put_tp, put_tpL, puts_nil, puts_cons, then_nx, then_rt, then_rtO, told_rtO, put2_c, put3_c, evF, evB, flat_i, flat_b, flat_s, asLst_l, f_intI, f_intB, f_odd, f_notN, f_fListL, f_fListT, non_i, non_n, f_neS, then_bk, then_ct, told_rt, evT_qY, andB_t, andB_f, orB_t, orB_f, asInt_i, Dr.opt_some, small, within, List.length_cons, List.length_nil, List.map_cons, List.map_nil, List.cons_append, List.nil_append, List.replicate, List.set_cons_zero, List.set_cons_succ, Tt.vs, Ts.vs, Option.bind_some, Nat.reduceAdd, Nat.reduceSub, Nat.reduceLeDiff, Nat.reduceEqDiff, reduceIte, if_true, if_false, asIx_int, f_add, f_sub, f_lt, f_le, f_gt, f_ge, f_addA, f_subA, f_eqI, f_eqS, f_eqB, f_neI, f_isN, f_ixL, f_ixT, f_neg, f_not, f_min, f_max, f_abs, f_tB, f_lenL, f_lenT, f_list, f_listT, f_tup, f_tupT, f_wSeqL, f_wSeqT, f_cutT, f_cutL, wipeX, List.all_cons, List.all_nil, List.contains_cons, List.elem_nil, Bool.and_true, Bool.true_and, beq_self_eq_true, Bool.or_true, Bool.true_or, Bool.false_eq_true, Option.some.injEq, decide_true, decide_false, Bool.not_true, Bool.not_false, Nat.reduceBEq, Bool.or_false, Bool.false_or, List.append_nil, List.singleton_append, true_and, and_true, and_self]
        · refine ⟨.dat (.int (i : Int)), v, ?_⟩
          have : runI b rs ls n = (L, 0) := by
            unfold runI
            rw [← List.take_append_drop j (order b rs.length), List.foldl_append, eS]
            exact fold_zero hF _ fun k hk => order_lt (List.mem_of_mem_drop hk)
          rw [this]
      · refine ⟨[.dat r, .dat st, .dat (.str b.nm), .dat (.int n), .own (dI (stepI b.2 rs (L, m) i).1), .dat (.bool b.2), .dat (.int (stepI b.2 rs (L, m) i).2), .dat (.int (i : Int)), .dat (.int (min m (cap b.2 rs[i] L[i])))], .inl ⟨?_, ?_⟩⟩
        · have g1 : rs.getD i 0 = rs[i] := by rw [List.getD_eq_getElem?_getD, e1]; rfl
          have g2 : L.getD i 0 = L[i] := by rw [List.getD_eq_getElem?_getD, e2]; rfl
          have hmin : ∀ c : Int, (if c < m then c else m) = min m c := fun c => by
            by_cases h : c < m
            · rw [if_pos h]; omega
            · rw [if_neg h]; omega
          have hst : stepI b.2 rs (L, m) i = (L.set i (put1 b.2 L[i] (min m (cap b.2 rs[i] L[i]))), m - min m (cap b.2 rs[i] L[i])) := by
            unfold stepI
            simp only [g1, g2]
          rw [hst]
          cases hb2 : b.2 with
          | true => simp only [lstep, b_run_done_1, DP.run, DP.runB, evS, evE, evA, evT, evP, evI, startE, startX, slot_zero, slot_succ, own_zero, own_succ, box_zero, box_succ, bind_r, Dr.bind_assoc, pur_r, put_nm, put_tp, put_tpL, puts_nil, puts_cons, then_nx, then_rt, then_rtO, told_rtO, put2_c, put3_c, evF, evB, flat_i, flat_b, flat_s, asLst_l, f_intI, f_intB, f_odd, f_notN, f_fListL, f_fListT, non_i, non_n, f_neS, then_bk, then_ct, told_rt, evT_qY, andB_t, andB_f, orB_t, orB_f, asInt_i, Dr.opt_some, small, within, List.length_cons, List.length_nil, List.map_cons, List.map_nil, List.cons_append, List.nil_append, List.replicate, List.set_cons_zero, List.set_cons_succ, Tt.vs, Ts.vs, Option.bind_some, Nat.reduceAdd, Nat.reduceSub, Nat.reduceLeDiff, Nat.reduceEqDiff, reduceIte, if_true, if_false, asIx_int, f_add, f_sub, f_lt, f_le, f_gt, f_ge, f_addA, f_subA, f_eqI, f_eqS, f_eqB, f_neI, f_isN, f_ixL, f_ixT, f_neg, f_not, f_min, f_max, f_abs, f_tB, f_lenL, f_lenT, f_list, f_listT, f_tup, f_tupT, f_wSeqL, f_wSeqT, f_cutT, f_cutL, wipeX, List.all_cons, List.all_nil, List.contains_cons, List.elem_nil, Bool.and_true, Bool.true_and, beq_self_eq_true, Bool.or_true, Bool.true_or, Bool.false_eq_true, Option.some.injEq, decide_true, decide_false, Bool.not_true, Bool.not_false, Nat.reduceBEq, Bool.or_false, Bool.false_or, List.append_nil, List.singleton_append, true_and, and_true, and_self, a1, a2, a3, a4, hz, hmin, cap, put1, List.map_set]
          | false => simp only [lstep, b_run_done_1, DP.run, DP.runB, evS, evE, evA, evT, evP, evI, startE, startX, slot_zero, slot_succ, own_zero, own_succ, box_zero, box_succ, bind_r, Dr.bind_assoc, pur_r, put_nm, put_tp, put_tpL, puts_nil, puts_cons, then_nx, then_rt, then_rtO, told_rtO, put2_c, put3_c, evF, evB, flat_i, flat_b, flat_s, asLst_l, f_intI, f_intB, f_odd, f_notN, f_fListL, f_fListT, non_i, non_n, f_neS, then_bk, then_ct, told_rt, evT_qY, andB_t, andB_f, orB_t, orB_f, asInt_i, Dr.opt_some, small, within, List.length_cons, List.length_nil, List.map_cons, List.map_nil, List.cons_append, List.nil_append, List.replicate, List.set_cons_zero, List.set_cons_succ, Tt.vs, Ts.vs, Option.bind_some, Nat.reduceAdd, Nat.reduceSub, Nat.reduceLeDiff, Nat.reduceEqDiff, reduceIte, if_true, if_false, asIx_int, f_add, f_sub, f_lt, f_le, f_gt, f_ge, f_addA, f_subA, f_eqI, f_eqS, f_eqB, f_neI, f_isN, f_ixL, f_ixT, f_neg, f_not, f_min, f_max, f_abs, f_tB, f_lenL, f_lenT, f_list, f_listT, f_tup, f_tupT, f_wSeqL, f_wSeqT, f_cutT, f_cutL, wipeX, List.all_cons, List.all_nil, List.contains_cons, List.elem_nil, Bool.and_true, Bool.true_and, beq_self_eq_true, Bool.or_true, Bool.true_or, Bool.false_eq_true, Option.some.injEq, decide_true, decide_false, Bool.not_true, Bool.not_false, Nat.reduceBEq, Bool.or_false, Bool.false_or, List.append_nil, List.singleton_append, true_and, and_true, and_self, a1, a2, a3, a4, hz, hmin, cap, put1, List.map_set, Int.sub_eq_add_neg]
        · rw [nxt]
          exact ⟨_, _, f1, f2, rfl⟩
  obtain ⟨env', e, u, v, rfl⟩ := key
  simp only [sem_run_done, a_run_done, DP.run, DP.runB, evS, evE, evA, evT, evP, evI, startE, startX, slot_zero, slot_succ, own_zero, own_succ, box_zero, box_succ, bind_r, Dr.bind_assoc, pur_r, put_nm, put_tp, put_tpL, puts_nil, puts_cons, then_nx, then_rt, then_rtO, told_rtO, put2_c, put3_c, evF, evB, flat_i, flat_b, flat_s, asLst_l, f_intI, f_intB, f_odd, f_notN, f_fListL, f_fListT, non_i, non_n, f_neS, then_bk, then_ct, told_rt, evT_qY, andB_t, andB_f, orB_t, orB_f, asInt_i, Dr.opt_some, small, within, List.length_cons, List.length_nil, List.map_cons, List.map_nil, List.cons_append, List.nil_append, List.replicate, List.set_cons_zero, List.set_cons_succ, Tt.vs, Ts.vs, Option.bind_some, Nat.reduceAdd, Nat.reduceSub, Nat.reduceLeDiff, Nat.reduceEqDiff, reduceIte, if_true, if_false, asIx_int, f_add, f_sub, f_lt, f_le, f_gt, f_ge, f_addA, f_subA, f_eqI, f_eqS, f_eqB, f_neI, f_isN, f_ixL, f_ixT, f_neg, f_not, f_min, f_max, f_abs, f_tB, f_lenL, f_lenT, f_list, f_listT, f_tup, f_tupT, f_wSeqL, f_wSeqT, f_cutT, f_cutL, wipeX, List.all_cons, List.all_nil, List.contains_cons, List.elem_nil, Bool.and_true, Bool.true_and, beq_self_eq_true, Bool.or_true, Bool.true_or, Bool.false_eq_true, Option.some.injEq, decide_true, decide_false, Bool.not_true, Bool.not_false, Nat.reduceBEq, Bool.or_false, Bool.false_or, List.append_nil, List.singleton_append, true_and, and_true, and_self, asSeq_seq hs, ginIn, eR, e]
end DP
namespace DP
open PySem PySem.Spec PyProof.Rows L2 ZX DL RT
def runL (s : Bool) : List Int → List Int → Int → List Int × Int
  | r :: rs, l :: ls, n => (put1 s l (min n (cap s r l)) :: (runL s rs ls (n - min n (cap s r l))).1, (runL s rs ls (n - min n (cap s r l))).2)
  | _, _, n => ([], n)
def runR (s : Bool) : List Int → List Int → Int → List Int × Int
  | r :: rs, l :: ls, n => (put1 s l (min (runR s rs ls n).2 (cap s r l)) :: (runR s rs ls n).1, (runR s rs ls n).2 - min (runR s rs ls n).2 (cap s r l))
  | _, _, n => ([], n)
def runM (b : Br) (rs ls : List Int) (n : Int) : List Int × Int := if b.1 = true then runL b.2 rs ls n else runR b.2 rs ls n
theorem fold_succ {s : Bool} {r : Int} {rs : List Int} : ∀ (is : List Nat) (l : Int) (ls : List Int) (n : Int), (is.map Nat.succ).foldl (stepI s (r :: rs)) (l :: ls, n) = (l :: (is.foldl (stepI s rs) (ls, n)).1, (is.foldl (stepI s rs) (ls, n)).2)
  | [], _, _, _ => rfl
  | i :: is, l, ls, n => by
    rw [List.map_cons, List.foldl_cons, List.foldl_cons]
    have e : stepI s (r :: rs) (l :: ls, n) i.succ = (l :: (stepI s rs (ls, n) i).1, (stepI s rs (ls, n) i).2) := by
      unfold stepI
      simp only [List.getD_cons_succ, Nat.succ_eq_add_one, List.set_cons_succ]
    rw [e, fold_succ is l]
theorem runI_eq (b : Br) : ∀ (rs ls : List Int) (n : Int), ls.length = rs.length → runI b rs ls n = runM b rs ls n := by
  unfold runI runM order
  cases b.1 with
  | true =>
    simp only [if_true]
    intro rs
    induction rs with
    | nil =>
      intro ls n h
      have : ls = [] := List.eq_nil_of_length_eq_zero h
      subst this
      rfl
    | cons r rs ih =>
      intro ls n h
      cases ls with
      | nil => cases h
      | cons l ls =>
        rw [List.length_cons, List.range_succ_eq_map, List.foldl_cons]
        have e : stepI b.2 (r :: rs) (l :: ls, n) 0 = (put1 b.2 l (min n (cap b.2 r l)) :: ls, n - min n (cap b.2 r l)) := rfl
        rw [e, fold_succ, ih ls _ (by simpa using h)]
        rfl
  | false =>
    simp only [Bool.false_eq_true, if_false]
    intro rs
    induction rs with
    | nil =>
      intro ls n h
      have : ls = [] := List.eq_nil_of_length_eq_zero h
      subst this
      rfl
    | cons r rs ih =>
      intro ls n h
      cases ls with
      | nil => cases h
      | cons l ls =>
        rw [List.length_cons, List.range_succ_eq_map, List.reverse_cons, List.foldl_append, ← List.map_reverse, fold_succ, ih ls _ (by simpa using h)]
        rfl
inductive Fit : List Int → List Int → Prop
  | nil : Fit [] []
  | cons {r l : Int} {rs ls : List Int} : 0 ≤ l → l ≤ r → Fit rs ls → Fit (r :: rs) (l :: ls)
theorem Fit.len : ∀ {rs ls : List Int}, Fit rs ls → ls.length = rs.length
  | _, _, .nil => rfl
  | _, _, .cons _ _ h => congrArg Nat.succ h.len
theorem fit_iff : ∀ {rs ls : List Int}, Fit rs ls ↔ Fits rs ls
  | [], [] => ⟨fun _ => ⟨rfl, fun i r l h => by simp at h⟩, fun _ => .nil⟩
  | [], _ :: _ => ⟨fun h => (nomatch h), fun h => by cases h.1⟩
  | _ :: _, [] => ⟨fun h => (nomatch h), fun h => by cases h.1⟩
  | r :: rs, l :: ls => by
    constructor
    · rintro (_ | ⟨h1, h2, h⟩)
      obtain ⟨a, b⟩ := fit_iff.mp h
      refine ⟨congrArg Nat.succ a, fun i x y hx hy => ?_⟩
      cases i with
      | zero =>
        cases hx
        cases hy
        exact ⟨h1, h2⟩
      | succ i => exact b i x y hx hy
    · rintro ⟨a, b⟩
      obtain ⟨h1, h2⟩ := b 0 r l rfl rfl
      exact .cons h1 h2 (fit_iff.mpr ⟨by simpa using a, fun i x y hx hy => b (i + 1) x y hx hy⟩)
theorem cap_nn {s : Bool} {r l : Int} (h1 : 0 ≤ l) (h2 : l ≤ r) : 0 ≤ cap s r l := by
  unfold cap
  cases s <;> simp <;> omega
theorem put_fit {s : Bool} {r l d : Int} (h1 : 0 ≤ l) (h2 : l ≤ r) (d0 : 0 ≤ d) (d1 : d ≤ cap s r l) : 0 ≤ put1 s l d ∧ put1 s l d ≤ r := by
  unfold cap at d1
  unfold put1
  cases s <;> simp at d1 ⊢ <;> omega
theorem runL_fit {s : Bool} : ∀ {rs ls : List Int} {n : Int}, Fit rs ls → 0 ≤ n → Fit rs (runL s rs ls n).1 ∧ 0 ≤ (runL s rs ls n).2 ∧ (runL s rs ls n).2 ≤ n
  | _, _, n, .nil, hn => ⟨.nil, hn, Int.le_refl _⟩
  | r :: rs, l :: ls, n, .cons h1 h2 h, hn => by
    have hc := cap_nn (s := s) h1 h2
    obtain ⟨a, b, c⟩ := runL_fit (s := s) (n := n - min n (cap s r l)) h (by omega)
    obtain ⟨p1, p2⟩ := put_fit (s := s) (d := min n (cap s r l)) h1 h2 (by omega) (by omega)
    exact ⟨.cons p1 p2 a, b, by show (runL s rs ls (n - min n (cap s r l))).2 ≤ n; omega⟩
theorem runR_fit {s : Bool} : ∀ {rs ls : List Int} {n : Int}, Fit rs ls → 0 ≤ n → Fit rs (runR s rs ls n).1 ∧ 0 ≤ (runR s rs ls n).2 ∧ (runR s rs ls n).2 ≤ n
  | _, _, n, .nil, hn => ⟨.nil, hn, Int.le_refl _⟩
  | r :: rs, l :: ls, n, .cons h1 h2 h, hn => by
    have hc := cap_nn (s := s) h1 h2
    obtain ⟨a, b, c⟩ := runR_fit (s := s) (n := n) h hn
    obtain ⟨p1, p2⟩ := put_fit (s := s) (d := min (runR s rs ls n).2 (cap s r l)) h1 h2 (by omega) (by omega)
    refine ⟨.cons p1 p2 a, ?_, ?_⟩
    · show 0 ≤ (runR s rs ls n).2 - min (runR s rs ls n).2 (cap s r l)
      omega
    · show (runR s rs ls n).2 - min (runR s rs ls n).2 (cap s r l) ≤ n
      omega
theorem runM_fit {b : Br} {rs ls : List Int} {n : Int} (h : Fit rs ls) (hn : 0 ≤ n) : Fit rs (runM b rs ls n).1 ∧ 0 ≤ (runM b rs ls n).2 ∧ (runM b rs ls n).2 ≤ n := by
  unfold runM
  split
  · exact runL_fit h hn
  · exact runR_fit h hn
theorem runL_sum {s : Bool} : ∀ {rs ls : List Int} {n : Int}, Fit rs ls → (runL s rs ls n).1.sum = put1 s ls.sum (n - (runL s rs ls n).2)
  | _, _, n, .nil => by
    show (0 : Int) = put1 s 0 (n - n)
    unfold put1
    cases s <;> simp
  | r :: rs, l :: ls, n, .cons h1 h2 h => by
    have := runL_sum (s := s) (n := n - min n (cap s r l)) h
    show put1 s l (min n (cap s r l)) + (runL s rs ls (n - min n (cap s r l))).1.sum = put1 s (l + ls.sum) (n - (runL s rs ls (n - min n (cap s r l))).2)
    rw [this]
    unfold put1
    cases s <;> simp <;> omega
theorem runR_sum {s : Bool} : ∀ {rs ls : List Int} {n : Int}, Fit rs ls → (runR s rs ls n).1.sum = put1 s ls.sum (n - (runR s rs ls n).2)
  | _, _, n, .nil => by
    show (0 : Int) = put1 s 0 (n - n)
    unfold put1
    cases s <;> simp
  | r :: rs, l :: ls, n, .cons h1 h2 h => by
    have := runR_sum (s := s) (n := n) h
    show put1 s l (min (runR s rs ls n).2 (cap s r l)) + (runR s rs ls n).1.sum = put1 s (l + ls.sum) (n - ((runR s rs ls n).2 - min (runR s rs ls n).2 (cap s r l)))
    rw [this]
    unfold put1
    cases s <;> simp <;> omega
theorem runM_sum {b : Br} {rs ls : List Int} {n : Int} (h : Fit rs ls) : (runM b rs ls n).1.sum = put1 b.2 ls.sum (n - (runM b rs ls n).2) := by
  unfold runM
  split
  · exact runL_sum h
  · exact runR_sum h
abbrev Wd' := List (Br × Int)
def rnD (x : Br × Int) : PyData := .tuple [.str x.1.nm, .int x.2]
abbrev wD (w : Wd') : List PyData := w.map rnD
def WOk (w : Wd') : Prop := ∀ x ∈ w, 0 ≤ x.2
def hix : Br → Nat
  | (false, true) => 0
  | (false, false) => 1
  | (true, true) => 2
  | (true, false) => 3
theorem gd_hix (b : Br) : gdAt 0 (.str b.nm) = .ret (.int (hix b : Int)) := by
  rcases b with ⟨_ | _, _ | _⟩ <;> rfl
def wstep (rs : List Int) (st : List Int × List Int) (x : Br × Int) : List Int × List Int := ((runM x.1 rs st.1 x.2).1, st.2.set (hix x.1) (st.2.getD (hix x.1) 0 + (runM x.1 rs st.1 x.2).2))
def wordM (rs ls : List Int) (w : Wd') : List Int × List Int := w.foldl (wstep rs) (ls, [0, 0, 0, 0])
theorem hix_lt (b : Br) : hix b < 4 := by
  rcases b with ⟨_ | _, _ | _⟩ <;> decide
theorem run_done_eq' {r st : PyData} {rs ls : List Int} {n : Int} (hr : seqF r = some (dI rs)) (hs : seqF st = some (dI ls)) (hf : Fit rs ls) (hl : rs.length ≤ 1000) (hn : 0 ≤ n) (b : Br) :
    sem_run_done [r, st, .str b.nm, .int n] = .ret (.tuple [lN (runM b rs ls n).1, .int (runM b rs ls n).2]) := by
  rw [run_done_eq hr hs (fit_iff.mp hf) hl hn b, runI_eq b rs ls n hf.len]
theorem word_done_eq {r st wd : PyData} {rs ls : List Int} {w : Wd'} (hr : seqF r = some (dI rs)) (hs : seqF st = some (dI ls)) (hw : seqF wd = some (wD w)) (hf : Fit rs ls) (hl : rs.length ≤ 1000) (ho : WOk w) :
    sem_word_done [r, st, wd] = .ret (.tuple [tN (wordM rs ls w).1, tN (wordM rs ls w).2]) := by
  have key : ∃ env', forL (lstep (evS b_word_done_1) (.tp (.cons (.nm 5) (.cons (.nm 6) .nil)))) (w.map rnD) [.dat r, .dat st, .dat wd, .dat (.list (dI ls)), .own [.int 0, .int 0, .int 0, .int 0], .unk, .unk, .unk] = .ret (.nx env') ∧
      (Fit rs (wordM rs ls w).1 ∧ (wordM rs ls w).2.length = 4 ∧ ∃ a b c, env' = [.dat r, .dat st, .dat wd, .dat (lN (wordM rs ls w).1), .own (dI (wordM rs ls w).2), a, b, c]) := by
    refine forL_fold (enc := fun q env => Fit rs q.1 ∧ q.2.length = 4 ∧ ∃ a b c, env = [.dat r, .dat st, .dat wd, .dat (lN q.1), .own (dI q.2), a, b, c]) (stp := wstep rs) (b := (ls, [0, 0, 0, 0])) ⟨hf, rfl, .unk, .unk, .unk, rfl⟩ ?_
    rintro x hx ⟨L, cs⟩ env ⟨hF, hC, a, b, c, rfl⟩
    have hn := ho x hx
    have e1 := run_done_eq' (st := lN L) hr rfl hF hl hn x.1
    have hi := hix_lt x.1
    have h4 : hix x.1 < cs.length := by rw [hC]; exact hi
    have g1 : cs[hix x.1]? = some cs[hix x.1] := List.getElem?_eq_getElem h4
    have g2 : cs.getD (hix x.1) 0 = cs[hix x.1] := by rw [List.getD_eq_getElem?_getD, g1]; rfl
    have a3 : ixN (dI cs).length (hix x.1 : Int) = some (hix x.1) := ixN_nat (by rw [List.length_map]; exact h4)
    have a4 : (dI cs)[hix x.1]? = some (.int cs[hix x.1]) := by rw [List.getElem?_map, g1]; rfl
    refine ⟨[.dat r, .dat st, .dat wd, .dat (lN (wstep rs (L, cs) x).1), .own (dI (wstep rs (L, cs) x).2), .dat (.str x.1.nm), .dat (.int x.2), .dat (.int (runM x.1 rs L x.2).2)], ?_, (runM_fit hF hn).1, by show (cs.set _ _).length = 4; rw [List.length_set]; exact hC, _, _, _, rfl⟩
    unfold wstep
    simp only [lstep, b_word_done_1, rnD, DP.run, DP.runB, evS, evE, evA, evT, evP, evI, startE, startX, slot_zero, slot_succ, own_zero, own_succ, box_zero, box_succ, bind_r, Dr.bind_assoc, pur_r, put_nm, put_tp, put_tpL, puts_nil, puts_cons, then_nx, then_rt, then_rtO, told_rtO, put2_c, put3_c, evF, evB, flat_i, flat_b, flat_s, asLst_l, f_intI, f_intB, f_odd, f_notN, f_fListL, f_fListT, non_i, non_n, f_neS, then_bk, then_ct, told_rt, evT_qY, andB_t, andB_f, orB_t, orB_f, asInt_i, Dr.opt_some, small, within, List.length_cons, List.length_nil, List.map_cons, List.map_nil, List.cons_append, List.nil_append, List.replicate, List.set_cons_zero, List.set_cons_succ, Tt.vs, Ts.vs, Option.bind_some, Nat.reduceAdd, Nat.reduceSub, Nat.reduceLeDiff, Nat.reduceEqDiff, reduceIte, if_true, if_false, asIx_int, f_add, f_sub, f_lt, f_le, f_gt, f_ge, f_addA, f_subA, f_eqI, f_eqS, f_eqB, f_neI, f_isN, f_ixL, f_ixT, f_neg, f_not, f_min, f_max, f_abs, f_tB, f_lenL, f_lenT, f_list, f_listT, f_tup, f_tupT, f_wSeqL, f_wSeqT, f_cutT, f_cutL, wipeX, List.all_cons, List.all_nil, List.contains_cons, List.elem_nil, Bool.and_true, Bool.true_and, beq_self_eq_true, Bool.or_true, Bool.true_or, Bool.false_eq_true, Option.some.injEq, decide_true, decide_false, Bool.not_true, Bool.not_false, Nat.reduceBEq, Bool.or_false, Bool.false_or, List.append_nil, List.singleton_append, true_and, and_true, and_self, e1, gd_hix, a3, a4, g2, List.map_set]
  obtain ⟨env', e, hF, hC, a, b, c, rfl⟩ := key
  have ew : wSeq.f wd = some (w.map rnD) := hw
  simp only [sem_word_done, a_word_done, DP.run, DP.runB, evS, evE, evA, evT, evP, evI, startE, startX, slot_zero, slot_succ, own_zero, own_succ, box_zero, box_succ, bind_r, Dr.bind_assoc, pur_r, put_nm, put_tp, put_tpL, puts_nil, puts_cons, then_nx, then_rt, then_rtO, told_rtO, put2_c, put3_c, evF, evB, flat_i, flat_b, flat_s, asLst_l, f_intI, f_intB, f_odd, f_notN, f_fListL, f_fListT, non_i, non_n, f_neS, then_bk, then_ct, told_rt, evT_qY, andB_t, andB_f, orB_t, orB_f, asInt_i, Dr.opt_some, small, within, List.length_cons, List.length_nil, List.map_cons, List.map_nil, List.cons_append, List.nil_append, List.replicate, List.set_cons_zero, List.set_cons_succ, Tt.vs, Ts.vs, Option.bind_some, Nat.reduceAdd, Nat.reduceSub, Nat.reduceLeDiff, Nat.reduceEqDiff, reduceIte, if_true, if_false, asIx_int, f_add, f_sub, f_lt, f_le, f_gt, f_ge, f_addA, f_subA, f_eqI, f_eqS, f_eqB, f_neI, f_isN, f_ixL, f_ixT, f_neg, f_not, f_min, f_max, f_abs, f_tB, f_lenL, f_lenT, f_list, f_listT, f_tup, f_tupT, f_wSeqL, f_wSeqT, f_cutT, f_cutL, wipeX, List.all_cons, List.all_nil, List.contains_cons, List.elem_nil, Bool.and_true, Bool.true_and, beq_self_eq_true, Bool.or_true, Bool.true_or, Bool.false_eq_true, Option.some.injEq, decide_true, decide_false, Bool.not_true, Bool.not_false, Nat.reduceBEq, Bool.or_false, Bool.false_or, List.append_nil, List.singleton_append, true_and, and_true, and_self, list_seq hs, ew, e]
theorem breathed_eq {r st wd : PyData} {rs ls : List Int} {w : Wd'} (hr : seqF r = some (dI rs)) (hs : seqF st = some (dI ls)) (hw : seqF wd = some (wD w)) (hf : Fit rs ls) (hl : rs.length ≤ 1000) (ho : WOk w) :
    sem_breathed [r, st, wd] = .ret (tN (wordM rs ls w).1) := by
  simp only [sem_breathed, a_breathed, DP.run, DP.runB, evS, evE, evA, evT, evP, evI, startE, startX, slot_zero, slot_succ, own_zero, own_succ, box_zero, box_succ, bind_r, Dr.bind_assoc, pur_r, put_nm, put_tp, put_tpL, puts_nil, puts_cons, then_nx, then_rt, then_rtO, told_rtO, put2_c, put3_c, evF, evB, flat_i, flat_b, flat_s, asLst_l, f_intI, f_intB, f_odd, f_notN, f_fListL, f_fListT, non_i, non_n, f_neS, then_bk, then_ct, told_rt, evT_qY, andB_t, andB_f, orB_t, orB_f, asInt_i, Dr.opt_some, small, within, List.length_cons, List.length_nil, List.map_cons, List.map_nil, List.cons_append, List.nil_append, List.replicate, List.set_cons_zero, List.set_cons_succ, Tt.vs, Ts.vs, Option.bind_some, Nat.reduceAdd, Nat.reduceSub, Nat.reduceLeDiff, Nat.reduceEqDiff, reduceIte, if_true, if_false, asIx_int, f_add, f_sub, f_lt, f_le, f_gt, f_ge, f_addA, f_subA, f_eqI, f_eqS, f_eqB, f_neI, f_isN, f_ixL, f_ixT, f_neg, f_not, f_min, f_max, f_abs, f_tB, f_lenL, f_lenT, f_list, f_listT, f_tup, f_tupT, f_wSeqL, f_wSeqT, f_cutT, f_cutL, wipeX, List.all_cons, List.all_nil, List.contains_cons, List.elem_nil, Bool.and_true, Bool.true_and, beq_self_eq_true, Bool.or_true, Bool.true_or, Bool.false_eq_true, Option.some.injEq, decide_true, decide_false, Bool.not_true, Bool.not_false, Nat.reduceBEq, Bool.or_false, Bool.false_or, List.append_nil, List.singleton_append, true_and, and_true, and_self, word_done_eq hr hs hw hf hl ho]
def netB (b : Br) (w : Wd') : Int := ((w.filter fun x => decide (x.1 = b)).map (·.2)).sum
theorem wordM_fit {rs : List Int} : ∀ {w : Wd'} {ls cs : List Int}, Fit rs ls → WOk w → cs.length = 4 → Fit rs (w.foldl (wstep rs) (ls, cs)).1 ∧ (w.foldl (wstep rs) (ls, cs)).2.length = 4
  | [], _, _, h, _, hc => ⟨h, hc⟩
  | x :: w, ls, cs, h, ho, hc => wordM_fit (w := w) (runM_fit h (ho x (List.mem_cons_self ..))).1 (fun y hy => ho y (List.mem_cons_of_mem _ hy)) (by rw [List.length_set]; exact hc)
theorem wordM_ok {rs ls : List Int} {w : Wd'} (h : Fit rs ls) (ho : WOk w) : Fit rs (wordM rs ls w).1 ∧ (wordM rs ls w).2.length = 4 := wordM_fit h ho rfl
theorem atI_k {ns : List Int} {k : Nat} (h : k < ns.length) : atI (dI ns) (k : Int) = some (.int (ns.getD k 0)) := by
  refine atI_nat' ?_
  rw [List.getElem?_map, List.getD_eq_getElem?_getD, List.getElem?_eq_getElem h]
  rfl
end DP
namespace DP
open PySem PySem.Spec PyProof.Rows L2 ZX DL RT
theorem takeF_i (m : Int) : takeF [.int m] = .draw m fun j => .ret (.int j) := rfl
theorem bind_d {α β : Type} (m : Int) (k : Int → Dr α) (f : α → Dr β) : (Dr.draw m k).bind f = .draw m fun j => (k j).bind f := rfl
theorem le_draw {α : Type} {m : Int} {k : Int → Dr α} {n : Nat} {Φ : α → Prop} (h1 : 1 ≤ m) (h2 : m < 2 ^ 42) (h : ∀ j, 0 ≤ j → j < m → (k j).le n Φ) : (Dr.draw m k).le (n + 1) Φ := ⟨n, rfl, h1, h2, h⟩
theorem pick4 {α : Type} (a b c d : α) {i : Int} (h0 : 0 ≤ i) (h1 : i < 4) : ∃ x, atI [a, b, c, d] i = some x ∧ (x = a ∨ x = b ∨ x = c ∨ x = d) := by
  rcases (by omega : i = 0 ∨ i = 1 ∨ i = 2 ∨ i = 3) with rfl | rfl | rfl | rfl
  · exact ⟨a, rfl, .inl rfl⟩
  · exact ⟨b, rfl, .inr (.inl rfl)⟩
  · exact ⟨c, rfl, .inr (.inr (.inl rfl))⟩
  · exact ⟨d, rfl, .inr (.inr (.inr rfl))⟩
theorem ints_all {p : Int → Prop} : ∀ {ds : List PyData}, (∀ d ∈ ds, ∃ i, d = .int i ∧ p i) → ∃ ns : List Int, ds = dI ns ∧ ∀ n ∈ ns, p n := ints_of
theorem rngF_n {n : Int} (h0 : 0 ≤ n) (h1 : n < 2 ^ 62) : wRng.f [.int n] = some ((List.range n.toNat).map fun (i : Nat) => PyData.int (i : Int)) := by
  show (if -(2 ^ 62) ≤ n ∧ n < 2 ^ 62 then some (rangeD 0 n.toNat) else none) = _
  rw [if_pos ⟨by omega, h1⟩]
  congr 1
  unfold rangeD
  refine List.map_congr_left fun i _ => ?_
  rw [Int.zero_add]
def WIn (m o : Int) (w : Wd') : Prop := (w.length : Int) ≤ m ∧ ∀ x ∈ w, 1 ≤ x.2 ∧ x.2 ≤ o
theorem WIn.ok {m o : Int} {w : Wd'} (h : WIn m o w) : WOk w := fun x hx => by have := h.2 x hx; omega
theorem word_le {m o : Int} (h1 : 0 ≤ m) (h2 : m ≤ 1000) (o1 : 1 ≤ o) (o2 : o < 2 ^ 30) : (sem_L_word [.int m, .int o]).le (2 * m.toNat + 1) fun d => ∃ w, d = .list (wD w) ∧ WIn m o w := by
  simp only [sem_L_word, a_L_word, DP.run, DP.runB, evS, evE, evA, evT, evP, evI, startE, startX, slot_zero, slot_succ, own_zero, own_succ, box_zero, box_succ, bind_r, Dr.bind_assoc, pur_r, put_nm, put_tp, put_tpL, puts_nil, puts_cons, then_nx, then_rt, then_rtO, told_rtO, put2_c, put3_c, evF, evB, flat_i, flat_b, flat_s, asLst_l, f_intI, f_intB, f_odd, f_notN, f_fListL, f_fListT, non_i, non_n, f_neS, then_bk, then_ct, told_rt, evT_qY, andB_t, andB_f, orB_t, orB_f, asInt_i, Dr.opt_some, small, within, List.length_cons, List.length_nil, List.map_cons, List.map_nil, List.cons_append, List.nil_append, List.replicate, List.set_cons_zero, List.set_cons_succ, Tt.vs, Ts.vs, Option.bind_some, Nat.reduceAdd, Nat.reduceSub, Nat.reduceLeDiff, Nat.reduceEqDiff, reduceIte, if_true, if_false, asIx_int, f_add, f_sub, f_lt, f_le, f_gt, f_ge, f_addA, f_subA, f_eqI, f_eqS, f_eqB, f_neI, f_isN, f_ixL, f_ixT, f_neg, f_not, f_min, f_max, f_abs, f_tB, f_lenL, f_lenT, f_list, f_listT, f_tup, f_tupT, f_wSeqL, f_wSeqT, f_cutT, f_cutL, wipeX, List.all_cons, List.all_nil, List.contains_cons, List.elem_nil, Bool.and_true, Bool.true_and, beq_self_eq_true, Bool.or_true, Bool.true_or, Bool.false_eq_true, Option.some.injEq, decide_true, decide_false, Bool.not_true, Bool.not_false, Nat.reduceBEq, Bool.or_false, Bool.false_or, List.append_nil, List.singleton_append, true_and, and_true, and_self, takeF_i, bind_d]
  refine le_draw (by omega) (by omega) fun j j0 j1 => ?_
  simp only [DP.run, DP.runB, evS, evE, evA, evT, evP, evI, startE, startX, slot_zero, slot_succ, own_zero, own_succ, box_zero, box_succ, bind_r, Dr.bind_assoc, pur_r, put_nm, put_tp, put_tpL, puts_nil, puts_cons, then_nx, then_rt, then_rtO, told_rtO, put2_c, put3_c, evF, evB, flat_i, flat_b, flat_s, asLst_l, f_intI, f_intB, f_odd, f_notN, f_fListL, f_fListT, non_i, non_n, f_neS, then_bk, then_ct, told_rt, evT_qY, andB_t, andB_f, orB_t, orB_f, asInt_i, Dr.opt_some, small, within, List.length_cons, List.length_nil, List.map_cons, List.map_nil, List.cons_append, List.nil_append, List.replicate, List.set_cons_zero, List.set_cons_succ, Tt.vs, Ts.vs, Option.bind_some, Nat.reduceAdd, Nat.reduceSub, Nat.reduceLeDiff, Nat.reduceEqDiff, reduceIte, if_true, if_false, asIx_int, f_add, f_sub, f_lt, f_le, f_gt, f_ge, f_addA, f_subA, f_eqI, f_eqS, f_eqB, f_neI, f_isN, f_ixL, f_ixT, f_neg, f_not, f_min, f_max, f_abs, f_tB, f_lenL, f_lenT, f_list, f_listT, f_tup, f_tupT, f_wSeqL, f_wSeqT, f_cutT, f_cutL, wipeX, List.all_cons, List.all_nil, List.contains_cons, List.elem_nil, Bool.and_true, Bool.true_and, beq_self_eq_true, Bool.or_true, Bool.true_or, Bool.false_eq_true, Option.some.injEq, decide_true, decide_false, Bool.not_true, Bool.not_false, Nat.reduceBEq, Bool.or_false, Bool.false_or, List.append_nil, List.singleton_append, true_and, and_true, and_self, rngF_n j0 (show j < 2 ^ 62 by omega)]
  have hL := forL_le (step := lstep (evS b_L_word_1) (.nm 4)) (k := 2) (fun i env => ∃ (w : Wd') (u : Sl), w.length = i ∧ i ≤ 2000 ∧ (∀ x ∈ w, 1 ≤ x.2 ∧ x.2 ≤ o) ∧ env = [.box, .dat (.int m), .dat (.int o), .own (wD w), u]) (its := (List.range j.toNat).map fun (i : Nat) => PyData.int (i : Int)) (j := 0) (env := [.box, .dat (.int m), .dat (.int o), .own [], .unk]) ⟨[], .unk, rfl, by omega, (fun x hx => by cases hx), rfl⟩ fun i d env hd ⟨w, u, hw, hi, hb, he⟩ => by
    subst he
    rw [Nat.zero_add] at hw hi ⊢
    have hlt : i < j.toNat := by
      have := (List.getElem?_eq_some_iff.mp hd).1
      rwa [List.length_map, List.length_range] at this
    simp only [lstep, b_L_word_1, DP.run, DP.runB, evS, evE, evA, evT, evP, evI, startE, startX, slot_zero, slot_succ, own_zero, own_succ, box_zero, box_succ, bind_r, Dr.bind_assoc, pur_r, put_nm, put_tp, put_tpL, puts_nil, puts_cons, then_nx, then_rt, then_rtO, told_rtO, put2_c, put3_c, evF, evB, flat_i, flat_b, flat_s, asLst_l, f_intI, f_intB, f_odd, f_notN, f_fListL, f_fListT, non_i, non_n, f_neS, then_bk, then_ct, told_rt, evT_qY, andB_t, andB_f, orB_t, orB_f, asInt_i, Dr.opt_some, small, within, List.length_cons, List.length_nil, List.map_cons, List.map_nil, List.cons_append, List.nil_append, List.replicate, List.set_cons_zero, List.set_cons_succ, Tt.vs, Ts.vs, Option.bind_some, Nat.reduceAdd, Nat.reduceSub, Nat.reduceLeDiff, Nat.reduceEqDiff, reduceIte, if_true, if_false, asIx_int, f_add, f_sub, f_lt, f_le, f_gt, f_ge, f_addA, f_subA, f_eqI, f_eqS, f_eqB, f_neI, f_isN, f_ixL, f_ixT, f_neg, f_not, f_min, f_max, f_abs, f_tB, f_lenL, f_lenT, f_list, f_listT, f_tup, f_tupT, f_wSeqL, f_wSeqT, f_cutT, f_cutL, wipeX, List.all_cons, List.all_nil, List.contains_cons, List.elem_nil, Bool.and_true, Bool.true_and, beq_self_eq_true, Bool.or_true, Bool.true_or, Bool.false_eq_true, Option.some.injEq, decide_true, decide_false, Bool.not_true, Bool.not_false, Nat.reduceBEq, Bool.or_false, Bool.false_or, List.append_nil, List.singleton_append, true_and, and_true, and_self, takeF_i, bind_d]
    refine le_draw (by decide) (by decide) fun a a0 a1 => ?_
    obtain ⟨y, ey, hy⟩ := pick4 (PyData.str "L+") (PyData.str "L-") (PyData.str "R+") (PyData.str "R-") a0 a1
    simp only [DP.run, DP.runB, evS, evE, evA, evT, evP, evI, startE, startX, slot_zero, slot_succ, own_zero, own_succ, box_zero, box_succ, bind_r, Dr.bind_assoc, pur_r, put_nm, put_tp, put_tpL, puts_nil, puts_cons, then_nx, then_rt, then_rtO, told_rtO, put2_c, put3_c, evF, evB, flat_i, flat_b, flat_s, asLst_l, f_intI, f_intB, f_odd, f_notN, f_fListL, f_fListT, non_i, non_n, f_neS, then_bk, then_ct, told_rt, evT_qY, andB_t, andB_f, orB_t, orB_f, asInt_i, Dr.opt_some, small, within, List.length_cons, List.length_nil, List.map_cons, List.map_nil, List.cons_append, List.nil_append, List.replicate, List.set_cons_zero, List.set_cons_succ, Tt.vs, Ts.vs, Option.bind_some, Nat.reduceAdd, Nat.reduceSub, Nat.reduceLeDiff, Nat.reduceEqDiff, reduceIte, if_true, if_false, asIx_int, f_add, f_sub, f_lt, f_le, f_gt, f_ge, f_addA, f_subA, f_eqI, f_eqS, f_eqB, f_neI, f_isN, f_ixL, f_ixT, f_neg, f_not, f_min, f_max, f_abs, f_tB, f_lenL, f_lenT, f_list, f_listT, f_tup, f_tupT, f_wSeqL, f_wSeqT, f_cutT, f_cutL, wipeX, List.all_cons, List.all_nil, List.contains_cons, List.elem_nil, Bool.and_true, Bool.true_and, beq_self_eq_true, Bool.or_true, Bool.true_or, Bool.false_eq_true, Option.some.injEq, decide_true, decide_false, Bool.not_true, Bool.not_false, Nat.reduceBEq, Bool.or_false, Bool.false_or, List.append_nil, List.singleton_append, true_and, and_true, and_self, ey, takeF_i, bind_d]
    refine le_draw o1 (by omega) fun c c0 c1 => ?_
    obtain ⟨b, rfl⟩ : ∃ b : Br, y = .str b.nm := by
      rcases hy with rfl | rfl | rfl | rfl
      · exact ⟨(true, true), rfl⟩
      · exact ⟨(true, false), rfl⟩
      · exact ⟨(false, true), rfl⟩
      · exact ⟨(false, false), rfl⟩
    rw [if_pos (show (wD w).length ≤ 100000 by rw [List.length_map]; omega)]
    refine ⟨_, rfl, w ++ [(b, 1 + c)], .dat d, by rw [List.length_append, hw]; rfl, by omega, fun x hx => ?_, by simp [rnD]⟩
    rcases List.mem_append.mp hx with hx | hx
    · exact hb x hx
    · rw [List.mem_singleton.mp hx]
      exact ⟨by show 1 ≤ 1 + c; omega, by show 1 + c ≤ o; omega⟩
  rw [List.length_map, List.length_range] at hL
  refine Dr.le_up (Dr.le_bind (m := 0) hL fun f ⟨env', ef, w, u, hw, _, hb, he⟩ => ?_) (show 2 * j.toNat + 0 ≤ 2 * m.toNat by omega)
  subst ef he
  exact ⟨w, rfl, by omega, hb⟩
end DP
namespace DP
open PySem PySem.Spec PyProof.Rows L2 ZX DL RT
mutual
theorem eqv_refl : ∀ d : PyData, d.canLay0 = true → PyData.eqv d d = true
  | .none, _ => rfl
  | .bool b, _ => by simp [PyData.eqv]
  | .int i, _ => by simp [PyData.eqv]
  | .str x, _ => by simp [PyData.eqv]
  | .list xs, h => eqvAll_refl xs h
  | .tuple xs, h => eqvAll_refl xs h
  | .dict _, h => by cases h
theorem eqvAll_refl : ∀ ds : List PyData, PyData.canLayAll0 ds = true → PyData.eqvAll ds ds = true
  | [], _ => rfl
  | d :: ds, h => by
    obtain ⟨h1, h2⟩ := Bool.and_eq_true_iff.mp (show (d.canLay0 && PyData.canLayAll0 ds) = true from h)
    show (PyData.eqv d d && PyData.eqvAll ds ds) = true
    rw [eqv_refl d h1, eqvAll_refl ds h2]
    rfl
end
theorem lay_ints : ∀ ns : List Int, PyData.canLayAll0 (dI ns) = true
  | [] => rfl
  | n :: ns => lay_ints ns
theorem depth_ints : ∀ ns : List Int, PyData.depthAll (dI ns) = 0
  | [] => rfl
  | n :: ns => by
    show max 0 (PyData.depthAll (dI ns)) = 0
    rw [depth_ints ns]
    rfl
theorem shaped_t (ns : List Int) : SeqAt.shaped (tN ns) = true := by
  unfold SeqAt.shaped
  refine Bool.and_eq_true_iff.mpr ⟨lay_ints ns, decide_eq_true ?_⟩
  show PyData.depthAll (dI ns) + 1 ≤ 64
  rw [depth_ints]
  decide
theorem eqvAll_ints : ∀ ns ms : List Int, PyData.eqvAll (dI ns) (dI ms) = decide (ns = ms)
  | [], [] => rfl
  | [], _ :: _ => rfl
  | _ :: _, [] => rfl
  | n :: ns, m :: ms => by
    show ((n == m) && PyData.eqvAll (dI ns) (dI ms)) = decide (n :: ns = m :: ms)
    rw [eqvAll_ints ns ms]
    by_cases h : n = m <;> by_cases h2 : ns = ms <;> simp [h, h2]
theorem eqD_t (ns ms : List Int) : oEqD.f (tN ns) (tN ms) = some (.bool (decide (ns = ms))) := by
  show (if _ then some (PyData.bool (PyData.eqv (tN ns) (tN ms))) else none) = _
  rw [if_pos ⟨shaped_t ns, shaped_t ms⟩]
  show some (PyData.bool (PyData.eqvAll (dI ns) (dI ms))) = _
  rw [eqvAll_ints]
theorem pl_int' (n : Nat) (i : Int) : Pl n (.int i) := by cases n <;> trivial
theorem pl_tN (n : Nat) {ns : List Int} (h : ns.length ≤ 100000) : Pl (n + 1) (tN ns) := ⟨by rw [List.length_map]; exact h, fun y hy => by
  obtain ⟨i, _, rfl⟩ := List.mem_map.mp hy
  exact pl_int' n i⟩
def net (w : Wd') : Int := netB (true, true) w - netB (true, false) w + (netB (false, true) w - netB (false, false) w)
theorem four {cs : List Int} (h : cs.length = 4) : ∃ a b c d, cs = [a, b, c, d] := by
  match cs, h with
  | [a, b, c, d], _ => exact ⟨a, b, c, d, rfl⟩
def addV (xs ys : List Int) : List Int := (xs.zip ys).map fun p => p.1 + p.2
end DP
namespace DP
open PySem PySem.Spec PyProof.Rows L2 ZX DL RT
def turn (b : Br) : Br := (!b.1, b.2)
def turW (w : Wd') : Wd' := w.map fun x => (turn x.1, x.2)
def sizeM (w : Wd') : Int := (w.map (·.2)).sum
def diff : List Int → List Int → Option Nat
  | a :: as, b :: bs => if a ≠ b then some 0 else (diff as bs).map (· + 1)
  | _, _ => none
def optD : Option Nat → PyData
  | none => .none
  | some i => .int (i : Int)
def landM (b : Br) (rs ls : List Int) : Option Nat := diff (runM b rs ls 1).1 ls
theorem cut_to (xs : List Int) (g : Nat) : cutD (dI xs) none (some (g : Int)) = dI (xs.take g) := by
  unfold cutD
  show ((dI xs).drop 0).take (HT.sIx (dI xs).length (dI xs).length (some (g : Int)) - 0) = _
  rw [HT.sIx_nat, List.drop_zero, Nat.sub_zero, List.length_map, ← List.map_take]
  congr 1
  by_cases h : g ≤ xs.length
  · rw [Nat.min_eq_left h]
  · rw [Nat.min_eq_right (by omega), List.take_of_length_le (Nat.le_refl _), List.take_of_length_le (by omega)]
theorem cut_from (xs : List Int) (g : Nat) : cutD (dI xs) (some (g : Int)) none = dI (xs.drop g) := by
  unfold cutD
  show ((dI xs).drop (HT.sIx (dI xs).length 0 (some (g : Int)))).take ((dI xs).length - HT.sIx (dI xs).length 0 (some (g : Int))) = _
  rw [HT.sIx_nat, List.take_of_length_le (by rw [List.length_drop]; exact Nat.le_refl _), ← List.map_drop]
  congr 1
  rw [List.length_map]
  by_cases h : g ≤ xs.length
  · rw [Nat.min_eq_left h]
  · rw [Nat.min_eq_right (by omega), List.drop_of_length_le (Nat.le_refl _), List.drop_of_length_le (by omega)]
def absI (i : Int) : Int := if i < 0 then -i else i
end DP
namespace DP
open PySem PySem.Spec PyProof.Rows L2 ZX DL RT
end DP
namespace DP
open PySem PySem.Spec PyProof.Rows L2 ZX DL RT
theorem runL_snoc {s : Bool} : ∀ (rs ls : List Int) (r l n : Int), ls.length = rs.length → runL s (rs ++ [r]) (ls ++ [l]) n = ((runL s rs ls n).1 ++ [put1 s l (min (runL s rs ls n).2 (cap s r l))], (runL s rs ls n).2 - min (runL s rs ls n).2 (cap s r l))
  | [], [], r, l, n, _ => rfl
  | [], _ :: _, _, _, _, h => by cases h
  | _ :: _, [], _, _, _, h => by cases h
  | r0 :: rs, l0 :: ls, r, l, n, h => by
    show (put1 s l0 (min n (cap s r0 l0)) :: (runL s (rs ++ [r]) (ls ++ [l]) (n - min n (cap s r0 l0))).1, (runL s (rs ++ [r]) (ls ++ [l]) (n - min n (cap s r0 l0))).2) = _
    rw [runL_snoc rs ls r l _ (by simpa using h)]
    rfl
theorem runL_rev {s : Bool} : ∀ (rs ls : List Int) (n : Int), ls.length = rs.length → runL s rs.reverse ls.reverse n = ((runR s rs ls n).1.reverse, (runR s rs ls n).2)
  | [], [], n, _ => rfl
  | [], _ :: _, _, h => by cases h
  | _ :: _, [], _, h => by cases h
  | r :: rs, l :: ls, n, h => by
    rw [List.reverse_cons, List.reverse_cons, runL_snoc _ _ _ _ _ (by simpa using h), runL_rev rs ls n (by simpa using h)]
    show _ = ((put1 s l (min (runR s rs ls n).2 (cap s r l)) :: (runR s rs ls n).1).reverse, _)
    rw [List.reverse_cons]
    rfl
theorem runR_rev {s : Bool} (rs ls : List Int) (n : Int) (h : ls.length = rs.length) : runR s rs.reverse ls.reverse n = ((runL s rs ls n).1.reverse, (runL s rs ls n).2) := by
  have := runL_rev (s := s) rs.reverse ls.reverse n (by simpa using h)
  rw [List.reverse_reverse, List.reverse_reverse] at this
  rw [this, List.reverse_reverse]
theorem fit_app : ∀ {rs ls : List Int} {r l : Int}, Fit rs ls → 0 ≤ l → l ≤ r → Fit (rs ++ [r]) (ls ++ [l])
  | _, _, _, _, .nil, a, b => .cons a b .nil
  | _, _, _, _, .cons p q h, a, b => .cons p q (fit_app h a b)
theorem fit_rev : ∀ {rs ls : List Int}, Fit rs ls → Fit rs.reverse ls.reverse
  | _, _, .nil => .nil
  | _, _, .cons a b h => by
    rw [List.reverse_cons, List.reverse_cons]
    exact fit_app (fit_rev h) a b
theorem runL_zero {s : Bool} : ∀ {rs ls : List Int}, Fit rs ls → runL s rs ls 0 = (ls, 0)
  | _, _, .nil => rfl
  | r :: rs, l :: ls, .cons h1 h2 h => by
    have hc := cap_nn (s := s) h1 h2
    have e : min 0 (cap s r l) = 0 := by omega
    show (put1 s l (min 0 (cap s r l)) :: (runL s rs ls (0 - min 0 (cap s r l))).1, (runL s rs ls (0 - min 0 (cap s r l))).2) = _
    rw [e, Int.sub_zero, runL_zero h]
    unfold put1
    cases s <;> simp
end DP
namespace DP
open PySem PySem.Spec PyProof.Rows L2 ZX DL RT
theorem pl_opt (n : Nat) (o : Option Nat) : Pl n (optD o) := by
  cases o <;> cases n <;> trivial
theorem bind_n {α β : Type} {a : α} {f : α → Dr β} : (Dr.ret a).bind f = f a := Eq.trans rfl rfl
theorem pur_n {α : Type} {a : α} : (Dr.ret a).pur = .ret a := Eq.trans rfl rfl
theorem then_n {env : En} {k : En → Dr Fl} : (Fl.nx env).then k = k env := Eq.trans rfl rfl
structure Lq {α : Type} (t : Dr α) (n : Nat) (Q : α → Prop) : Prop where
  h : t.le n Q
theorem Lq.up {α : Type} {t : Dr α} {n m : Nat} {Q : α → Prop} (h : Lq t n Q) (hn : n ≤ m) : Lq t m Q := ⟨Dr.le_up h.h hn⟩
theorem Lq.bind {α β : Type} {t : Dr α} {f : α → Dr β} {n m : Nat} {Φ : α → Prop} {Ψ : β → Prop} (h : t.le n Φ) (hf : ∀ a, Φ a → Lq (f a) m Ψ) : Lq (t.bind f) (n + m) Ψ := ⟨Dr.le_bind h fun a q => (hf a q).h⟩
theorem Lq.ret {α : Type} {a : α} {n : Nat} {Φ : α → Prop} (h : Φ a) : Lq (Dr.ret a) n Φ := ⟨h⟩
theorem Lq.draw {α : Type} {m : Int} {k : Int → Dr α} {n : Nat} {Φ : α → Prop} (h1 : 1 ≤ m) (h2 : m < 2 ^ 42) (h : ∀ j, 0 ≤ j → j < m → Lq (k j) n Φ) : Lq (Dr.draw m k) (n + 1) Φ := ⟨le_draw h1 h2 fun j a b => (h j a b).h⟩
theorem ok_of_le {α : Type} {t : Dr α} {n : Nat} {Q : α → Prop} (h : Lq t n Q) : t.ok n fun d _ => Q d := h.h
theorem Lq.zero {α : Type} {t : Dr α} {n : Nat} {Q : α → Prop} (h : ∃ a, t = .ret a ∧ Q a) : Lq t n Q := by
  obtain ⟨a, rfl, h⟩ := h
  exact ⟨h⟩
theorem forL_find {α : Type} {g : α → PyData} {step : PyData → En → Dr Fl} {p : α → Bool} {ev : Sl → En} {v : α → PyData} : ∀ {xs : List α} {u : Sl}, (∀ x ∈ xs, ∀ u, step (g x) (ev u) = if p x = true then .ret (.rt (v x)) else .ret (.nx (ev (.dat (g x))))) →
    (∀ x, xs.find? p = some x → forL step (xs.map g) (ev u) = .ret (.rt (v x))) ∧ (xs.find? p = none → ∃ u', forL step (xs.map g) (ev u) = .ret (.nx (ev u')))
  | [], u, _ => ⟨fun x h => (by cases h), fun _ => ⟨u, rfl⟩⟩
  | x :: r, u, hs => by
    have ih := forL_find (g := g) (step := step) (p := p) (ev := ev) (v := v) (xs := r) (u := .dat (g x)) fun y hy => hs y (List.mem_cons_of_mem _ hy)
    have e := hs x (List.mem_cons_self ..) u
    have ef : forL step ((x :: r).map g) (ev u) = (step (g x) (ev u)).bind fun f => match f with
      | .nx env' => forL step (r.map g) env'
      | .ct env' => forL step (r.map g) env'
      | .bk env' => .ret (.nx env')
      | .rt v => .ret (.rt v)
      | .rtO v => .ret (.rtO v)
      | .ex c fs => .ret (.ex c fs) := rfl
    by_cases hp : p x = true
    · rw [if_pos hp] at e
      rw [List.find?_cons_of_pos hp]
      refine ⟨fun y h => ?_, fun h => (by cases h)⟩
      cases h
      rw [ef, e]
      rfl
    · rw [if_neg hp] at e
      rw [List.find?_cons_of_neg hp]
      refine ⟨fun y h => ?_, fun h => ?_⟩
      · rw [ef, e]
        exact ih.1 y h
      · obtain ⟨u', h'⟩ := ih.2 h
        exact ⟨u', by rw [ef, e]; exact h'⟩
theorem forL_allq {step : PyData → En → Dr Fl} (I : En → Prop) (k : Nat) : ∀ {its : List PyData} {env : En}, I env → (∀ d ∈ its, ∀ env, I env → Lq (step d env) k fun f => ∃ env', f = .nx env' ∧ I env') → Lq (forL step its env) (k * its.length) fun f => ∃ env', f = .nx env' ∧ I env'
  | [], env, h0, _ => Lq.ret ⟨env, rfl, h0⟩
  | d :: r, env, h0, hs => by
    rw [List.length_cons, Nat.mul_add, Nat.mul_one, Nat.add_comm]
    refine Lq.bind (hs d (List.mem_cons_self ..) env h0).h fun f hf => ?_
    obtain ⟨env', rfl, h⟩ := hf
    exact forL_allq I k (its := r) h fun x hx => hs x (List.mem_cons_of_mem _ hx)
end DP
namespace DP
open PySem PySem.Spec PyProof.Rows L2 ZX DL RT
def Szs (m h : Int) (rs : List Int) : Prop := 1 ≤ rs.length ∧ (rs.length : Int) ≤ m ∧ ∀ r ∈ rs, 1 ≤ r ∧ r ≤ h
theorem get_all {α : Type} {P : PyData → Prop} {xs : List α} {l : List PyData} (hl : l.length = xs.length) (hp : ∀ (i : Nat) (x : α) v, xs[i]? = some x → l[i]? = some v → P v) : ∀ v ∈ l, P v := fun v hv => by
  obtain ⟨i, hi⟩ := List.mem_iff_getElem?.mp hv
  have hlt : i < xs.length := by rw [← hl]; exact (List.getElem?_eq_some_iff.mp hi).1
  exact hp i _ v (List.getElem?_eq_getElem hlt) hi
theorem sizes_le {m h : Int} (h1 : 1 ≤ m) (h2 : m ≤ 1000) (k1 : 1 ≤ h) (k2 : h < 2 ^ 30) : (sem_L_sizes [.int m, .int h]).le (m.toNat + 1) fun d => ∃ rs, d = tN rs ∧ Szs m h rs := by
  simp only [sem_L_sizes, a_L_sizes, DP.run, DP.runB, evS, evE, evA, evT, evP, evI, startE, startX, slot_zero, slot_succ, own_zero, own_succ, box_zero, box_succ, bind_r, Dr.bind_assoc, pur_r, put_nm, put_tp, put_tpL, puts_nil, puts_cons, then_nx, then_rt, then_rtO, told_rtO, put2_c, put3_c, evF, evB, flat_i, flat_b, flat_s, asLst_l, f_intI, f_intB, f_odd, f_notN, f_fListL, f_fListT, non_i, non_n, f_neS, then_bk, then_ct, told_rt, evT_qY, andB_t, andB_f, orB_t, orB_f, asInt_i, Dr.opt_some, small, within, List.length_cons, List.length_nil, List.map_cons, List.map_nil, List.cons_append, List.nil_append, List.replicate, List.set_cons_zero, List.set_cons_succ, Tt.vs, Ts.vs, Option.bind_some, Nat.reduceAdd, Nat.reduceSub, Nat.reduceLeDiff, Nat.reduceEqDiff, reduceIte, if_true, if_false, asIx_int, f_add, f_sub, f_lt, f_le, f_gt, f_ge, f_addA, f_subA, f_eqI, f_eqS, f_eqB, f_neI, f_isN, f_ixL, f_ixT, f_neg, f_not, f_min, f_max, f_abs, f_tB, f_lenL, f_lenT, f_list, f_listT, f_tup, f_tupT, f_wSeqL, f_wSeqT, f_cutT, f_cutL, wipeX, List.all_cons, List.all_nil, List.contains_cons, List.elem_nil, Bool.and_true, Bool.true_and, beq_self_eq_true, Bool.or_true, Bool.true_or, Bool.false_eq_true, Option.some.injEq, decide_true, decide_false, Bool.not_true, Bool.not_false, Nat.reduceBEq, Bool.or_false, Bool.false_or, List.append_nil, List.singleton_append, true_and, and_true, and_self, takeF_i, bind_d]
  refine le_draw h1 (by omega) fun j j0 j1 => ?_
  simp only [DP.run, DP.runB, evS, evE, evA, evT, evP, evI, startE, startX, slot_zero, slot_succ, own_zero, own_succ, box_zero, box_succ, bind_r, Dr.bind_assoc, pur_r, put_nm, put_tp, put_tpL, puts_nil, puts_cons, then_nx, then_rt, then_rtO, told_rtO, put2_c, put3_c, evF, evB, flat_i, flat_b, flat_s, asLst_l, f_intI, f_intB, f_odd, f_notN, f_fListL, f_fListT, non_i, non_n, f_neS, then_bk, then_ct, told_rt, evT_qY, andB_t, andB_f, orB_t, orB_f, asInt_i, Dr.opt_some, small, within, List.length_cons, List.length_nil, List.map_cons, List.map_nil, List.cons_append, List.nil_append, List.replicate, List.set_cons_zero, List.set_cons_succ, Tt.vs, Ts.vs, Option.bind_some, Nat.reduceAdd, Nat.reduceSub, Nat.reduceLeDiff, Nat.reduceEqDiff, reduceIte, if_true, if_false, asIx_int, f_add, f_sub, f_lt, f_le, f_gt, f_ge, f_addA, f_subA, f_eqI, f_eqS, f_eqB, f_neI, f_isN, f_ixL, f_ixT, f_neg, f_not, f_min, f_max, f_abs, f_tB, f_lenL, f_lenT, f_list, f_listT, f_tup, f_tupT, f_wSeqL, f_wSeqT, f_cutT, f_cutL, wipeX, List.all_cons, List.all_nil, List.contains_cons, List.elem_nil, Bool.and_true, Bool.true_and, beq_self_eq_true, Bool.or_true, Bool.true_or, Bool.false_eq_true, Option.some.injEq, decide_true, decide_false, Bool.not_true, Bool.not_false, Nat.reduceBEq, Bool.or_false, Bool.false_or, List.append_nil, List.singleton_append, true_and, and_true, and_self, rngF_n (show 0 ≤ 1 + j by omega) (show 1 + j < 2 ^ 62 by omega), List.length_map, List.length_range]
  rw [if_pos (show (1 + j).toNat ≤ 100000 by omega)]
  simp only [DP.run, DP.runB, evS, evE, evA, evT, evP, evI, startE, startX, slot_zero, slot_succ, own_zero, own_succ, box_zero, box_succ, bind_r, Dr.bind_assoc, pur_r, put_nm, put_tp, put_tpL, puts_nil, puts_cons, then_nx, then_rt, then_rtO, told_rtO, put2_c, put3_c, evF, evB, flat_i, flat_b, flat_s, asLst_l, f_intI, f_intB, f_odd, f_notN, f_fListL, f_fListT, non_i, non_n, f_neS, then_bk, then_ct, told_rt, evT_qY, andB_t, andB_f, orB_t, orB_f, asInt_i, Dr.opt_some, small, within, List.length_cons, List.length_nil, List.map_cons, List.map_nil, List.cons_append, List.nil_append, List.replicate, List.set_cons_zero, List.set_cons_succ, Tt.vs, Ts.vs, Option.bind_some, Nat.reduceAdd, Nat.reduceSub, Nat.reduceLeDiff, Nat.reduceEqDiff, reduceIte, if_true, if_false, asIx_int, f_add, f_sub, f_lt, f_le, f_gt, f_ge, f_addA, f_subA, f_eqI, f_eqS, f_eqB, f_neI, f_isN, f_ixL, f_ixT, f_neg, f_not, f_min, f_max, f_abs, f_tB, f_lenL, f_lenT, f_list, f_listT, f_tup, f_tupT, f_wSeqL, f_wSeqT, f_cutT, f_cutL, wipeX, List.all_cons, List.all_nil, List.contains_cons, List.elem_nil, Bool.and_true, Bool.true_and, beq_self_eq_true, Bool.or_true, Bool.true_or, Bool.false_eq_true, Option.some.injEq, decide_true, decide_false, Bool.not_true, Bool.not_false, Nat.reduceBEq, Bool.or_false, Bool.false_or, List.append_nil, List.singleton_append, true_and, and_true, and_self]
  have hc := compr_le (step := cstep (evT qY) (evE x_L_sizes_1) (.nm 3) [.box, .dat (.int m), .dat (.int h), .unk]) (g := fun (i : Nat) => PyData.int (i : Int)) (k := 1) (Ψ := fun _ v => ∃ r, v = .int r ∧ 1 ≤ r ∧ r ≤ h) (xs := List.range (1 + j).toNat) fun x _ => by
    simp only [cstep, x_L_sizes_1, DP.run, DP.runB, evS, evE, evA, evT, evP, evI, startE, startX, slot_zero, slot_succ, own_zero, own_succ, box_zero, box_succ, bind_r, Dr.bind_assoc, pur_r, put_nm, put_tp, put_tpL, puts_nil, puts_cons, then_nx, then_rt, then_rtO, told_rtO, put2_c, put3_c, evF, evB, flat_i, flat_b, flat_s, asLst_l, f_intI, f_intB, f_odd, f_notN, f_fListL, f_fListT, non_i, non_n, f_neS, then_bk, then_ct, told_rt, evT_qY, andB_t, andB_f, orB_t, orB_f, asInt_i, Dr.opt_some, small, within, List.length_cons, List.length_nil, List.map_cons, List.map_nil, List.cons_append, List.nil_append, List.replicate, List.set_cons_zero, List.set_cons_succ, Tt.vs, Ts.vs, Option.bind_some, Nat.reduceAdd, Nat.reduceSub, Nat.reduceLeDiff, Nat.reduceEqDiff, reduceIte, if_true, if_false, asIx_int, f_add, f_sub, f_lt, f_le, f_gt, f_ge, f_addA, f_subA, f_eqI, f_eqS, f_eqB, f_neI, f_isN, f_ixL, f_ixT, f_neg, f_not, f_min, f_max, f_abs, f_tB, f_lenL, f_lenT, f_list, f_listT, f_tup, f_tupT, f_wSeqL, f_wSeqT, f_cutT, f_cutL, wipeX, List.all_cons, List.all_nil, List.contains_cons, List.elem_nil, Bool.and_true, Bool.true_and, beq_self_eq_true, Bool.or_true, Bool.true_or, Bool.false_eq_true, Option.some.injEq, decide_true, decide_false, Bool.not_true, Bool.not_false, Nat.reduceBEq, Bool.or_false, Bool.false_or, List.append_nil, List.singleton_append, true_and, and_true, and_self, takeF_i, bind_d]
    refine le_draw k1 (by omega) fun a a0 a1 => ?_
    exact ⟨_, rfl, 1 + a, rfl, by omega, by omega⟩
  rw [List.length_range] at hc
  refine Dr.le_up (Dr.le_bind (m := 0) hc fun l ⟨hl, hp⟩ => ?_) (show 1 * (1 + j).toNat + 0 ≤ m.toNat by omega)
  obtain ⟨rs, rfl, hr⟩ := ints_all (p := fun r => 1 ≤ r ∧ r ≤ h) (ds := l) (get_all (xs := List.range (1 + j).toNat) (by rw [List.length_range]; exact hl) hp)
  rw [List.length_map] at hl
  exact ⟨rs, rfl, by omega, by omega, hr⟩
theorem rep_z0 (n : Nat) (h2 : n ≤ 1000) : oRepT.f (.tuple [.int 0]) (.int (n : Int)) = some (tN (List.replicate n 0)) := by
  show (if ((0 ≤ (n : Int) ∧ (n : Int) ≤ 1000) ∧ [PyData.int 0].length ≤ 1000) ∧ 0 < [PyData.int 0].length then some (PyData.tuple (List.replicate (n : Int).toNat [PyData.int 0]).flatten) else none) = _
  rw [if_pos ⟨⟨⟨by omega, by omega⟩, by decide⟩, by decide⟩, Int.toNat_natCast]
  congr 2
  induction n with
  | zero => rfl
  | succ n ih =>
    rw [List.replicate_succ, List.flatten_cons]
    by_cases hn : 1 ≤ n
    · rw [ih (by omega)]
      rfl
    · obtain rfl : n = 0 := by omega
      rfl
theorem rep_zero (n : Nat) (h1 : 1 ≤ n) (h2 : n ≤ 1000) : oRepT.f (.tuple [.int 0]) (.int (n : Int)) = some (tN (List.replicate n 0)) := rep_z0 n h2
theorem fit_zero : ∀ {rs : List Int}, (∀ r ∈ rs, 0 ≤ r) → Fit rs (List.replicate rs.length 0)
  | [], _ => .nil
  | r :: rs, h => .cons (Int.le_refl _) (h r (List.mem_cons_self ..)) (fit_zero fun x hx => h x (List.mem_cons_of_mem _ hx))
theorem fit_full : ∀ {rs : List Int}, (∀ r ∈ rs, 0 ≤ r) → Fit rs rs
  | [], _ => .nil
  | r :: rs, h => .cons (h r (List.mem_cons_self ..)) (Int.le_refl _) (fit_full fun x hx => h x (List.mem_cons_of_mem _ hx))
theorem optD_s (i : Nat) : optD (some i) = .int (i : Int) := rfl
theorem ixS0 (b : Br) : oIxS.f (.str b.nm) (.int 0) = some (.str (if b.1 = true then "L" else "R")) := by
  rcases b with ⟨_ | _, _ | _⟩ <;> rfl
theorem ixS1 (b : Br) : oIxS.f (.str b.nm) (.int 1) = some (.str (if b.2 = true then "+" else "-")) := by
  rcases b with ⟨_ | _, _ | _⟩ <;> rfl
def spotL (s : Bool) : List Int → List Int → Option Nat
  | r :: rs, l :: ls => if 0 < cap s r l then some 0 else (spotL s rs ls).map (· + 1)
  | _, _ => none
def spotR (s : Bool) : List Int → List Int → Option Nat
  | r :: rs, l :: ls => match spotR s rs ls with
    | some i => some (i + 1)
    | none => if 0 < cap s r l then some 0 else none
  | _, _ => none
def spotM (b : Br) (rs ls : List Int) : Option Nat := if b.1 = true then spotL b.2 rs ls else spotR b.2 rs ls
def isSp (s : Bool) (rs ls : List Int) (i : Nat) : Bool := decide (0 < cap s (rs.getD i 0) (ls.getD i 0))
theorem find_map_succ (p : Nat → Bool) (xs : List Nat) : (xs.map (· + 1)).find? p = (xs.find? fun i => p (i + 1)).map (· + 1) := by
  rw [List.find?_map]
  rfl
theorem find_spL (s : Bool) : ∀ (rs ls : List Int), ls.length = rs.length → (List.range rs.length).find? (isSp s rs ls) = spotL s rs ls
  | [], [], _ => rfl
  | r :: rs, l :: ls, h => by
    rw [List.length_cons, List.range_succ_eq_map]
    show List.find? (isSp s (r :: rs) (l :: ls)) (0 :: (List.range rs.length).map (· + 1)) = if 0 < cap s r l then some 0 else (spotL s rs ls).map (· + 1)
    have e0 : isSp s (r :: rs) (l :: ls) 0 = decide (0 < cap s r l) := rfl
    by_cases hc : 0 < cap s r l
    · rw [List.find?_cons_of_pos (by rw [e0]; exact decide_eq_true hc), if_pos hc]
    · rw [List.find?_cons_of_neg (by rw [e0]; simpa using hc), if_neg hc, find_map_succ]
      have := find_spL s rs ls (by simpa using h)
      rw [← this]
      rfl
  | [], _ :: _, h => by cases h
  | _ :: _, [], h => by cases h
theorem find_rev_app {α : Type} (p : α → Bool) (xs ys : List α) : (xs ++ ys).find? p = (xs.find? p).or (ys.find? p) := by
  rw [List.find?_append]
theorem find_spR (s : Bool) : ∀ (rs ls : List Int), ls.length = rs.length → (List.range rs.length).reverse.find? (isSp s rs ls) = spotR s rs ls
  | [], [], _ => rfl
  | r :: rs, l :: ls, h => by
    rw [List.length_cons, List.range_succ_eq_map, List.reverse_cons, ← List.map_reverse, find_rev_app]
    have ih := find_spR s rs ls (by simpa using h)
    have e1 : ((List.range rs.length).reverse.map Nat.succ).find? (isSp s (r :: rs) (l :: ls)) = (spotR s rs ls).map (· + 1) := by
      rw [← ih]
      exact find_map_succ _ _
    rw [e1]
    have e0 : isSp s (r :: rs) (l :: ls) 0 = decide (0 < cap s r l) := rfl
    show _ = match spotR s rs ls with
      | some i => some (i + 1)
      | none => if 0 < cap s r l then some 0 else none
    cases spotR s rs ls with
    | some i => rfl
    | none =>
      by_cases hc : 0 < cap s r l
      · rw [if_pos hc]
        show List.find? _ [0] = _
        rw [List.find?_cons_of_pos (by rw [e0]; exact decide_eq_true hc)]
      · rw [if_neg hc]
        show List.find? _ [0] = _
        rw [List.find?_cons_of_neg (by rw [e0]; simpa using hc)]
        rfl
  | [], _ :: _, h => by cases h
  | _ :: _, [], h => by cases h
theorem find_order (b : Br) (rs ls : List Int) (h : ls.length = rs.length) : (order b rs.length).find? (isSp b.2 rs ls) = spotM b rs ls := by
  unfold order spotM
  cases b.1 with
  | true => exact find_spL _ rs ls h
  | false => exact find_spR _ rs ls h
theorem uListRg_n (n : Nat) (h : n ≤ 1000) : uListRg.f (.int (n : Int)) = some (.list (ixD (List.range n))) := by
  show (if 0 ≤ (n : Int) ∧ (n : Int) ≤ 16777216 then some (PyData.list (rangeD 0 (n : Int).toNat)) else none) = _
  rw [if_pos ⟨by omega, by omega⟩, Int.toNat_natCast]
  congr 2
  unfold rangeD
  refine List.map_congr_left fun i _ => ?_
  rw [Int.zero_add]
theorem uRevL_ix (l : List Nat) : uRevL.f (.list (ixD l)) = some (.list (ixD l.reverse)) := by
  show some (PyData.list (ixD l).reverse) = _
  rw [← List.map_reverse]
theorem strL : (decide (("L" : Str) = "L")) = true := by decide +kernel
theorem strRL : (decide (("R" : Str) = "L")) = false := by decide +kernel
theorem strP : (decide (("+" : Str) = "+")) = true := by decide +kernel
theorem strMP : (decide (("-" : Str) = "+")) = false := by decide +kernel
theorem spot_eq {rs ls : List Int} (hf : Fit rs ls) (hl : rs.length ≤ 1000) (b : Br) : sem_L_spot [tN rs, tN ls, .str b.nm] = .ret (optD (spotM b rs ls)) := by
  have hs : ∀ i ∈ order b rs.length, ∀ u, lstep (evS b_L_spot_1) (.nm 4) (.int (i : Int)) [.dat (tN rs), .dat (tN ls), .dat (.str b.nm), .dat (.list (ixD (List.range rs.length))), u] = if isSp b.2 rs ls i = true then .ret (.rt (.int (i : Int))) else .ret (.nx [.dat (tN rs), .dat (tN ls), .dat (.str b.nm), .dat (.list (ixD (List.range rs.length))), .dat (.int (i : Int))]) := fun i hi u => by
    have h1 : i < rs.length := order_lt hi
    have h2 : i < ls.length := by rw [hf.len]; exact h1
    simp only [lstep, b_L_spot_1, DP.run, DP.runB, evS, evE, evA, evT, evP, evI, startE, startX, slot_zero, slot_succ, own_zero, own_succ, box_zero, box_succ, bind_r, Dr.bind_assoc, pur_r, put_nm, put_tp, put_tpL, puts_nil, puts_cons, then_nx, then_rt, then_rtO, told_rtO, put2_c, put3_c, evF, evB, flat_i, flat_b, flat_s, asLst_l, f_intI, f_intB, f_odd, f_notN, f_fListL, f_fListT, non_i, non_n, f_neS, then_bk, then_ct, told_rt, evT_qY, andB_t, andB_f, orB_t, orB_f, asInt_i, Dr.opt_some, small, within, List.length_cons, List.length_nil, List.map_cons, List.map_nil, List.cons_append, List.nil_append, List.replicate, List.set_cons_zero, List.set_cons_succ, Tt.vs, Ts.vs, Option.bind_some, Nat.reduceAdd, Nat.reduceSub, Nat.reduceLeDiff, Nat.reduceEqDiff, reduceIte, if_true, if_false, asIx_int, f_add, f_sub, f_lt, f_le, f_gt, f_ge, f_addA, f_subA, f_eqI, f_eqS, f_eqB, f_neI, f_isN, f_ixL, f_ixT, f_neg, f_not, f_min, f_max, f_abs, f_tB, f_lenL, f_lenT, f_list, f_listT, f_tup, f_tupT, f_wSeqL, f_wSeqT, f_cutT, f_cutL, wipeX, List.all_cons, List.all_nil, List.contains_cons, List.elem_nil, Bool.and_true, Bool.true_and, beq_self_eq_true, Bool.or_true, Bool.true_or, Bool.false_eq_true, Option.some.injEq, decide_true, decide_false, Bool.not_true, Bool.not_false, Nat.reduceBEq, Bool.or_false, Bool.false_or, List.append_nil, List.singleton_append, true_and, and_true, and_self, ixS1, atI_k h1, atI_k h2]
    unfold isSp cap
    cases b.2 with
    | true =>
      simp only [DP.run, DP.runB, evS, evE, evA, evT, evP, evI, startE, startX, slot_zero, slot_succ, own_zero, own_succ, box_zero, box_succ, bind_r, Dr.bind_assoc, pur_r, put_nm, put_tp, put_tpL, puts_nil, puts_cons, then_nx, then_rt, then_rtO, told_rtO, put2_c, put3_c, evF, evB, flat_i, flat_b, flat_s, asLst_l, f_intI, f_intB, f_odd, f_notN, f_fListL, f_fListT, non_i, non_n, f_neS, then_bk, then_ct, told_rt, evT_qY, andB_t, andB_f, orB_t, orB_f, asInt_i, Dr.opt_some, small, within, List.length_cons, List.length_nil, List.map_cons, List.map_nil, List.cons_append, List.nil_append, List.replicate, List.set_cons_zero, List.set_cons_succ, Tt.vs, Ts.vs, Option.bind_some, Nat.reduceAdd, Nat.reduceSub, Nat.reduceLeDiff, Nat.reduceEqDiff, reduceIte, if_true, if_false, asIx_int, f_add, f_sub, f_lt, f_le, f_gt, f_ge, f_addA, f_subA, f_eqI, f_eqS, f_eqB, f_neI, f_isN, f_ixL, f_ixT, f_neg, f_not, f_min, f_max, f_abs, f_tB, f_lenL, f_lenT, f_list, f_listT, f_tup, f_tupT, f_wSeqL, f_wSeqT, f_cutT, f_cutL, wipeX, List.all_cons, List.all_nil, List.contains_cons, List.elem_nil, Bool.and_true, Bool.true_and, beq_self_eq_true, Bool.or_true, Bool.true_or, Bool.false_eq_true, Option.some.injEq, decide_true, decide_false, Bool.not_true, Bool.not_false, Nat.reduceBEq, Bool.or_false, Bool.false_or, List.append_nil, List.singleton_append, true_and, and_true, and_self, strP]
      by_cases hc : ls.getD i 0 < rs.getD i 0
      · have hc' : 0 < rs.getD i 0 - ls.getD i 0 := by omega
        simp only [DP.run, DP.runB, evS, evE, evA, evT, evP, evI, startE, startX, slot_zero, slot_succ, own_zero, own_succ, box_zero, box_succ, bind_r, Dr.bind_assoc, pur_r, put_nm, put_tp, put_tpL, puts_nil, puts_cons, then_nx, then_rt, then_rtO, told_rtO, put2_c, put3_c, evF, evB, flat_i, flat_b, flat_s, asLst_l, f_intI, f_intB, f_odd, f_notN, f_fListL, f_fListT, non_i, non_n, f_neS, then_bk, then_ct, told_rt, evT_qY, andB_t, andB_f, orB_t, orB_f, asInt_i, Dr.opt_some, small, within, List.length_cons, List.length_nil, List.map_cons, List.map_nil, List.cons_append, List.nil_append, List.replicate, List.set_cons_zero, List.set_cons_succ, Tt.vs, Ts.vs, Option.bind_some, Nat.reduceAdd, Nat.reduceSub, Nat.reduceLeDiff, Nat.reduceEqDiff, reduceIte, if_true, if_false, asIx_int, f_add, f_sub, f_lt, f_le, f_gt, f_ge, f_addA, f_subA, f_eqI, f_eqS, f_eqB, f_neI, f_isN, f_ixL, f_ixT, f_neg, f_not, f_min, f_max, f_abs, f_tB, f_lenL, f_lenT, f_list, f_listT, f_tup, f_tupT, f_wSeqL, f_wSeqT, f_cutT, f_cutL, wipeX, List.all_cons, List.all_nil, List.contains_cons, List.elem_nil, Bool.and_true, Bool.true_and, beq_self_eq_true, Bool.or_true, Bool.true_or, Bool.false_eq_true, Option.some.injEq, decide_true, decide_false, Bool.not_true, Bool.not_false, Nat.reduceBEq, Bool.or_false, Bool.false_or, List.append_nil, List.singleton_append, true_and, and_true, and_self, hc, hc']
      · have hc' : ¬ 0 < rs.getD i 0 - ls.getD i 0 := by omega
        simp only [DP.run, DP.runB, evS, evE, evA, evT, evP, evI, startE, startX, slot_zero, slot_succ, own_zero, own_succ, box_zero, box_succ, bind_r, Dr.bind_assoc, pur_r, put_nm, put_tp, put_tpL, puts_nil, puts_cons, then_nx, then_rt, then_rtO, told_rtO, put2_c, put3_c, evF, evB, flat_i, flat_b, flat_s, asLst_l, f_intI, f_intB, f_odd, f_notN, f_fListL, f_fListT, non_i, non_n, f_neS, then_bk, then_ct, told_rt, evT_qY, andB_t, andB_f, orB_t, orB_f, asInt_i, Dr.opt_some, small, within, List.length_cons, List.length_nil, List.map_cons, List.map_nil, List.cons_append, List.nil_append, List.replicate, List.set_cons_zero, List.set_cons_succ, Tt.vs, Ts.vs, Option.bind_some, Nat.reduceAdd, Nat.reduceSub, Nat.reduceLeDiff, Nat.reduceEqDiff, reduceIte, if_true, if_false, asIx_int, f_add, f_sub, f_lt, f_le, f_gt, f_ge, f_addA, f_subA, f_eqI, f_eqS, f_eqB, f_neI, f_isN, f_ixL, f_ixT, f_neg, f_not, f_min, f_max, f_abs, f_tB, f_lenL, f_lenT, f_list, f_listT, f_tup, f_tupT, f_wSeqL, f_wSeqT, f_cutT, f_cutL, wipeX, List.all_cons, List.all_nil, List.contains_cons, List.elem_nil, Bool.and_true, Bool.true_and, beq_self_eq_true, Bool.or_true, Bool.true_or, Bool.false_eq_true, Option.some.injEq, decide_true, decide_false, Bool.not_true, Bool.not_false, Nat.reduceBEq, Bool.or_false, Bool.false_or, List.append_nil, List.singleton_append, true_and, and_true, and_self, hc, hc']
    | false =>
      simp only [DP.run, DP.runB, evS, evE, evA, evT, evP, evI, startE, startX, slot_zero, slot_succ, own_zero, own_succ, box_zero, box_succ, bind_r, Dr.bind_assoc, pur_r, put_nm, put_tp, put_tpL, puts_nil, puts_cons, then_nx, then_rt, then_rtO, told_rtO, put2_c, put3_c, evF, evB, flat_i, flat_b, flat_s, asLst_l, f_intI, f_intB, f_odd, f_notN, f_fListL, f_fListT, non_i, non_n, f_neS, then_bk, then_ct, told_rt, evT_qY, andB_t, andB_f, orB_t, orB_f, asInt_i, Dr.opt_some, small, within, List.length_cons, List.length_nil, List.map_cons, List.map_nil, List.cons_append, List.nil_append, List.replicate, List.set_cons_zero, List.set_cons_succ, Tt.vs, Ts.vs, Option.bind_some, Nat.reduceAdd, Nat.reduceSub, Nat.reduceLeDiff, Nat.reduceEqDiff, reduceIte, if_true, if_false, asIx_int, f_add, f_sub, f_lt, f_le, f_gt, f_ge, f_addA, f_subA, f_eqI, f_eqS, f_eqB, f_neI, f_isN, f_ixL, f_ixT, f_neg, f_not, f_min, f_max, f_abs, f_tB, f_lenL, f_lenT, f_list, f_listT, f_tup, f_tupT, f_wSeqL, f_wSeqT, f_cutT, f_cutL, wipeX, List.all_cons, List.all_nil, List.contains_cons, List.elem_nil, Bool.and_true, Bool.true_and, beq_self_eq_true, Bool.or_true, Bool.true_or, Bool.false_eq_true, Option.some.injEq, decide_true, decide_false, Bool.not_true, Bool.not_false, Nat.reduceBEq, Bool.or_false, Bool.false_or, List.append_nil, List.singleton_append, true_and, and_true, and_self, strMP]
  have hF := forL_find (g := fun (i : Nat) => PyData.int (i : Int)) (step := lstep (evS b_L_spot_1) (.nm 4)) (p := isSp b.2 rs ls) (ev := fun u => [.dat (tN rs), .dat (tN ls), .dat (.str b.nm), .dat (.list (ixD (List.range rs.length))), u]) (v := fun i => .int (i : Int)) (xs := order b rs.length) (u := .unk) hs
  rw [find_order b rs ls hf.len] at hF
  have e1 : (if b.1 = true then Dr.ret (PyData.list (ixD (List.range rs.length))) else Dr.ret (PyData.list (ixD (List.range rs.length).reverse))) = .ret (.list (ixD (order b rs.length))) := by
    unfold order
    cases b.1 <;> rfl
  simp only [sem_L_spot, a_L_spot, DP.run, DP.runB, evS, evE, evA, evT, evP, evI, startE, startX, slot_zero, slot_succ, own_zero, own_succ, box_zero, box_succ, bind_r, Dr.bind_assoc, pur_r, put_nm, put_tp, put_tpL, puts_nil, puts_cons, then_nx, then_rt, then_rtO, told_rtO, put2_c, put3_c, evF, evB, flat_i, flat_b, flat_s, asLst_l, f_intI, f_intB, f_odd, f_notN, f_fListL, f_fListT, non_i, non_n, f_neS, then_bk, then_ct, told_rt, evT_qY, andB_t, andB_f, orB_t, orB_f, asInt_i, Dr.opt_some, small, within, List.length_cons, List.length_nil, List.map_cons, List.map_nil, List.cons_append, List.nil_append, List.replicate, List.set_cons_zero, List.set_cons_succ, Tt.vs, Ts.vs, Option.bind_some, Nat.reduceAdd, Nat.reduceSub, Nat.reduceLeDiff, Nat.reduceEqDiff, reduceIte, if_true, if_false, asIx_int, f_add, f_sub, f_lt, f_le, f_gt, f_ge, f_addA, f_subA, f_eqI, f_eqS, f_eqB, f_neI, f_isN, f_ixL, f_ixT, f_neg, f_not, f_min, f_max, f_abs, f_tB, f_lenL, f_lenT, f_list, f_listT, f_tup, f_tupT, f_wSeqL, f_wSeqT, f_cutT, f_cutL, wipeX, List.all_cons, List.all_nil, List.contains_cons, List.elem_nil, Bool.and_true, Bool.true_and, beq_self_eq_true, Bool.or_true, Bool.true_or, Bool.false_eq_true, Option.some.injEq, decide_true, decide_false, Bool.not_true, Bool.not_false, Nat.reduceBEq, Bool.or_false, Bool.false_or, List.append_nil, List.singleton_append, true_and, and_true, and_self, List.length_map, uListRg_n _ hl, ixS0, uRevL_ix]
  have e2 : decide ((if b.1 = true then ("L" : Str) else "R") = "L") = b.1 := by
    cases b.1
    · exact strRL
    · exact strL
  rw [e2, e1]
  simp only [DP.run, DP.runB, evS, evE, evA, evT, evP, evI, startE, startX, slot_zero, slot_succ, own_zero, own_succ, box_zero, box_succ, bind_r, Dr.bind_assoc, pur_r, put_nm, put_tp, put_tpL, puts_nil, puts_cons, then_nx, then_rt, then_rtO, told_rtO, put2_c, put3_c, evF, evB, flat_i, flat_b, flat_s, asLst_l, f_intI, f_intB, f_odd, f_notN, f_fListL, f_fListT, non_i, non_n, f_neS, then_bk, then_ct, told_rt, evT_qY, andB_t, andB_f, orB_t, orB_f, asInt_i, Dr.opt_some, small, within, List.length_cons, List.length_nil, List.map_cons, List.map_nil, List.cons_append, List.nil_append, List.replicate, List.set_cons_zero, List.set_cons_succ, Tt.vs, Ts.vs, Option.bind_some, Nat.reduceAdd, Nat.reduceSub, Nat.reduceLeDiff, Nat.reduceEqDiff, reduceIte, if_true, if_false, asIx_int, f_add, f_sub, f_lt, f_le, f_gt, f_ge, f_addA, f_subA, f_eqI, f_eqS, f_eqB, f_neI, f_isN, f_ixL, f_ixT, f_neg, f_not, f_min, f_max, f_abs, f_tB, f_lenL, f_lenT, f_list, f_listT, f_tup, f_tupT, f_wSeqL, f_wSeqT, f_cutT, f_cutL, wipeX, List.all_cons, List.all_nil, List.contains_cons, List.elem_nil, Bool.and_true, Bool.true_and, beq_self_eq_true, Bool.or_true, Bool.true_or, Bool.false_eq_true, Option.some.injEq, decide_true, decide_false, Bool.not_true, Bool.not_false, Nat.reduceBEq, Bool.or_false, Bool.false_or, List.append_nil, List.singleton_append, true_and, and_true, and_self]
  cases hsp : spotM b rs ls with
  | some i =>
    rw [hF.1 i hsp]
    rfl
  | none =>
    obtain ⟨u', h'⟩ := hF.2 hsp
    rw [h']
    rfl
theorem spotL_run {s : Bool} : ∀ {rs ls : List Int}, Fit rs ls → (spotL s rs ls = none → runL s rs ls 1 = (ls, 1)) ∧ ∀ i, spotL s rs ls = some i → i < ls.length ∧ runL s rs ls 1 = (ls.set i (put1 s (ls.getD i 0) 1), 0)
  | _, _, .nil => ⟨fun _ => rfl, fun i h => by cases h⟩
  | r :: rs, l :: ls, .cons a b t => by
    have c0 := cap_nn (s := s) a b
    have ih := spotL_run (s := s) t
    show ((if 0 < cap s r l then some 0 else (spotL s rs ls).map (· + 1)) = none → _) ∧ ∀ i, (if 0 < cap s r l then some 0 else (spotL s rs ls).map (· + 1)) = some i → _
    by_cases hc : 0 < cap s r l
    · rw [if_pos hc]
      refine ⟨fun h => (by cases h), fun i h => ?_⟩
      cases h
      refine ⟨Nat.succ_pos _, ?_⟩
      show (put1 s l (min 1 (cap s r l)) :: (runL s rs ls (1 - min 1 (cap s r l))).1, (runL s rs ls (1 - min 1 (cap s r l))).2) = _
      rw [show min 1 (cap s r l) = 1 by omega, Int.sub_self, runL_zero t]
      rfl
    · rw [if_neg hc]
      have e : runL s (r :: rs) (l :: ls) 1 = (l :: (runL s rs ls 1).1, (runL s rs ls 1).2) := by
        show (put1 s l (min 1 (cap s r l)) :: (runL s rs ls (1 - min 1 (cap s r l))).1, (runL s rs ls (1 - min 1 (cap s r l))).2) = _
        rw [show min 1 (cap s r l) = 0 by omega, Int.sub_zero]
        have : put1 s l 0 = l := by unfold put1; split <;> omega
        rw [this]
      refine ⟨fun h => ?_, fun i h => ?_⟩
      · rw [e, ih.1 (by cases hq : spotL s rs ls with | none => rfl | some j => rw [hq] at h; cases h)]
      · obtain ⟨j, hj, rfl⟩ := Option.map_eq_some_iff.mp h
        obtain ⟨h1, h2⟩ := ih.2 j hj
        refine ⟨Nat.succ_lt_succ h1, ?_⟩
        rw [e, h2]
        rfl
theorem spotR_run {s : Bool} : ∀ {rs ls : List Int}, Fit rs ls → (spotR s rs ls = none → runR s rs ls 1 = (ls, 1)) ∧ ∀ i, spotR s rs ls = some i → i < ls.length ∧ runR s rs ls 1 = (ls.set i (put1 s (ls.getD i 0) 1), 0)
  | _, _, .nil => ⟨fun _ => rfl, fun i h => by cases h⟩
  | r :: rs, l :: ls, .cons a b t => by
    have c0 := cap_nn (s := s) a b
    have ih := spotR_run (s := s) t
    have er : runR s (r :: rs) (l :: ls) 1 = (put1 s l (min (runR s rs ls 1).2 (cap s r l)) :: (runR s rs ls 1).1, (runR s rs ls 1).2 - min (runR s rs ls 1).2 (cap s r l)) := rfl
    have es : spotR s (r :: rs) (l :: ls) = match spotR s rs ls with
      | some i => some (i + 1)
      | none => if 0 < cap s r l then some 0 else none := rfl
    cases hq : spotR s rs ls with
    | some j =>
      rw [hq] at es
      obtain ⟨h1, h2⟩ := ih.2 j hq
      rw [es, er, h2]
      refine ⟨fun h => (by cases h), fun i h => ?_⟩
      cases h
      refine ⟨Nat.succ_lt_succ h1, ?_⟩
      have : put1 s l 0 = l := by unfold put1; split <;> omega
      rw [show min (0 : Int) (cap s r l) = 0 by omega, this, Int.sub_zero]
      rfl
    | none =>
      rw [hq] at es
      rw [es, er, ih.1 hq]
      by_cases hc : 0 < cap s r l
      · simp only [if_pos hc]
        refine ⟨fun h => (by cases h), fun i h => ?_⟩
        cases h
        refine ⟨Nat.succ_pos _, ?_⟩
        rw [show min 1 (cap s r l) = 1 by omega, Int.sub_self]
        rfl
      · simp only [if_neg hc]
        refine ⟨fun _ => ?_, fun i h => by cases h⟩
        have : put1 s l 0 = l := by unfold put1; split <;> omega
        rw [show min 1 (cap s r l) = 0 by omega, this, Int.sub_zero]
theorem spot_run {b : Br} {rs ls : List Int} (h : Fit rs ls) : (spotM b rs ls = none → runM b rs ls 1 = (ls, 1)) ∧ ∀ i, spotM b rs ls = some i → i < ls.length ∧ runM b rs ls 1 = (ls.set i (put1 b.2 (ls.getD i 0) 1), 0) := by
  unfold spotM runM
  cases b.1 with
  | true => exact spotL_run h
  | false => exact spotR_run h
theorem set_cat : ∀ (ls : List Int) (i : Nat) (v : Int), i < ls.length → ls.take i ++ [v] ++ ls.drop (i + 1) = ls.set i v
  | l :: ls, 0, v, _ => rfl
  | l :: ls, i + 1, v, h => by
    show l :: (ls.take i ++ [v] ++ ls.drop (i + 1)) = l :: ls.set i v
    rw [set_cat ls i v (Nat.lt_of_succ_lt_succ h)]
  | [], i, v, h => absurd h (Nat.not_lt_zero _)
theorem catT_c {xs ys : List Int} (h : xs.length + ys.length ≤ 100000) : oCatT.f (.tuple (dI xs)) (.tuple (dI ys)) = some (tN (xs ++ ys)) := by
  show (if (dI xs).length + (dI ys).length ≤ 100000 then some (PyData.tuple (dI xs ++ dI ys)) else none) = _
  rw [if_pos (by rw [List.length_map, List.length_map]; exact h), ← List.map_append]
theorem breathed1_eq {rs ls : List Int} (hf : Fit rs ls) (hl : rs.length ≤ 1000) (b : Br) : sem_L_breathed [tN rs, tN ls, .str b.nm] = .ret (tN (runM b rs ls 1).1) := by
  have sr := spot_run (b := b) hf
  have hll := hf.len
  simp only [sem_L_breathed, a_L_breathed, DP.run, DP.runB, evS, evE, evA, evT, evP, evI, startE, startX, slot_zero, slot_succ, own_zero, own_succ, box_zero, box_succ, bind_r, Dr.bind_assoc, pur_r, put_nm, put_tp, put_tpL, puts_nil, puts_cons, then_nx, then_rt, then_rtO, told_rtO, put2_c, put3_c, evF, evB, flat_i, flat_b, flat_s, asLst_l, f_intI, f_intB, f_odd, f_notN, f_fListL, f_fListT, non_i, non_n, f_neS, then_bk, then_ct, told_rt, evT_qY, andB_t, andB_f, orB_t, orB_f, asInt_i, Dr.opt_some, small, within, List.length_cons, List.length_nil, List.map_cons, List.map_nil, List.cons_append, List.nil_append, List.replicate, List.set_cons_zero, List.set_cons_succ, Tt.vs, Ts.vs, Option.bind_some, Nat.reduceAdd, Nat.reduceSub, Nat.reduceLeDiff, Nat.reduceEqDiff, reduceIte, if_true, if_false, asIx_int, f_add, f_sub, f_lt, f_le, f_gt, f_ge, f_addA, f_subA, f_eqI, f_eqS, f_eqB, f_neI, f_isN, f_ixL, f_ixT, f_neg, f_not, f_min, f_max, f_abs, f_tB, f_lenL, f_lenT, f_list, f_listT, f_tup, f_tupT, f_wSeqL, f_wSeqT, f_cutT, f_cutL, wipeX, List.all_cons, List.all_nil, List.contains_cons, List.elem_nil, Bool.and_true, Bool.true_and, beq_self_eq_true, Bool.or_true, Bool.true_or, Bool.false_eq_true, Option.some.injEq, decide_true, decide_false, Bool.not_true, Bool.not_false, Nat.reduceBEq, Bool.or_false, Bool.false_or, List.append_nil, List.singleton_append, true_and, and_true, and_self, spot_eq hf hl b]
  cases hsp : spotM b rs ls with
  | none =>
    rw [sr.1 hsp]
    rfl
  | some i =>
    obtain ⟨h1, h2⟩ := sr.2 i hsp
    rw [h2]
    simp only [DP.run, DP.runB, evS, evE, evA, evT, evP, evI, startE, startX, slot_zero, slot_succ, own_zero, own_succ, box_zero, box_succ, bind_r, Dr.bind_assoc, pur_r, put_nm, put_tp, put_tpL, puts_nil, puts_cons, then_nx, then_rt, then_rtO, told_rtO, put2_c, put3_c, evF, evB, flat_i, flat_b, flat_s, asLst_l, f_intI, f_intB, f_odd, f_notN, f_fListL, f_fListT, non_i, non_n, f_neS, then_bk, then_ct, told_rt, evT_qY, andB_t, andB_f, orB_t, orB_f, asInt_i, Dr.opt_some, small, within, List.length_cons, List.length_nil, List.map_cons, List.map_nil, List.cons_append, List.nil_append, List.replicate, List.set_cons_zero, List.set_cons_succ, Tt.vs, Ts.vs, Option.bind_some, Nat.reduceAdd, Nat.reduceSub, Nat.reduceLeDiff, Nat.reduceEqDiff, reduceIte, if_true, if_false, asIx_int, f_add, f_sub, f_lt, f_le, f_gt, f_ge, f_addA, f_subA, f_eqI, f_eqS, f_eqB, f_neI, f_isN, f_ixL, f_ixT, f_neg, f_not, f_min, f_max, f_abs, f_tB, f_lenL, f_lenT, f_list, f_listT, f_tup, f_tupT, f_wSeqL, f_wSeqT, f_cutT, f_cutL, wipeX, List.all_cons, List.all_nil, List.contains_cons, List.elem_nil, Bool.and_true, Bool.true_and, beq_self_eq_true, Bool.or_true, Bool.true_or, Bool.false_eq_true, Option.some.injEq, decide_true, decide_false, Bool.not_true, Bool.not_false, Nat.reduceBEq, Bool.or_false, Bool.false_or, List.append_nil, List.singleton_append, true_and, and_true, and_self, optD_s, atI_k h1, ixS1, cut_to]
    have e1 : cutD (dI ls) (some ((i : Int) + 1)) none = dI (ls.drop (i + 1)) := cut_from ls (i + 1)
    have e2 : ∀ v : Int, oCatT.f (.tuple (dI (ls.take i))) (.tuple [.int v]) = some (tN (ls.take i ++ [v])) := fun v => catT_c (ys := [v]) (by rw [List.length_take]; simp; omega)
    have e3 : ∀ v : Int, oCatT.f (tN (ls.take i ++ [v])) (.tuple (dI (ls.drop (i + 1)))) = some (tN (ls.set i v)) := fun v => by
      rw [catT_c (by rw [List.length_append, List.length_take, List.length_drop]; simp; omega), set_cat ls i v h1]
    cases hb : b.2 with
    | true => simp only [DP.run, DP.runB, evS, evE, evA, evT, evP, evI, startE, startX, slot_zero, slot_succ, own_zero, own_succ, box_zero, box_succ, bind_r, Dr.bind_assoc, pur_r, put_nm, put_tp, put_tpL, puts_nil, puts_cons, then_nx, then_rt, then_rtO, told_rtO, put2_c, put3_c, evF, evB, flat_i, flat_b, flat_s, asLst_l, f_intI, f_intB, f_odd, f_notN, f_fListL, f_fListT, non_i, non_n, f_neS, then_bk, then_ct, told_rt, evT_qY, andB_t, andB_f, orB_t, orB_f, asInt_i, Dr.opt_some, small, within, List.length_cons, List.length_nil, List.map_cons, List.map_nil, List.cons_append, List.nil_append, List.replicate, List.set_cons_zero, List.set_cons_succ, Tt.vs, Ts.vs, Option.bind_some, Nat.reduceAdd, Nat.reduceSub, Nat.reduceLeDiff, Nat.reduceEqDiff, reduceIte, if_true, if_false, asIx_int, f_add, f_sub, f_lt, f_le, f_gt, f_ge, f_addA, f_subA, f_eqI, f_eqS, f_eqB, f_neI, f_isN, f_ixL, f_ixT, f_neg, f_not, f_min, f_max, f_abs, f_tB, f_lenL, f_lenT, f_list, f_listT, f_tup, f_tupT, f_wSeqL, f_wSeqT, f_cutT, f_cutL, wipeX, List.all_cons, List.all_nil, List.contains_cons, List.elem_nil, Bool.and_true, Bool.true_and, beq_self_eq_true, Bool.or_true, Bool.true_or, Bool.false_eq_true, Option.some.injEq, decide_true, decide_false, Bool.not_true, Bool.not_false, Nat.reduceBEq, Bool.or_false, Bool.false_or, List.append_nil, List.singleton_append, true_and, and_true, and_self, strP, e1, e2, e3, put1]
    | false => simp only [DP.run, DP.runB, evS, evE, evA, evT, evP, evI, startE, startX, slot_zero, slot_succ, own_zero, own_succ, box_zero, box_succ, bind_r, Dr.bind_assoc, pur_r, put_nm, put_tp, put_tpL, puts_nil, puts_cons, then_nx, then_rt, then_rtO, told_rtO, put2_c, put3_c, evF, evB, flat_i, flat_b, flat_s, asLst_l, f_intI, f_intB, f_odd, f_notN, f_fListL, f_fListT, non_i, non_n, f_neS, then_bk, then_ct, told_rt, evT_qY, andB_t, andB_f, orB_t, orB_f, asInt_i, Dr.opt_some, small, within, List.length_cons, List.length_nil, List.map_cons, List.map_nil, List.cons_append, List.nil_append, List.replicate, List.set_cons_zero, List.set_cons_succ, Tt.vs, Ts.vs, Option.bind_some, Nat.reduceAdd, Nat.reduceSub, Nat.reduceLeDiff, Nat.reduceEqDiff, reduceIte, if_true, if_false, asIx_int, f_add, f_sub, f_lt, f_le, f_gt, f_ge, f_addA, f_subA, f_eqI, f_eqS, f_eqB, f_neI, f_isN, f_ixL, f_ixT, f_neg, f_not, f_min, f_max, f_abs, f_tB, f_lenL, f_lenT, f_list, f_listT, f_tup, f_tupT, f_wSeqL, f_wSeqT, f_cutT, f_cutL, wipeX, List.all_cons, List.all_nil, List.contains_cons, List.elem_nil, Bool.and_true, Bool.true_and, beq_self_eq_true, Bool.or_true, Bool.true_or, Bool.false_eq_true, Option.some.injEq, decide_true, decide_false, Bool.not_true, Bool.not_false, Nat.reduceBEq, Bool.or_false, Bool.false_or, List.append_nil, List.singleton_append, true_and, and_true, and_self, strMP, e1, e2, e3, put1, Int.sub_eq_add_neg]
end DP
namespace DP
open PySem PySem.Spec PyProof.Rows L2 ZX DL RT
def capS (s : Bool) (rs ls : List Int) (g : Nat) : Int := if s = true then (rs.take g).sum - (ls.take g).sum else (ls.take g).sum
theorem capS_cons (s : Bool) (r l : Int) (rs ls : List Int) (g : Nat) : capS s (r :: rs) (l :: ls) (g + 1) = cap s r l + capS s rs ls g := by
  unfold capS cap
  simp only [List.take_succ_cons, List.sum_cons]
  split <;> omega
theorem capS_zero (s : Bool) (rs ls : List Int) : capS s rs ls 0 = 0 := by
  unfold capS
  simp only [List.take_zero, List.sum_nil]
  split <;> omega
theorem capS_nil (s : Bool) (g : Nat) : capS s [] [] g = 0 := by
  unfold capS
  simp only [List.take_nil, List.sum_nil]
  split <;> omega
theorem capS_nn {s : Bool} : ∀ {rs ls : List Int} {g : Nat}, Fit rs ls → 0 ≤ capS s rs ls g
  | _, _, g, .nil => by rw [capS_nil]; omega
  | _, _, 0, .cons _ _ _ => by rw [capS_zero]; omega
  | r :: rs, l :: ls, g + 1, .cons a b t => by
    rw [capS_cons]
    have := cap_nn (s := s) a b
    have := capS_nn (s := s) (g := g) t
    omega
theorem fit_nn : ∀ {rs ls : List Int}, Fit rs ls → (∀ l ∈ ls, 0 ≤ l) ∧ ∀ r ∈ rs, 0 ≤ r
  | _, _, .nil => ⟨fun l h => (by cases h), fun l h => (by cases h)⟩
  | r :: rs, l :: ls, .cons a b t => by
    obtain ⟨h1, h2⟩ := fit_nn t
    refine ⟨fun x hx => ?_, fun x hx => ?_⟩
    · rcases List.mem_cons.mp hx with rfl | hx
      · exact a
      · exact h1 x hx
    · rcases List.mem_cons.mp hx with rfl | hx
      · omega
      · exact h2 x hx
theorem sum_nn : ∀ {xs : List Int}, (∀ x ∈ xs, 0 ≤ x) → 0 ≤ xs.sum
  | [], _ => Int.le_refl _
  | x :: xs, h => by
    rw [List.sum_cons]
    have := h x (List.mem_cons_self ..)
    have := sum_nn (xs := xs) fun y hy => h y (List.mem_cons_of_mem _ hy)
    omega
theorem fit_sum : ∀ {rs ls : List Int}, Fit rs ls → ls.sum ≤ rs.sum
  | _, _, .nil => Int.le_refl _
  | r :: rs, l :: ls, .cons a b t => by
    rw [List.sum_cons, List.sum_cons]
    have := fit_sum t
    omega
theorem runL_take {s : Bool} : ∀ {rs ls : List Int} {n : Int} {g : Nat}, Fit rs ls → 0 ≤ n → ((runL s rs ls n).1.take g).sum = put1 s (ls.take g).sum (min n (capS s rs ls g))
  | _, _, n, g, .nil, hn => by
    rw [capS_nil]
    show (([] : List Int).take g).sum = _
    simp only [List.take_nil, List.sum_nil]
    unfold put1
    split <;> omega
  | _, _, n, 0, .cons _ _ _, hn => by
    rw [capS_zero]
    simp only [List.take_zero, List.sum_nil]
    unfold put1
    split <;> omega
  | r :: rs, l :: ls, n, g + 1, .cons a b t, hn => by
    have c0 := cap_nn (s := s) a b
    have cn := capS_nn (s := s) (g := g) t
    rw [capS_cons]
    show ((put1 s l (min n (cap s r l)) :: (runL s rs ls (n - min n (cap s r l))).1).take (g + 1)).sum = _
    rw [List.take_succ_cons, List.sum_cons, runL_take (g := g) t (by omega), List.take_succ_cons, List.sum_cons]
    unfold put1
    split <;> omega
end DP
namespace DP
open PySem PySem.Spec PyProof.Rows L2 ZX DL RT
abbrev Tr := Nat × Bool × Int
def wayR : List Int → List Int → List Int → List Tr
  | r :: rs, l :: ls, t :: ts =>
    if l < t then (rs.length, true, rs.sum - ls.sum + t - l) :: wayR rs rs ts
    else if t < l then (rs.length, false, ls.sum + l - t) :: wayR rs (List.replicate rs.length 0) ts
    else wayR rs ls ts
  | _, _, _ => []
def wayM (rs ls ts : List Int) : List Tr := wayR rs.reverse ls.reverse ts.reverse
def trW (w : List Tr) : Wd' := w.map fun x => ((true, x.2.1), x.2.2)
def wayW (rs ls ts : List Int) : Wd' := trW (wayM rs ls ts)
def wayWR (rs ls ts : List Int) : Wd' := turW (wayW rs.reverse ls.reverse ts.reverse)
def gapW (rs ls ts : List Int) (g : Nat) : Wd' := wayW (rs.take g) (ls.take g) (ts.take g) ++ wayWR (rs.drop g) (ls.drop g) (ts.drop g)
def gapWs (rs ls ts : List Int) : List Wd' := (List.range (rs.length + 1)).map (gapW rs ls ts)
def gapNs (rs ls ts : List Int) : List Int := (gapWs rs ls ts).map sizeM
end DP
namespace DP
open PySem PySem.Spec PyProof.Rows L2 ZX DL RT
def capT (s : Bool) (rs ls : List Int) : Int := if s = true then rs.sum - ls.sum else ls.sum
theorem runL_len {s : Bool} : ∀ (rs ls : List Int) (n : Int), ls.length = rs.length → (runL s rs ls n).1.length = rs.length
  | [], [], _, _ => rfl
  | r :: rs, l :: ls, n, h => by
    show (put1 s l (min n (cap s r l)) :: (runL s rs ls (n - min n (cap s r l))).1).length = _
    rw [List.length_cons, runL_len rs ls _ (by simpa using h)]
    rfl
  | [], _ :: _, _, h => by cases h
  | _ :: _, [], _, h => by cases h
theorem fit_one {r l : Int} (a : 0 ≤ l) (b : l ≤ r) : Fit [r] [l] := .cons a b .nil
theorem fit_append {A a B b : List Int} (hA : Fit A a) (hB : Fit B b) : Fit (A ++ B) (a ++ b) := by
  induction hA with
  | nil => exact hB
  | cons p q _ ih => exact .cons p q ih
theorem fit_tk : ∀ {rs ls : List Int} (g : Nat), Fit rs ls → Fit (rs.take g) (ls.take g)
  | _, _, g, .nil => by simp only [List.take_nil]; exact .nil
  | _, _, 0, .cons _ _ _ => .nil
  | r :: rs, l :: ls, g + 1, .cons a b t => .cons a b (fit_tk g t)
theorem fit_dr : ∀ {rs ls : List Int} (g : Nat), Fit rs ls → Fit (rs.drop g) (ls.drop g)
  | _, _, g, .nil => by simp only [List.drop_nil]; exact .nil
  | _, _, 0, .cons a b t => .cons a b t
  | r :: rs, l :: ls, g + 1, .cons a b t => fit_dr g t
end DP
namespace DP
open PySem PySem.Spec PyProof.Rows L2 ZX DL RT
theorem cap_put {s : Bool} {r l m : Int} (m0 : 0 ≤ m) (m1 : m ≤ cap s r l) : cap s r (put1 s l m) = cap s r l - m := by
  unfold cap put1
  cases s <;> simp <;> omega
theorem put_put (s : Bool) (l m n : Int) : put1 s (put1 s l m) n = put1 s l (m + n) := by
  unfold put1
  split <;> omega
theorem runL_add {s : Bool} : ∀ {rs ls : List Int} {m n : Int}, Fit rs ls → 0 ≤ m → 0 ≤ n → runL s rs (runL s rs ls m).1 n = ((runL s rs ls (m + n)).1, (runL s rs ls (m + n)).2 - (runL s rs ls m).2)
  | _, _, m, n, .nil, _, _ => by
    show (([] : List Int), n) = ([], m + n - m)
    rw [show m + n - m = n by omega]
  | r :: rs, l :: ls, m, n, .cons a b t, hm, hn => by
    have c0 := cap_nn (s := s) a b
    have e1 : runL s (r :: rs) (l :: ls) m = (put1 s l (min m (cap s r l)) :: (runL s rs ls (m - min m (cap s r l))).1, (runL s rs ls (m - min m (cap s r l))).2) := rfl
    have e2 : runL s (r :: rs) (l :: ls) (m + n) = (put1 s l (min (m + n) (cap s r l)) :: (runL s rs ls (m + n - min (m + n) (cap s r l))).1, (runL s rs ls (m + n - min (m + n) (cap s r l))).2) := rfl
    have c1 := cap_put (s := s) (r := r) (l := l) (m := min m (cap s r l)) (by omega) (by omega)
    have ih := runL_add (s := s) (m := m - min m (cap s r l)) (n := n - min n (cap s r l - min m (cap s r l))) t (by omega) (by omega)
    rw [e1, e2]
    show (put1 s (put1 s l (min m (cap s r l))) (min n (cap s r (put1 s l (min m (cap s r l))))) :: (runL s rs (runL s rs ls (m - min m (cap s r l))).1 (n - min n (cap s r (put1 s l (min m (cap s r l)))))).1, (runL s rs (runL s rs ls (m - min m (cap s r l))).1 (n - min n (cap s r (put1 s l (min m (cap s r l)))))).2) = _
    rw [c1, ih, put_put, show min m (cap s r l) + min n (cap s r l - min m (cap s r l)) = min (m + n) (cap s r l) by omega, show m - min m (cap s r l) + (n - min n (cap s r l - min m (cap s r l))) = m + n - min (m + n) (cap s r l) by omega]
theorem runR_add {s : Bool} {rs ls : List Int} {m n : Int} (h : Fit rs ls) (hm : 0 ≤ m) (hn : 0 ≤ n) : runR s rs (runR s rs ls m).1 n = ((runR s rs ls (m + n)).1, (runR s rs ls (m + n)).2 - (runR s rs ls m).2) := by
  have hl := h.len
  have key : ∀ (ks : List Int) (k : Int), ks.length = rs.length → runR s rs ks k = ((runL s rs.reverse ks.reverse k).1.reverse, (runL s rs.reverse ks.reverse k).2) := fun ks k hk => by
    rw [runL_rev rs ks k hk, List.reverse_reverse]
  have fr := fit_rev h
  have l1 : (runL s rs.reverse ls.reverse m).1.reverse.length = rs.length := by
    rw [List.length_reverse, runL_len _ _ _ (by rw [List.length_reverse, List.length_reverse]; exact hl), List.length_reverse]
  rw [key ls m hl, key _ n l1, key ls (m + n) hl, List.reverse_reverse, runL_add fr hm hn]
theorem runM_add {b : Br} {rs ls : List Int} {m n : Int} (h : Fit rs ls) (hm : 0 ≤ m) (hn : 0 ≤ n) : runM b rs (runM b rs ls m).1 n = ((runM b rs ls (m + n)).1, (runM b rs ls (m + n)).2 - (runM b rs ls m).2) := by
  unfold runM
  cases b.1 with
  | true => exact runL_add h hm hn
  | false => exact runR_add h hm hn
theorem set_add {cs ds : List Int} (hc : cs.length = 4) (hd : ds.length = 4) (b : Br) (n : Int) : addV cs (ds.set (hix b) (ds.getD (hix b) 0 + n)) = (addV cs ds).set (hix b) ((addV cs ds).getD (hix b) 0 + n) := by
  obtain ⟨a0, a1, a2, a3, rfl⟩ := four hc
  obtain ⟨b0, b1, b2, b3, rfl⟩ := four hd
  rcases b with ⟨_ | _, _ | _⟩ <;> simp [addV, hix, Int.add_assoc]
theorem fold_add {rs : List Int} : ∀ (w : Wd') (ls cs ds : List Int), cs.length = 4 → ds.length = 4 → w.foldl (wstep rs) (ls, addV cs ds) = ((w.foldl (wstep rs) (ls, ds)).1, addV cs (w.foldl (wstep rs) (ls, ds)).2)
  | [], _, _, _, _, _ => rfl
  | x :: w, ls, cs, ds, hc, hd => by
    rw [List.foldl_cons, List.foldl_cons]
    have e : wstep rs (ls, addV cs ds) x = ((wstep rs (ls, ds) x).1, addV cs (wstep rs (ls, ds) x).2) := by
      unfold wstep
      rw [set_add hc hd]
    rw [e]
    exact fold_add w _ cs _ hc (by unfold wstep; rw [List.length_set]; exact hd)
theorem addV_zero {cs : List Int} (hc : cs.length = 4) : addV cs [0, 0, 0, 0] = cs := by
  obtain ⟨a0, a1, a2, a3, rfl⟩ := four hc
  simp [addV]
theorem wordM_cat {rs ls : List Int} {w u : Wd'} (h : Fit rs ls) (ho : WOk w) : wordM rs ls (w ++ u) = ((wordM rs (wordM rs ls w).1 u).1, addV (wordM rs ls w).2 (wordM rs (wordM rs ls w).1 u).2) := by
  have h4 := (wordM_ok h ho).2
  have := fold_add (rs := rs) u (wordM rs ls w).1 (wordM rs ls w).2 [0, 0, 0, 0] h4 rfl
  rw [addV_zero h4] at this
  unfold wordM at this ⊢
  rw [List.foldl_append]
  exact this
structure Alike (w u : Wd') : Prop where
  wd : ∀ {rs ls : List Int}, Fit rs ls → wordM rs ls w = wordM rs ls u
  nt : ∀ b, netB b w = netB b u
  sz : sizeM w = sizeM u
def Pos (w : Wd') : Prop := ∀ x ∈ w, 1 ≤ x.2
theorem Pos.ok {w : Wd'} (h : Pos w) : WOk w := fun x hx => by have := h x hx; omega
end DP
namespace DP
open PySem PySem.Spec PyProof.Rows L2 ZX DL RT
theorem capT_cons (s : Bool) (r l : Int) (rs ls : List Int) : capT s (r :: rs) (l :: ls) = cap s r l + capT s rs ls := by
  unfold capT cap
  simp only [List.sum_cons]
  split <;> omega
theorem capT_nn {s : Bool} {rs ls : List Int} (h : Fit rs ls) : 0 ≤ capT s rs ls := by
  unfold capT
  have h1 := fit_sum h
  have h2 := sum_nn (fit_nn h).1
  split <;> omega
theorem runL_rest {s : Bool} : ∀ {rs ls : List Int} {n : Int}, Fit rs ls → 0 ≤ n → (runL s rs ls n).2 = n - min n (capT s rs ls)
  | _, _, n, .nil, hn => by
    show n = n - min n (capT s [] [])
    have : capT s [] [] = 0 := by unfold capT; split <;> simp
    omega
  | r :: rs, l :: ls, n, .cons a b t, hn => by
    have c0 := cap_nn (s := s) a b
    have ih := runL_rest (s := s) (n := n - min n (cap s r l)) t (by omega)
    have nn := capT_nn (s := s) t
    rw [capT_cons]
    show (runL s rs ls (n - min n (cap s r l))).2 = _
    omega
theorem runR_rest {s : Bool} : ∀ {rs ls : List Int} {n : Int}, Fit rs ls → 0 ≤ n → (runR s rs ls n).2 = n - min n (capT s rs ls)
  | _, _, n, .nil, hn => by
    show n = n - min n (capT s [] [])
    have : capT s [] [] = 0 := by unfold capT; split <;> simp
    omega
  | r :: rs, l :: ls, n, .cons a b t, hn => by
    have c0 := cap_nn (s := s) a b
    have ih := runR_rest (s := s) (n := n) t hn
    have nn := capT_nn (s := s) t
    rw [capT_cons]
    show (runR s rs ls n).2 - min (runR s rs ls n).2 (cap s r l) = _
    omega
theorem runM_rest {b : Br} {rs ls : List Int} {n : Int} (h : Fit rs ls) (hn : 0 ≤ n) : (runM b rs ls n).2 = n - min n (capT b.2 rs ls) := by
  unfold runM
  cases b.1 with
  | true => exact runL_rest h hn
  | false => exact runR_rest h hn
def capD (s : Bool) (rs ls : List Int) (g : Nat) : Int := if s = true then (rs.drop g).sum - (ls.drop g).sum else (ls.drop g).sum
theorem runR_drop {s : Bool} : ∀ {rs ls : List Int} {n : Int} {g : Nat}, Fit rs ls → 0 ≤ n → ((runR s rs ls n).1.drop g).sum = put1 s (ls.drop g).sum (min n (capD s rs ls g))
  | _, _, n, g, .nil, hn => by
    have e : capD s [] [] g = 0 := by unfold capD; simp
    rw [e]
    show (([] : List Int).drop g).sum = _
    simp only [List.drop_nil, List.sum_nil]
    unfold put1
    split <;> omega
  | r :: rs, l :: ls, n, 0, .cons a b t, hn => by
    have f : Fit (r :: rs) (l :: ls) := .cons a b t
    have e1 := runR_sum (s := s) (n := n) f
    have e2 := runR_rest (s := s) (n := n) f hn
    have e3 : capD s (r :: rs) (l :: ls) 0 = capT s (r :: rs) (l :: ls) := rfl
    rw [List.drop_zero, List.drop_zero, e1, e2, e3]
    congr 1
    omega
  | r :: rs, l :: ls, n, g + 1, .cons a b t, hn => runR_drop (g := g) t hn
theorem sum_split (xs : List Int) (g : Nat) : (xs.take g).sum + (xs.drop g).sum = xs.sum := by rw [← List.sum_append, List.take_append_drop]
def two (xs : List Int) (g : Nat) : List Int := [(xs.take g).sum, (xs.drop g).sum]
theorem two_fit {rs ls : List Int} (h : Fit rs ls) (g : Nat) : Fit (two rs g) (two ls g) := by
  have a := fit_sum (fit_tk g h)
  have b := fit_sum (fit_dr g h)
  have c := sum_nn (fit_nn (fit_tk g h)).1
  have d := sum_nn (fit_nn (fit_dr g h)).1
  exact .cons c a (.cons d b .nil)
theorem gap_two {b : Br} {rs ls : List Int} {n : Int} (h : Fit rs ls) (hn : 0 ≤ n) (g : Nat) : runM b (two rs g) (two ls g) n = (two (runM b rs ls n).1 g, (runM b rs ls n).2) := by
  have hr := runM_rest (b := b) h hn
  have hs := runM_sum (b := b) (n := n) h
  have s1 := sum_split (runM b rs ls n).1 g
  have s2 := sum_split ls g
  have s3 := sum_split rs g
  have c1 := fit_sum (fit_tk g h)
  have c2 := fit_sum (fit_dr g h)
  have c3 := sum_nn (fit_nn (fit_tk g h)).1
  have c4 := sum_nn (fit_nn (fit_dr g h)).1
  obtain ⟨l, s⟩ := b
  cases l with
  | true =>
    have ht := runL_take (s := s) (n := n) (g := g) h hn
    have e0 : runM (true, s) rs ls n = runL s rs ls n := rfl
    rw [e0] at hr hs s1 ⊢
    show (put1 s (ls.take g).sum (min n (cap s (rs.take g).sum (ls.take g).sum)) :: [put1 s (ls.drop g).sum (min (n - min n (cap s (rs.take g).sum (ls.take g).sum)) (cap s (rs.drop g).sum (ls.drop g).sum))], n - min n (cap s (rs.take g).sum (ls.take g).sum) - min (n - min n (cap s (rs.take g).sum (ls.take g).sum)) (cap s (rs.drop g).sum (ls.drop g).sum)) = ([((runL s rs ls n).1.take g).sum, ((runL s rs ls n).1.drop g).sum], (runL s rs ls n).2)
    have hd : ((runL s rs ls n).1.drop g).sum = (runL s rs ls n).1.sum - ((runL s rs ls n).1.take g).sum := by omega
    rw [hd, hs, ht, hr]
    unfold put1 cap capS capT
    cases s <;> simp <;> omega
  | false =>
    have ht := runR_drop (s := s) (n := n) (g := g) h hn
    have e0 : runM (false, s) rs ls n = runR s rs ls n := rfl
    rw [e0] at hr hs s1 ⊢
    show (put1 s (ls.take g).sum (min (n - min n (cap s (rs.drop g).sum (ls.drop g).sum)) (cap s (rs.take g).sum (ls.take g).sum)) :: [put1 s (ls.drop g).sum (min n (cap s (rs.drop g).sum (ls.drop g).sum))], n - min n (cap s (rs.drop g).sum (ls.drop g).sum) - min (n - min n (cap s (rs.drop g).sum (ls.drop g).sum)) (cap s (rs.take g).sum (ls.take g).sum)) = ([((runR s rs ls n).1.take g).sum, ((runR s rs ls n).1.drop g).sum], (runR s rs ls n).2)
    have hd : ((runR s rs ls n).1.take g).sum = (runR s rs ls n).1.sum - ((runR s rs ls n).1.drop g).sum := by omega
    rw [hd, hs, ht, hr]
    unfold put1 cap capD capT
    cases s <;> simp <;> omega
end DP
namespace DP
open PySem PySem.Spec PyProof.Rows L2 ZX DL RT
def reps (n : Nat) (k : Int) : List Int := List.replicate n k
end DP
namespace DP
open PySem PySem.Spec PyProof.Rows L2 ZX DL RT
theorem bare_eq {r : PyData} {rs : List Int} (hr : seqF r = some (dI rs)) (h0 : 1 ≤ rs.length) (hl : rs.length ≤ 1000) : sem_bare [r] = .ret (tN (reps rs.length 0)) := by
  have e1 : bLen.f [r] = some (.int (rs.length : Int)) := by rw [len_seq hr, List.length_map]
  have e2 : oRepT.f (.tuple [.int 0]) (.int (rs.length : Int)) = some (tN (reps rs.length 0)) := rep_zero rs.length h0 hl
  simp only [sem_bare, a_bare, DP.run, DP.runB, evS, evE, evA, evT, evP, evI, startE, startX, slot_zero, slot_succ, own_zero, own_succ, box_zero, box_succ, bind_n, Dr.bind_assoc, pur_n, put_nm, put_tp, put_tpL, puts_nil, puts_cons, then_n, then_rt, then_rtO, told_rtO, put2_c, put3_c, evF, evB, flat_i, flat_b, flat_s, asLst_l, f_intI, f_intB, f_odd, f_notN, f_fListL, f_fListT, non_i, non_n, f_neS, then_bk, then_ct, told_rt, evT_qY, andB_t, andB_f, orB_t, orB_f, asInt_i, Dr.opt_some, small, within, List.length_cons, List.length_nil, List.map_cons, List.map_nil, List.cons_append, List.nil_append, List.replicate, List.set_cons_zero, List.set_cons_succ, Tt.vs, Ts.vs, Option.bind_some, Nat.reduceAdd, Nat.reduceSub, Nat.reduceLeDiff, Nat.reduceEqDiff, reduceIte, if_true, if_false, asIx_int, f_add, f_sub, f_lt, f_le, f_gt, f_ge, f_addA, f_subA, f_eqI, f_eqS, f_eqB, f_neI, f_isN, f_ixL, f_ixT, f_neg, f_not, f_min, f_max, f_abs, f_tB, f_lenL, f_lenT, f_list, f_listT, f_tup, f_tupT, f_wSeqL, f_wSeqT, f_cutT, f_cutL, wipeX, List.all_cons, List.all_nil, List.contains_cons, List.elem_nil, Bool.and_true, Bool.true_and, beq_self_eq_true, Bool.or_true, Bool.true_or, Bool.false_eq_true, Option.some.injEq, decide_true, decide_false, Bool.not_true, Bool.not_false, Nat.reduceBEq, Bool.or_false, Bool.false_or, List.append_nil, List.singleton_append, true_and, and_true, and_self, e1, e2]
end DP
namespace WK
open PySem PySem.Spec PyProof.Rows L2 ZX DL RT DP
def sz (w : List Tr) : Int := sizeM (trW w)
theorem zsum (n : Nat) : (List.replicate n (0 : Int)).sum = 0 := by
  induction n with
  | zero => rfl
  | succ n ih => rw [List.replicate_succ, List.sum_cons, ih]; rfl
def runW (s : Bool) (n : Int) : Wd' := if 0 < n then [((true, s), n)] else []
def e1 (s : Bool) (r : Int) : Int := if s = true then 1 else r - 1
def lw (s : Bool) (n : Int) : Wd' := ((true, s), n + 1) :: runW (!s) n
def hw (h s : Bool) (n : Int) : Wd' := ((h, s), n + 1) :: (if 0 < n then [((h, !s), n)] else [])
end WK
namespace WK
open PySem PySem.Spec PyProof.Rows L2 ZX DL RT DP
abbrev few (rs ls ts : List Int) : Int := minI (gapNs rs ls ts)
end WK
namespace WK
open PySem PySem.Spec PyProof.Rows L2 ZX DL RT DP
def absI (i : Int) : Int := if i < 0 then -i else i
theorem runs_le {m o : Int} (h1 : 0 ≤ m) (h2 : m ≤ 1000) (o1 : 1 ≤ o) (o2 : o < 2 ^ 30) : (sem_L_runs [.int m, .int o]).le (2 * m.toNat + 1) fun d => ∃ w, d = .list (wD w) ∧ WIn m o w := word_le h1 h2 o1 o2
end WK
namespace WK
open PySem PySem.Spec PyProof.Rows L2 ZX DL RT DP
theorem pl_L {n : Nat} {ds : List PyData} (hl : ds.length ≤ 100000) (h : ∀ y ∈ ds, Pl n y) : Pl (n + 1) (.list ds) := ⟨hl, h⟩
theorem cutD_from (ds : List PyData) (g : Nat) : DP.cutD ds (some (g : Int)) none = ds.drop g := by
  unfold DP.cutD
  show (ds.drop (HT.sIx ds.length 0 (some (g : Int)))).take (ds.length - HT.sIx ds.length 0 (some (g : Int))) = _
  rw [HT.sIx_nat, List.take_of_length_le (by rw [List.length_drop]; exact Nat.le_refl _)]
  by_cases h : g ≤ ds.length
  · rw [Nat.min_eq_left h]
  · rw [Nat.min_eq_right (by omega), List.drop_of_length_le (Nat.le_refl _), List.drop_of_length_le (by omega)]
theorem cutD_to (ds : List PyData) (g : Nat) : DP.cutD ds none (some (g : Int)) = ds.take g := by
  unfold DP.cutD
  show (ds.drop 0).take (HT.sIx ds.length ds.length (some (g : Int)) - 0) = _
  rw [HT.sIx_nat, List.drop_zero, Nat.sub_zero]
  by_cases h : g ≤ ds.length
  · rw [Nat.min_eq_left h]
  · rw [Nat.min_eq_right (by omega), List.take_of_length_le (Nat.le_refl _), List.take_of_length_le (by omega)]
end WK
namespace WK
open PySem PySem.Spec PyProof.Rows L2 ZX DL RT DP
def gst (A T : Int) (s : Int × Int) (x : Br × Int) : Int × Int :=
  let S' := if x.1.2 = true then min (s.2 + x.2) T else max (s.2 - x.2) 0
  (if x.1.1 = true then (if x.1.2 = true then min (s.1 + x.2) A else max (s.1 - x.2) 0) else (if x.1.2 = true then max s.1 (S' - (T - A)) else min s.1 S'), S')
def gw (A T : Int) (w : Wd') (s : Int × Int) : Int × Int := w.foldl (gst A T) s
def Gk (A T : Int) (s : Int × Int) : Prop := 0 ≤ s.1 ∧ s.1 ≤ A ∧ 0 ≤ s.2 - s.1 ∧ s.2 - s.1 ≤ T - A
theorem gst_ok {A T : Int} {s : Int × Int} {x : Br × Int} (h : Gk A T s) (hx : 0 ≤ x.2) : Gk A T (gst A T s x) := by
  obtain ⟨a, b, c, d⟩ := h
  obtain ⟨⟨_ | _, _ | _⟩, n⟩ := x
  all_goals
    simp only [Gk, gst, Bool.false_eq_true, if_false, if_true] at hx ⊢
    omega
theorem fit_gk {rs ls : List Int} (h : Fit rs ls) (g : Nat) : Gk (rs.take g).sum rs.sum ((ls.take g).sum, ls.sum) := by
  have a := fit_sum (fit_tk g h)
  have b := sum_nn (fit_nn (fit_tk g h)).1
  have c := fit_sum (fit_dr g h)
  have d := sum_nn (fit_nn (fit_dr g h)).1
  have e1 := sum_split ls g
  have e2 := sum_split rs g
  exact ⟨b, a, by show 0 ≤ ls.sum - (ls.take g).sum; omega, by show ls.sum - (ls.take g).sum ≤ rs.sum - (rs.take g).sum; omega⟩
theorem gap_st {b : Br} {rs ls : List Int} {n : Int} (h : Fit rs ls) (hn : 0 ≤ n) (g : Nat) : (((runM b rs ls n).1.take g).sum, (runM b rs ls n).1.sum) = gst (rs.take g).sum rs.sum ((ls.take g).sum, ls.sum) (b, n) := by
  have e := gap_two (b := b) h hn g
  have f := two_fit h g
  have s1 := sum_split (runM b rs ls n).1 g
  have s2 := sum_split ls g
  have s3 := sum_split rs g
  unfold two at e f
  rcases f with _ | ⟨a1, a2, f⟩
  rcases f with _ | ⟨b1, b2, f⟩
  have e2 := congrArg (fun p => p.1.getD 0 0) e
  have e3 := congrArg (fun p => p.1.getD 1 0) e
  simp only [List.getD_cons_zero, List.getD_cons_succ] at e2 e3
  rw [← s1, ← e2, ← e3, ← s2, ← s3]
  generalize (rs.take g).sum = A at *
  generalize (rs.drop g).sum = B at *
  generalize (ls.take g).sum = a at *
  generalize (ls.drop g).sum = c at *
  clear e e2 e3 s1 s2 s3 h f
  obtain ⟨_ | _, _ | _⟩ := b
  · show (put1 false a (min (n - min n (cap false B c)) (cap false A a)), put1 false a (min (n - min n (cap false B c)) (cap false A a)) + put1 false c (min n (cap false B c))) = _
    simp only [gst, put1, cap, Bool.false_eq_true, if_false, if_true, Prod.mk.injEq]
    omega
  · show (put1 true a (min (n - min n (cap true B c)) (cap true A a)), put1 true a (min (n - min n (cap true B c)) (cap true A a)) + put1 true c (min n (cap true B c))) = _
    simp only [gst, put1, cap, Bool.false_eq_true, if_false, if_true, Prod.mk.injEq]
    omega
  · show (put1 false a (min n (cap false A a)), put1 false a (min n (cap false A a)) + put1 false c (min (n - min n (cap false A a)) (cap false B c))) = _
    simp only [gst, put1, cap, Bool.false_eq_true, if_false, if_true, Prod.mk.injEq]
    omega
  · show (put1 true a (min n (cap true A a)), put1 true a (min n (cap true A a)) + put1 true c (min (n - min n (cap true A a)) (cap true B c))) = _
    simp only [gst, put1, cap, Bool.false_eq_true, if_false, if_true, Prod.mk.injEq]
    omega
theorem wordM_cons {rs ls : List Int} {x : Br × Int} {w : Wd'} (h : Fit rs ls) (hx : 0 ≤ x.2) : (wordM rs ls (x :: w)).1 = (wordM rs (runM x.1 rs ls x.2).1 w).1 ∧ (wordM rs ls (x :: w)).2 = addV ((wordM rs ls [x]).2) (wordM rs (runM x.1 rs ls x.2).1 w).2 := by
  have e := wordM_cat (w := [x]) (u := w) h fun y hy => by rw [List.mem_singleton.mp hy]; exact hx
  have e1 : (wordM rs ls [x]).1 = (runM x.1 rs ls x.2).1 := rfl
  rw [List.singleton_append, e1] at e
  rw [e]
  exact ⟨rfl, rfl⟩
theorem gap_gw {rs : List Int} (g : Nat) : ∀ {w : Wd'} {ls : List Int}, Fit rs ls → WOk w → (((wordM rs ls w).1.take g).sum, (wordM rs ls w).1.sum) = gw (rs.take g).sum rs.sum w ((ls.take g).sum, ls.sum)
  | [], ls, h, _ => rfl
  | x :: w, ls, h, ho => by
    have x0 := ho x (List.mem_cons_self ..)
    have i := gap_gw g (w := w) (runM_fit (b := x.1) h x0).1 fun y hy => ho y (List.mem_cons_of_mem _ hy)
    rw [(wordM_cons h x0).1, i, gap_st h x0 g]
    rfl
def netL (w : Wd') : Int := netB (true, true) w - netB (true, false) w
end WK
namespace WK
open PySem PySem.Spec PyProof.Rows L2 ZX DL RT DP
theorem gst_mono {A T : Int} {s t : Int × Int} {x : Br × Int} (hs : Gk A T s) (ht : Gk A T t) (hx : 0 ≤ x.2) (h1 : s.1 ≤ t.1) (h2 : s.2 ≤ t.2) : (gst A T s x).1 ≤ (gst A T t x).1 ∧ (gst A T s x).2 ≤ (gst A T t x).2 := by
  obtain ⟨a, b, c, d⟩ := hs
  obtain ⟨a', b', c', d'⟩ := ht
  obtain ⟨⟨_ | _, _ | _⟩, n⟩ := x
  all_goals
    simp only [gst, Bool.false_eq_true, if_false, if_true] at hx ⊢
    omega
theorem gw_mono {A T : Int} : ∀ {w : Wd'} {s t : Int × Int}, Gk A T s → Gk A T t → WOk w → s.1 ≤ t.1 → s.2 ≤ t.2 → (gw A T w s).1 ≤ (gw A T w t).1 ∧ (gw A T w s).2 ≤ (gw A T w t).2
  | [], _, _, _, _, _, h1, h2 => ⟨h1, h2⟩
  | x :: w, s, t, hs, ht, ho, h1, h2 => by
    have x0 := ho x (List.mem_cons_self ..)
    obtain ⟨a, b⟩ := gst_mono (x := x) hs ht x0 h1 h2
    exact gw_mono (w := w) (gst_ok hs x0) (gst_ok ht x0) (fun y hy => ho y (List.mem_cons_of_mem _ hy)) a b
def rpW : Nat → Wd' → Wd'
  | 0, _ => []
  | k + 1, w => w ++ rpW k w
section
variable {rs ls : List Int} {w : Wd'} (h : Fit rs ls) (ho : WOk w)
include h ho
end
end WK
namespace WK
open PySem PySem.Spec PyProof.Rows L2 ZX DL RT DP
structure Cw (rs : List Int) (w : Wd') : Prop where
  r0 : ∀ r ∈ rs, 0 ≤ r
  n1 : 1 ≤ rs.length
  n2 : rs.length ≤ 1000
  T : rs.sum ≤ 4000
  ok : WOk w
  wl : w.length ≤ 100000
  lo : -(2 ^ 64) < netL w
  hi : netL w < 2 ^ 64
def z3 : List Int → List Int → List Int → List (Int × Int × Int)
  | n :: ns, l :: ls, h :: hs => (n, l, h) :: z3 ns ls hs
  | _, _, _ => []
section
variable {rs : List Int} (r0 : ∀ r ∈ rs, 0 ≤ r) {S : Int} (h0 : 0 ≤ S) (h1 : S ≤ rs.sum)
include r0
include h0
include h1
end
def hrd (rs ls : List Int) (w : Wd') : Int := (wordM rs ls w).2.getD 0 0 - (wordM rs ls w).2.getD 1 0
end WK
namespace WK
open PySem PySem.Spec PyProof.Rows L2 ZX DL RT DP
theorem full_eq' {r : PyData} {rs : List Int} (hr : seqF r = some (dI rs)) : sem_full [r] = .ret (tN rs) := by
  simp only [sem_full, a_full, DP.run, DP.runB, evS, evE, evA, evT, evP, evI, startE, startX, slot_zero, slot_succ, own_zero, own_succ, box_zero, box_succ, bind_n, Dr.bind_assoc, pur_n, put_nm, put_tp, put_tpL, puts_nil, puts_cons, then_n, then_rt, then_rtO, told_rtO, put2_c, put3_c, evF, evB, flat_i, flat_b, flat_s, asLst_l, f_intI, f_intB, f_odd, f_notN, f_fListL, f_fListT, non_i, non_n, f_neS, then_bk, then_ct, told_rt, evT_qY, andB_t, andB_f, orB_t, orB_f, asInt_i, Dr.opt_some, small, within, List.length_cons, List.length_nil, List.map_cons, List.map_nil, List.cons_append, List.nil_append, List.replicate, List.set_cons_zero, List.set_cons_succ, Tt.vs, Ts.vs, Option.bind_some, Nat.reduceAdd, Nat.reduceSub, Nat.reduceLeDiff, Nat.reduceEqDiff, reduceIte, if_true, if_false, asIx_int, f_add, f_sub, f_lt, f_le, f_gt, f_ge, f_addA, f_subA, f_eqI, f_eqS, f_eqB, f_neI, f_isN, f_ixL, f_ixT, f_neg, f_not, f_min, f_max, f_abs, f_tB, f_lenL, f_lenT, f_list, f_listT, f_tup, f_tupT, f_wSeqL, f_wSeqT, f_cutT, f_cutL, wipeX, List.all_cons, List.all_nil, List.contains_cons, List.elem_nil, Bool.and_true, Bool.true_and, beq_self_eq_true, Bool.or_true, Bool.true_or, Bool.false_eq_true, Option.some.injEq, decide_true, decide_false, Bool.not_true, Bool.not_false, Nat.reduceBEq, Bool.or_false, Bool.false_or, List.append_nil, List.singleton_append, true_and, and_true, and_self, tup_seq hr]
end WK
namespace WK
open PySem PySem.Spec PyProof.Rows L2 ZX DL RT DP
theorem runM_zero {b : Br} {rs ls : List Int} (h : Fit rs ls) : (runM b rs ls 0).1 = ls := by
  rcases b with ⟨_ | _, s⟩
  · show (runR s rs ls 0).1 = ls
    have := runR_rev (s := s) rs.reverse ls.reverse 0 (by simpa using h.len)
    rw [List.reverse_reverse, List.reverse_reverse, runL_zero (fit_rev h), List.reverse_reverse] at this
    rw [this]
  · show (runL s rs ls 0).1 = ls
    rw [runL_zero h]
theorem fold_runs {b : Br} {rs ls : List Int} (h : Fit rs ls) : ∀ n : Nat, (List.range n).foldl (fun x _ => (runM b rs x 1).1) ls = (runM b rs ls (n : Int)).1
  | 0 => (runM_zero h).symm
  | n + 1 => by
    rw [List.range_succ, List.foldl_append, fold_runs h n]
    show (runM b rs (runM b rs ls (n : Int)).1 1).1 = _
    rw [runM_add h (by omega) (by decide)]
    simp only
    congr 1
theorem gone_law {rs ls : List Int} {w : Wd'} (hf : Fit rs ls) (ho : WOk w) (hb : ∀ x ∈ w, x.2 < 2 ^ 60) (hl : rs.length ≤ 1000) : sem_L_gone [tN rs, tN ls, .list (wD w)] = .ret (tN (wordM rs ls w).1) := by
  obtain ⟨env', e, hF, a, b, c, he⟩ := forL_fold (g := rnD) (stp := wstep rs) (enc := fun st env => Fit rs st.1 ∧ ∃ a b c, env = [.dat (tN rs), .dat (tN st.1), .dat (.list (wD w)), a, b, c]) (step := lstep (evS b_L_gone_2) (.tp (.cons (.nm 3) (.cons (.nm 4) .nil)))) (xs := w) (b := (ls, [0, 0, 0, 0])) (env := [.dat (tN rs), .dat (tN ls), .dat (.list (wD w)), .unk, .unk, .unk]) ⟨hf, .unk, .unk, .unk, rfl⟩ fun x hx st env ⟨hs, a, b, c, he⟩ => by
    subst he
    have x0 := ho x hx
    have x1 := hb x hx
    obtain ⟨n, hn⟩ : ∃ n : Nat, x.2 = (n : Int) := ⟨x.2.toNat, by omega⟩
    have rg : wRng.f [.int x.2] = some ((List.range n).map fun (i : Nat) => PyData.int (i : Int)) := by
      rw [rngF_n x0 (by omega), hn, Int.toNat_natCast]
    obtain ⟨env2, e2, f2, u, he2⟩ := forL_fold (g := fun (i : Nat) => PyData.int (i : Int)) (stp := fun y (_ : Nat) => (runM x.1 rs y 1).1) (enc := fun y env => Fit rs y ∧ ∃ u, env = [.dat (tN rs), .dat (tN y), .dat (.list (wD w)), .dat (.str x.1.nm), .dat (.int x.2), u]) (step := lstep (evS b_L_gone_1) (.nm 5)) (xs := List.range n) (b := st.1) (env := [.dat (tN rs), .dat (tN st.1), .dat (.list (wD w)), .dat (.str x.1.nm), .dat (.int x.2), c]) ⟨hs, c, rfl⟩ fun i _ y env ⟨hy, u, he⟩ => by
      subst he
      have e1 := breathed1_eq hy hl x.1
      refine ⟨_, ?_, (runM_fit (b := x.1) (n := 1) hy (by decide)).1, .dat (.int (i : Int)), rfl⟩
      simp only [lstep, b_L_gone_1, DP.run, DP.runB, evS, evE, evA, evT, evP, evI, startE, startX, slot_zero, slot_succ, own_zero, own_succ, box_zero, box_succ, bind_n, Dr.bind_assoc, pur_n, put_nm, put_tp, put_tpL, puts_nil, puts_cons, then_n, then_rt, then_rtO, told_rtO, put2_c, put3_c, evF, evB, flat_i, flat_b, flat_s, asLst_l, f_intI, f_intB, f_odd, f_notN, f_fListL, f_fListT, non_i, non_n, f_neS, then_bk, then_ct, told_rt, evT_qY, andB_t, andB_f, orB_t, orB_f, asInt_i, Dr.opt_some, small, within, List.length_cons, List.length_nil, List.map_cons, List.map_nil, List.cons_append, List.nil_append, List.replicate, List.set_cons_zero, List.set_cons_succ, Tt.vs, Ts.vs, Option.bind_some, Nat.reduceAdd, Nat.reduceSub, Nat.reduceLeDiff, Nat.reduceEqDiff, reduceIte, if_true, if_false, asIx_int, f_add, f_sub, f_lt, f_le, f_gt, f_ge, f_addA, f_subA, f_eqI, f_eqS, f_eqB, f_neI, f_isN, f_ixL, f_ixT, f_neg, f_not, f_min, f_max, f_abs, f_tB, f_lenL, f_lenT, f_list, f_listT, f_tup, f_tupT, f_wSeqL, f_wSeqT, f_cutT, f_cutL, wipeX, List.all_cons, List.all_nil, List.contains_cons, List.elem_nil, Bool.and_true, Bool.true_and, beq_self_eq_true, Bool.or_true, Bool.true_or, Bool.false_eq_true, Option.some.injEq, decide_true, decide_false, Bool.not_true, Bool.not_false, Nat.reduceBEq, Bool.or_false, Bool.false_or, List.append_nil, List.singleton_append, true_and, and_true, and_self, e1]
    subst he2
    rw [fold_runs hs n, ← hn] at e2 f2
    refine ⟨[.dat (tN rs), .dat (tN (runM x.1 rs st.1 x.2).1), .dat (.list (wD w)), .dat (.str x.1.nm), .dat (.int x.2), u], ?_, f2, .dat (.str x.1.nm), .dat (.int x.2), u, rfl⟩
    simp only [lstep, rnD, b_L_gone_2, DP.run, DP.runB, evS, evE, evA, evT, evP, evI, startE, startX, slot_zero, slot_succ, own_zero, own_succ, box_zero, box_succ, bind_n, Dr.bind_assoc, pur_n, put_nm, put_tp, put_tpL, puts_nil, puts_cons, then_n, then_rt, then_rtO, told_rtO, put2_c, put3_c, evF, evB, flat_i, flat_b, flat_s, asLst_l, f_intI, f_intB, f_odd, f_notN, f_fListL, f_fListT, non_i, non_n, f_neS, then_bk, then_ct, told_rt, evT_qY, andB_t, andB_f, orB_t, orB_f, asInt_i, Dr.opt_some, small, within, List.length_cons, List.length_nil, List.map_cons, List.map_nil, List.cons_append, List.nil_append, List.replicate, List.set_cons_zero, List.set_cons_succ, Tt.vs, Ts.vs, Option.bind_some, Nat.reduceAdd, Nat.reduceSub, Nat.reduceLeDiff, Nat.reduceEqDiff, reduceIte, if_true, if_false, asIx_int, f_add, f_sub, f_lt, f_le, f_gt, f_ge, f_addA, f_subA, f_eqI, f_eqS, f_eqB, f_neI, f_isN, f_ixL, f_ixT, f_neg, f_not, f_min, f_max, f_abs, f_tB, f_lenL, f_lenT, f_list, f_listT, f_tup, f_tupT, f_wSeqL, f_wSeqT, f_cutT, f_cutL, wipeX, List.all_cons, List.all_nil, List.contains_cons, List.elem_nil, Bool.and_true, Bool.true_and, beq_self_eq_true, Bool.or_true, Bool.true_or, Bool.false_eq_true, Option.some.injEq, decide_true, decide_false, Bool.not_true, Bool.not_false, Nat.reduceBEq, Bool.or_false, Bool.false_or, List.append_nil, List.singleton_append, true_and, and_true, and_self, rg, e2]
  subst he
  simp only [sem_L_gone, a_L_gone, DP.run, DP.runB, evS, evE, evA, evT, evP, evI, startE, startX, slot_zero, slot_succ, own_zero, own_succ, box_zero, box_succ, bind_n, Dr.bind_assoc, pur_n, put_nm, put_tp, put_tpL, puts_nil, puts_cons, then_n, then_rt, then_rtO, told_rtO, put2_c, put3_c, evF, evB, flat_i, flat_b, flat_s, asLst_l, f_intI, f_intB, f_odd, f_notN, f_fListL, f_fListT, non_i, non_n, f_neS, then_bk, then_ct, told_rt, evT_qY, andB_t, andB_f, orB_t, orB_f, asInt_i, Dr.opt_some, small, within, List.length_cons, List.length_nil, List.map_cons, List.map_nil, List.cons_append, List.nil_append, List.replicate, List.set_cons_zero, List.set_cons_succ, Tt.vs, Ts.vs, Option.bind_some, Nat.reduceAdd, Nat.reduceSub, Nat.reduceLeDiff, Nat.reduceEqDiff, reduceIte, if_true, if_false, asIx_int, f_add, f_sub, f_lt, f_le, f_gt, f_ge, f_addA, f_subA, f_eqI, f_eqS, f_eqB, f_neI, f_isN, f_ixL, f_ixT, f_neg, f_not, f_min, f_max, f_abs, f_tB, f_lenL, f_lenT, f_list, f_listT, f_tup, f_tupT, f_wSeqL, f_wSeqT, f_cutT, f_cutL, wipeX, List.all_cons, List.all_nil, List.contains_cons, List.elem_nil, Bool.and_true, Bool.true_and, beq_self_eq_true, Bool.or_true, Bool.true_or, Bool.false_eq_true, Option.some.injEq, decide_true, decide_false, Bool.not_true, Bool.not_false, Nat.reduceBEq, Bool.or_false, Bool.false_or, List.append_nil, List.singleton_append, true_and, and_true, and_self, e]
  rfl
def ext1 (r : Int) (x : List Int) : List (List Int) := (List.range (r + 1).toNat).map fun (i : Nat) => x ++ [(i : Int)]
def allF (acc : List (List Int)) (r : Int) : List (List Int) := acc.flatMap (ext1 r)
def allM (rs : List Int) : List (List Int) := rs.foldl allF [[]]
theorem catL_d {A B : List PyData} (h : A.length + B.length ≤ 100000) : oCatL.f (.list A) (.list B) = some (.list (A ++ B)) := by
  show (if A.length + B.length ≤ 100000 then some (PyData.list (A ++ B)) else none) = _
  rw [if_pos h]
theorem ext_len (r : Int) (x : List Int) : (ext1 r x).length = (r + 1).toNat := by
  unfold ext1
  rw [List.length_map, List.length_range]
theorem flat_len (r : Int) : ∀ X : List (List Int), (X.flatMap (ext1 r)).length = X.length * (r + 1).toNat
  | [] => by simp
  | x :: X => by
    rw [List.flatMap_cons, List.length_append, ext_len, flat_len r X, List.length_cons, Nat.succ_mul, Nat.add_comm]
theorem all_law {rs : List Int} {h n : Nat} (h1 : ∀ r ∈ rs, 0 ≤ r ∧ r ≤ h) (hn : rs.length ≤ n) (hl : n ≤ 1000) (hp : (h + 1) ^ n ≤ 90000) : sem_L_all [tN rs] = .ret (.list ((allM rs).map tN)) := by
  have key : ∀ (qs done : List Int) (X : List (List Int)) (a b c d : Sl), (∀ r ∈ qs, 0 ≤ r ∧ r ≤ h) → done.length + qs.length ≤ n → X.length ≤ (h + 1) ^ done.length → (∀ x ∈ X, x.length = done.length) → ∃ a' b' c' d', forL (lstep (evS b_L_all_2) (.nm 2)) (dI qs) [.dat (tN rs), .dat (.list (X.map tN)), a, b, c, d] = .ret (.nx [.dat (tN rs), .dat (.list ((qs.foldl allF X).map tN)), a', b', c', d']) := fun qs => by
    induction qs with
    | nil => exact fun done X a b c d _ _ _ _ => ⟨a, b, c, d, rfl⟩
    | cons r qs ih =>
      intro done X a b c d hq hd hX hx
      have hx' : ∀ {x}, x ∈ X → x.length = done.length := fun {x} h => hx x h
      have r1 := hq r (List.mem_cons_self ..)
      rw [List.length_cons] at hd
      have pw : (h + 1) ^ (done.length + 1) ≤ 90000 := Nat.le_trans (Nat.pow_le_pow_right (by omega) (by omega)) hp
      have bd : X.length * (r + 1).toNat ≤ (h + 1) ^ (done.length + 1) := by
        rw [Nat.pow_succ]
        exact Nat.mul_le_mul hX (by omega)
      have hh : h + 1 ≤ (h + 1) ^ (done.length + 1) := Nat.le_self_pow (by omega) _
      have rg : wRng.f [.int (r + 1)] = some ((List.range (r + 1).toNat).map fun (i : Nat) => PyData.int (i : Int)) := rngF_n (by omega) (by omega)
      have inner : ∀ (Z Y : List (List Int)) (c : Sl), (∀ x ∈ Z, x.length ≤ 1000) → Y.length + Z.length * (r + 1).toNat ≤ 90000 → ∃ c', forL (lstep (evS b_L_all_1) (.nm 4)) (Z.map tN) [.dat (tN rs), .dat (.list (X.map tN)), .dat (.int r), .dat (.list (Y.map tN)), c, d] = .ret (.nx [.dat (tN rs), .dat (.list (X.map tN)), .dat (.int r), .dat (.list ((Y ++ Z.flatMap (ext1 r)).map tN)), c', d]) := fun Z => by
        induction Z with
        | nil => exact fun Y c _ _ => ⟨c, by rw [List.flatMap_nil, List.append_nil]; rfl⟩
        | cons z Z ihz =>
          intro Y c hz hb
          have z1 := hz z (List.mem_cons_self ..)
          rw [List.length_cons, Nat.succ_mul] at hb
          obtain ⟨c', e⟩ := ihz (Y ++ ext1 r z) (.dat (tN z)) (fun x hx => hz x (List.mem_cons_of_mem _ hx)) (by rw [List.length_append, ext_len]; omega)
          refine ⟨c', ?_⟩
          have hc := compr_map (step := cstep (evT qY) (evE x_L_all_1) (.nm 5) [.dat (tN rs), .dat (.list (X.map tN)), .dat (.int r), .dat (.list (Y.map tN)), .dat (tN z), .unk]) (g := fun (i : Nat) => PyData.int (i : Int)) (h := fun i => tN (z ++ [(i : Int)])) (xs := List.range (r + 1).toNat) fun i _ => by
            have e2 : oCatT.f (.tuple (dI z)) (.tuple [.int (i : Int)]) = some (tN (z ++ [(i : Int)])) := catT_c (ys := [(i : Int)]) (by simp; omega)
            simp only [cstep, x_L_all_1, DP.run, DP.runB, evS, evE, evA, evT, evP, evI, startE, startX, slot_zero, slot_succ, own_zero, own_succ, box_zero, box_succ, bind_n, Dr.bind_assoc, pur_n, put_nm, put_tp, put_tpL, puts_nil, puts_cons, then_n, then_rt, then_rtO, told_rtO, put2_c, put3_c, evF, evB, flat_i, flat_b, flat_s, asLst_l, f_intI, f_intB, f_odd, f_notN, f_fListL, f_fListT, non_i, non_n, f_neS, then_bk, then_ct, told_rt, evT_qY, andB_t, andB_f, orB_t, orB_f, asInt_i, Dr.opt_some, small, within, List.length_cons, List.length_nil, List.map_cons, List.map_nil, List.cons_append, List.nil_append, List.replicate, List.set_cons_zero, List.set_cons_succ, Tt.vs, Ts.vs, Option.bind_some, Nat.reduceAdd, Nat.reduceSub, Nat.reduceLeDiff, Nat.reduceEqDiff, reduceIte, if_true, if_false, asIx_int, f_add, f_sub, f_lt, f_le, f_gt, f_ge, f_addA, f_subA, f_eqI, f_eqS, f_eqB, f_neI, f_isN, f_ixL, f_ixT, f_neg, f_not, f_min, f_max, f_abs, f_tB, f_lenL, f_lenT, f_list, f_listT, f_tup, f_tupT, f_wSeqL, f_wSeqT, f_cutT, f_cutL, wipeX, List.all_cons, List.all_nil, List.contains_cons, List.elem_nil, Bool.and_true, Bool.true_and, beq_self_eq_true, Bool.or_true, Bool.true_or, Bool.false_eq_true, Option.some.injEq, decide_true, decide_false, Bool.not_true, Bool.not_false, Nat.reduceBEq, Bool.or_false, Bool.false_or, List.append_nil, List.singleton_append, true_and, and_true, and_self, e2]
          have l1 : ((List.range (r + 1).toNat).map fun (i : Nat) => PyData.int (i : Int)).length ≤ 100000 := by
            rw [List.length_map, List.length_range]
            omega
          have ec : (List.range (r + 1).toNat).map (fun (i : Nat) => tN (z ++ [(i : Int)])) = (ext1 r z).map tN := by
            unfold ext1
            rw [List.map_map]
            rfl
          rw [ec] at hc
          have cl := catL_d (A := Y.map tN) (B := (ext1 r z).map tN) (by rw [List.length_map, List.length_map, ext_len]; omega)
          have st : lstep (evS b_L_all_1) (.nm 4) (tN z) [.dat (tN rs), .dat (.list (X.map tN)), .dat (.int r), .dat (.list (Y.map tN)), c, d] = .ret (.nx [.dat (tN rs), .dat (.list (X.map tN)), .dat (.int r), .dat (.list ((Y ++ ext1 r z).map tN)), .dat (tN z), d]) := by
            simp only [lstep, b_L_all_1, DP.run, DP.runB, evS, evE, evA, evT, evP, evI, startE, startX, slot_zero, slot_succ, own_zero, own_succ, box_zero, box_succ, bind_n, Dr.bind_assoc, pur_n, put_nm, put_tp, put_tpL, puts_nil, puts_cons, then_n, then_rt, then_rtO, told_rtO, put2_c, put3_c, evF, evB, flat_i, flat_b, flat_s, asLst_l, f_intI, f_intB, f_odd, f_notN, f_fListL, f_fListT, non_i, non_n, f_neS, then_bk, then_ct, told_rt, evT_qY, andB_t, andB_f, orB_t, orB_f, asInt_i, Dr.opt_some, small, within, List.length_cons, List.length_nil, List.map_cons, List.map_nil, List.cons_append, List.nil_append, List.replicate, List.set_cons_zero, List.set_cons_succ, Tt.vs, Ts.vs, Option.bind_some, Nat.reduceAdd, Nat.reduceSub, Nat.reduceLeDiff, Nat.reduceEqDiff, reduceIte, if_true, if_false, asIx_int, f_add, f_sub, f_lt, f_le, f_gt, f_ge, f_addA, f_subA, f_eqI, f_eqS, f_eqB, f_neI, f_isN, f_ixL, f_ixT, f_neg, f_not, f_min, f_max, f_abs, f_tB, f_lenL, f_lenT, f_list, f_listT, f_tup, f_tupT, f_wSeqL, f_wSeqT, f_cutT, f_cutL, wipeX, List.all_cons, List.all_nil, List.contains_cons, List.elem_nil, Bool.and_true, Bool.true_and, beq_self_eq_true, Bool.or_true, Bool.true_or, Bool.false_eq_true, Option.some.injEq, decide_true, decide_false, Bool.not_true, Bool.not_false, Nat.reduceBEq, Bool.or_false, Bool.false_or, List.append_nil, List.singleton_append, true_and, and_true, and_self, rg, l1, hc, cl]
            rw [List.map_append]
          show (lstep (evS b_L_all_1) (.nm 4) (tN z) _).bind _ = _
          rw [st]
          show forL (lstep (evS b_L_all_1) (.nm 4)) (Z.map tN) _ = _
          rw [e, List.flatMap_cons, List.append_assoc]
      obtain ⟨c', e⟩ := inner X [] c (fun x hx => by rw [hx' hx]; omega) (by rw [List.length_nil]; omega)
      obtain ⟨a2, b2, c2, d2, e2⟩ := ih (done ++ [r]) (allF X r) (.dat (.int r)) (.dat (.list ((allF X r).map tN))) c' d (fun q hq' => hq q (List.mem_cons_of_mem _ hq')) (by rw [List.length_append]; show done.length + 1 + qs.length ≤ n; omega) (by
        rw [List.length_append]
        show (X.flatMap (ext1 r)).length ≤ (h + 1) ^ (done.length + 1)
        rw [flat_len]
        exact bd) (fun x hx => by
        obtain ⟨y, hy, hxy⟩ := List.mem_flatMap.mp hx
        obtain ⟨i, _, rfl⟩ := List.mem_map.mp hxy
        rw [List.length_append, List.length_append, hx' hy]
        rfl)
      refine ⟨a2, b2, c2, d2, ?_⟩
      have e' : forL (lstep (evS b_L_all_1) (.nm 4)) (X.map tN) [.dat (tN rs), .dat (.list (X.map tN)), .dat (.int r), .dat (.list []), c, d] = .ret (.nx [.dat (tN rs), .dat (.list (X.map tN)), .dat (.int r), .dat (.list ((allF X r).map tN)), c', d]) := e
      generalize hXt : X.map tN = XT at e'
      have st : lstep (evS b_L_all_2) (.nm 2) (.int r) [.dat (tN rs), .dat (.list XT), a, b, c, d] = .ret (.nx [.dat (tN rs), .dat (.list ((allF X r).map tN)), .dat (.int r), .dat (.list ((allF X r).map tN)), c', d]) := by
        simp only [lstep, b_L_all_2, DP.run, DP.runB, evS, evE, evA, evT, evP, evI, startE, startX, slot_zero, slot_succ, own_zero, own_succ, box_zero, box_succ, bind_n, Dr.bind_assoc, pur_n, put_nm, put_tp, put_tpL, puts_nil, puts_cons, then_n, then_rt, then_rtO, told_rtO, put2_c, put3_c, evF, evB, flat_i, flat_b, flat_s, asLst_l, f_intI, f_intB, f_odd, f_notN, f_fListL, f_fListT, non_i, non_n, f_neS, then_bk, then_ct, told_rt, evT_qY, andB_t, andB_f, orB_t, orB_f, asInt_i, Dr.opt_some, small, within, List.length_cons, List.length_nil, List.map_cons, List.map_nil, List.cons_append, List.nil_append, List.replicate, List.set_cons_zero, List.set_cons_succ, Tt.vs, Ts.vs, Option.bind_some, Nat.reduceAdd, Nat.reduceSub, Nat.reduceLeDiff, Nat.reduceEqDiff, reduceIte, if_true, if_false, asIx_int, f_add, f_sub, f_lt, f_le, f_gt, f_ge, f_addA, f_subA, f_eqI, f_eqS, f_eqB, f_neI, f_isN, f_ixL, f_ixT, f_neg, f_not, f_min, f_max, f_abs, f_tB, f_lenL, f_lenT, f_list, f_listT, f_tup, f_tupT, f_wSeqL, f_wSeqT, f_cutT, f_cutL, wipeX, List.all_cons, List.all_nil, List.contains_cons, List.elem_nil, Bool.and_true, Bool.true_and, beq_self_eq_true, Bool.or_true, Bool.true_or, Bool.false_eq_true, Option.some.injEq, decide_true, decide_false, Bool.not_true, Bool.not_false, Nat.reduceBEq, Bool.or_false, Bool.false_or, List.append_nil, List.singleton_append, true_and, and_true, and_self, e']
      show (lstep (evS b_L_all_2) (.nm 2) (.int r) _).bind _ = _
      rw [st]
      exact e2
  obtain ⟨a, b, c, d, e⟩ := key rs [] [[]] .unk .unk .unk .unk h1 (by rw [List.length_nil]; omega) (by simp) (fun x hx => by rw [List.mem_singleton.mp hx])
  have e' : forL (lstep (evS b_L_all_2) (.nm 2)) (dI rs) [.dat (tN rs), .dat (.list [.tuple []]), .unk, .unk, .unk, .unk] = .ret (.nx [.dat (tN rs), .dat (.list ((allM rs).map tN)), a, b, c, d]) := e
  simp only [sem_L_all, a_L_all, DP.run, DP.runB, evS, evE, evA, evT, evP, evI, startE, startX, slot_zero, slot_succ, own_zero, own_succ, box_zero, box_succ, bind_n, Dr.bind_assoc, pur_n, put_nm, put_tp, put_tpL, puts_nil, puts_cons, then_n, then_rt, then_rtO, told_rtO, put2_c, put3_c, evF, evB, flat_i, flat_b, flat_s, asLst_l, f_intI, f_intB, f_odd, f_notN, f_fListL, f_fListT, non_i, non_n, f_neS, then_bk, then_ct, told_rt, evT_qY, andB_t, andB_f, orB_t, orB_f, asInt_i, Dr.opt_some, small, within, List.length_cons, List.length_nil, List.map_cons, List.map_nil, List.cons_append, List.nil_append, List.replicate, List.set_cons_zero, List.set_cons_succ, Tt.vs, Ts.vs, Option.bind_some, Nat.reduceAdd, Nat.reduceSub, Nat.reduceLeDiff, Nat.reduceEqDiff, reduceIte, if_true, if_false, asIx_int, f_add, f_sub, f_lt, f_le, f_gt, f_ge, f_addA, f_subA, f_eqI, f_eqS, f_eqB, f_neI, f_isN, f_ixL, f_ixT, f_neg, f_not, f_min, f_max, f_abs, f_tB, f_lenL, f_lenT, f_list, f_listT, f_tup, f_tupT, f_wSeqL, f_wSeqT, f_cutT, f_cutL, wipeX, List.all_cons, List.all_nil, List.contains_cons, List.elem_nil, Bool.and_true, Bool.true_and, beq_self_eq_true, Bool.or_true, Bool.true_or, Bool.false_eq_true, Option.some.injEq, decide_true, decide_false, Bool.not_true, Bool.not_false, Nat.reduceBEq, Bool.or_false, Bool.false_or, List.append_nil, List.singleton_append, true_and, and_true, and_self, e']
theorem all_fit {rs : List Int} (h0 : ∀ r ∈ rs, 0 ≤ r) : ∀ x, x ∈ allM rs ↔ Fit rs x := by
  have key : ∀ (qs done : List Int) (X : List (List Int)), (∀ r ∈ qs, 0 ≤ r) → (∀ x, x ∈ X ↔ Fit done x) → ∀ x, x ∈ qs.foldl allF X ↔ Fit (done ++ qs) x := fun qs => by
    induction qs with
    | nil =>
      intro done X _ hX x
      rw [List.append_nil]
      exact hX x
    | cons r qs ih =>
      intro done X hq hX x
      have r1 := hq r (List.mem_cons_self ..)
      have := ih (done ++ [r]) (allF X r) (fun q h => hq q (List.mem_cons_of_mem _ h)) (fun y => by
        constructor
        · intro hy
          obtain ⟨z, hz, hyz⟩ := List.mem_flatMap.mp hy
          obtain ⟨i, hi, rfl⟩ := List.mem_map.mp hyz
          have := List.mem_range.mp hi
          exact fit_append ((hX z).mp hz) (fit_one (by omega) (by omega))
        · intro hy
          have hl := hy.len
          rw [List.length_append] at hl
          have e1 := fit_tk done.length hy
          have e2 := fit_dr done.length hy
          rw [List.take_left] at e1
          rw [List.drop_left] at e2
          obtain ⟨v, hv, v0, v1⟩ : ∃ v, y.drop done.length = [v] ∧ 0 ≤ v ∧ v ≤ r := by
            generalize y.drop done.length = t at e2
            rcases e2 with _ | ⟨a, b, c⟩
            cases c
            exact ⟨_, rfl, a, b⟩
          refine List.mem_flatMap.mpr ⟨y.take done.length, (hX _).mpr e1, List.mem_map.mpr ⟨v.toNat, List.mem_range.mpr (by omega), ?_⟩⟩
          rw [Int.toNat_of_nonneg v0, ← hv, List.take_append_drop]) x
      rw [List.append_assoc] at this
      exact this
  intro x
  have := key rs [] [[]] h0 (fun x => by
    constructor
    · intro h
      rw [List.mem_singleton.mp h]
      exact .nil
    · intro h
      cases h
      exact List.mem_singleton.mpr rfl) x
  rw [List.nil_append] at this
  exact this
theorem word_below {rs x y : List Int} {u : Wd'} (hx : Fit rs x) (hy : Fit rs y) (ho : WOk u) (h : ∀ g, (x.take g).sum ≤ (y.take g).sum) (g : Nat) : ((wordM rs x u).1.take g).sum ≤ ((wordM rs y u).1.take g).sum := by
  have t := h rs.length
  rw [List.take_of_length_le (Nat.le_of_eq hx.len), List.take_of_length_le (Nat.le_of_eq hy.len)] at t
  have m := gw_mono (w := u) (fit_gk hx g) (fit_gk hy g) ho (h g) t
  have a := congrArg Prod.fst (gap_gw g hx ho)
  have b := congrArg Prod.fst (gap_gw g hy ho)
  simp only at a b
  rw [a, b]
  exact m.1
theorem bare_below {rs x : List Int} (h : Fit rs x) (g : Nat) : ((reps rs.length 0).take g).sum ≤ (x.take g).sum := by
  have := sum_nn (fit_nn (fit_tk g h)).1
  have z : ((reps rs.length 0).take g).sum = 0 := by
    unfold reps
    rw [List.take_replicate]
    exact zsum _
  omega
theorem full_below {rs x : List Int} (h : Fit rs x) (g : Nat) : (x.take g).sum ≤ (rs.take g).sum := fit_sum (fit_tk g h)
theorem sum_bd {rs : List Int} {o : Int} (h : ∀ r ∈ rs, r ≤ o) : rs.sum ≤ o * rs.length := by
  induction rs with
  | nil => show (0 : Int) ≤ o * ((0 : Nat) : Int); simp
  | cons x w ih =>
    have x0 := h x (List.mem_cons_self ..)
    have i := ih fun y hy => h y (List.mem_cons_of_mem _ hy)
    rw [List.sum_cons, List.length_cons, Int.natCast_succ, Int.mul_add, Int.mul_one]
    omega
end WK
namespace WK
open PySem PySem.Spec PyProof.Rows L2 ZX DL RT DP
abbrev Fx (rs : List Int) (w : Wd') (ls : List Int) : Prop := (wordM rs ls w).1 = ls
end WK
namespace WK
open PySem PySem.Spec PyProof.Rows L2 ZX DL RT DP
end WK
namespace WK
open PySem PySem.Spec PyProof.Rows L2 ZX DL RT DP
end WK
namespace WK
open PySem PySem.Spec PyProof.Rows L2 ZX DL RT DP
theorem two_fit {A B a b : Int} (a0 : 0 ≤ a) (a1 : a ≤ A) (b0 : 0 ≤ b) (b1 : b ≤ B) : Fit [A, B] [a, b] := .cons a0 a1 (.cons b0 b1 .nil)
abbrev loT (A T m : Int) : Int := max 0 (m - (T - A))
abbrev hiT (A m : Int) : Int := min m A
section
variable {rs : List Int} {w : Wd'} {g n m : Nat}
end
end WK
namespace WK
open PySem PySem.Spec PyProof.Rows L2 ZX DL RT DP
section
variable {rs : List Int} {w u : Wd'} {g n : Nat}
end
end WK
namespace WK
open PySem PySem.Spec PyProof.Rows L2 ZX DL RT DP
structure TO (rs : List Int) (g n : Nat) (T : Wd' → PyData) : Prop where
  ini : ∀ {wd : PyData} {w : Wd'}, seqF wd = some (wD w) → WOk w → w.length ≤ 100000 → sem_T___init__ [tN rs, .int (g : Int), wd] = .ret (T w)
  thn : ∀ {w u : Wd'}, WOk w → WOk u → sem_T_then [T w, T u] = .ret (T (w ++ u))
  tms : ∀ {w : Wd'} {M : Nat}, WOk w → M < 2 ^ 64 → sem_T_times [T w, .int (M : Int)] = .ret (T (rpW M w))
  eqs : ∀ w : Wd', sem_T___eq__ [T w, T w] = .ret (.bool true)
  ob : ∀ w : Wd', isOb (T w) = true
  lds : ∀ {p : PyData} {a b : Int} {m : Nat} {w : Wd'}, seqF p = some (dI [a, b]) → a + b = (m : Int) → m ≤ n → Gk (rs.take g).sum rs.sum (a, (m : Int)) → WOk w → sem_T_leads [T w, p] = .ret (.tuple [.int (gw (rs.take g).sum rs.sum w (a, (m : Int))).1, .int ((gw (rs.take g).sum rs.sum w (a, (m : Int))).2 - (gw (rs.take g).sum rs.sum w (a, (m : Int))).1)])
  shf : ∀ w : Wd', sem_T_shift [T w] = .ret (.int (netL w))
  rms : ∀ w : Wd', sem_T_rooms [T w] = .ret (tN rs)
  spt : ∀ w : Wd', sem_T_spot [T w] = .ret (.int (g : Int))
  tot : ∀ {w : Wd'} {m : Nat}, m ≤ n → sem_T_total [T w, .int (m : Int)] = .ret (.int (gw (rs.take g).sum rs.sum w (loT (rs.take g).sum rs.sum (m : Int), (m : Int))).2)
  wal : ∀ {w : Wd'} {m : Nat}, m ≤ n → sem_T_walls [T w, .int (m : Int)] = .ret (.tuple [.int (gw (rs.take g).sum rs.sum w (loT (rs.take g).sum rs.sum (m : Int), (m : Int))).1, .int (gw (rs.take g).sum rs.sum w (hiT (rs.take g).sum (m : Int), (m : Int))).1])
  cgr : ∀ {w u : Wd'}, netL w = netL u → (∀ s, Gk (rs.take g).sum rs.sum s → gw (rs.take g).sum rs.sum w s = gw (rs.take g).sum rs.sum u s) → T w = T u
theorem TO.same {rs : List Int} {g n : Nat} {T : Wd' → PyData} (t : TO rs g n T) {w u : Wd'} (h : T w = T u) : sem_T___eq__ [T w, T u] = .ret (.bool true) := by
  rw [h]
  exact t.eqs u
end WK
namespace NB
open PySem PySem.Spec PyProof.Rows L2 ZX DL RT DP WK
def Fits (ns ms : List Int) : Prop := ms.length = ns.length ∧ ∀ (j : Nat) (n m : Int), ns[j]? = some n → ms[j]? = some m → 0 ≤ m ∧ m ≤ n
def cnt (ns : List Int) : Int := ns.foldl (fun p n => p * (n + 1)) 1
theorem snoc_ind {P : List Int → Prop} (h0 : P []) (h1 : ∀ l a, P l → P (l ++ [a])) (l : List Int) : P l := by
  rw [← List.reverse_reverse l]
  induction l.reverse with
  | nil => exact h0
  | cons a r ih =>
    rw [List.reverse_cons]
    exact h1 _ _ ih
theorem cnt_snoc (ns : List Int) (n : Int) : cnt (ns ++ [n]) = cnt ns * (n + 1) := by
  unfold cnt
  rw [List.foldl_append]
  rfl
theorem mem_snoc {P : Int → Prop} {ns : List Int} {n : Int} (h : ∀ x ∈ ns ++ [n], P x) : (∀ x ∈ ns, P x) ∧ P n := ⟨fun x hx => h x (List.mem_append_left _ hx), h n (List.mem_append_right _ (List.mem_singleton.mpr rfl))⟩
theorem cnt_le {b : Int} (hb : 0 ≤ b) : ∀ ns : List Int, (∀ n ∈ ns, 0 ≤ n ∧ n ≤ b) → cnt ns ≤ (b + 1) ^ ns.length := by
  refine snoc_ind ?_ ?_
  · intro _
    show (1 : Int) ≤ (b + 1) ^ 0
    rw [Int.pow_zero]
    decide
  · intro ns n ih h
    obtain ⟨h1, h2⟩ := mem_snoc h
    rw [cnt_snoc, List.length_append]
    show _ ≤ (b + 1) ^ (ns.length + 1)
    rw [Int.pow_succ]
    exact Int.mul_le_mul (ih h1) (by omega) (by omega) (Int.pow_nonneg (by omega))
end NB
namespace NB
open PySem PySem.Spec PyProof.Rows L2 ZX DL RT DP WK
section
variable {rs ls : List Int} {w : Wd'}
end
end NB
namespace NB
open PySem PySem.Spec PyProof.Rows L2 ZX DL RT DP WK
def dx (x : Br × Int) : Int := if x.1.2 = true then x.2 else -x.2
section
variable {rs x y : List Int} {w : Wd'}
end
end NB
namespace NB
open PySem PySem.Spec PyProof.Rows L2 ZX DL RT DP WK
end NB
namespace NB
open PySem PySem.Spec PyProof.Rows L2 ZX DL RT DP WK
def l1 : List Int → List Int → Int
  | a :: x, b :: y => DP.absI (a - b) + l1 x y
  | _, _ => 0
end NB
namespace NB
open PySem PySem.Spec PyProof.Rows L2 ZX DL RT DP WK
def nb (rs ls ts : List Int) (b : Br) : Bool := decide (few rs (runM b rs ls 1).1 ts < few rs ls ts)
end NB
namespace NB
open PySem PySem.Spec PyProof.Rows L2 ZX DL RT DP WK
end NB
namespace NB
open PySem PySem.Spec PyProof.Rows L2 ZX DL RT DP WK
def pD (P : List (List Int × (List Int × Br))) : List (List Int × PyData) := P.map fun p => (p.1, PyData.tuple [tN p.2.1, .str p.2.2.nm])
structure Ln (F : List (List Int × Nat)) (W : List (List Int × Int)) (P : List (List Int × (List Int × Br))) : Prop where
  w : W.length = F.length
  p : P.length ≤ F.length
  k : ∀ x, (BF.dget W x).isSome = true → (BF.dget F x).isSome = true
section
variable {rs l0 : List Int} {bs : List Br}
end
end NB
namespace NB
open PySem PySem.Spec PyProof.Rows L2 ZX DL RT DP WK
abbrev hB (h : Bool) : List Br := [(h, true), (h, false)]
section
variable {h : Bool} {rs ls : List Int} {F : List (List Int × Nat)} {W : List (List Int × Int)} {P : List (List Int × (List Int × Br))}
end
section
variable {bs : List Br} {rs ls : List Int} {F : List (List Int × Nat)} {W : List (List Int × Int)} {P : List (List Int × (List Int × Br))}
end
theorem sum_bd : ∀ {xs : List Int} {b : Int}, 0 ≤ b → (∀ x ∈ xs, x ≤ b) → xs.sum ≤ b * xs.length
  | [], b, _, _ => by simp
  | x :: xs, b, hb, h => by
    rw [List.sum_cons, List.length_cons]
    have h1 := h x (List.mem_cons_self ..)
    have h2 := sum_bd hb fun y hy => h y (List.mem_cons_of_mem _ hy)
    rw [Int.natCast_add, Int.mul_add]
    omega
theorem pow_up {a : Int} (h : 1 ≤ a) (k : Nat) : ∀ d : Nat, a ^ k ≤ a ^ (k + d) ∧ 0 ≤ a ^ (k + d)
  | 0 => by
    rw [Nat.add_zero]
    exact ⟨Int.le_refl _, Int.pow_nonneg (by omega)⟩
  | d + 1 => by
    obtain ⟨i1, i2⟩ := pow_up h k d
    rw [← Nat.add_assoc, Int.pow_succ]
    have := Int.mul_le_mul_of_nonneg_left h i2
    rw [Int.mul_one] at this
    exact ⟨by omega, by omega⟩
theorem cnt_few {rs : List Int} {b : Int} {m : Nat} (hr : ∀ r ∈ rs, 1 ≤ r ∧ r ≤ b) (hb : 0 ≤ b) (hl : rs.length ≤ m) : cnt rs ≤ (b + 1) ^ m := by
  have h1 := cnt_le hb rs fun r h => ⟨by have := hr r h; omega, (hr r h).2⟩
  have h2 := (pow_up (a := b + 1) (by omega) rs.length (m - rs.length)).1
  rw [Nat.add_sub_cancel' hl] at h2
  omega
end NB
namespace NB
open PySem PySem.Spec PyProof.Rows L2 ZX DL RT DP WK
section
variable {rs ls : List Int} {F : List (List Int × Nat)} {W : List (List Int × Int)} {P : List (List Int × (List Int × Br))}
end
theorem few_rooms {rs : List Int} (h : (rs.length ≤ 4 ∧ ∀ r ∈ rs, 1 ≤ r ∧ r ≤ 2) ∨ (rs.length ≤ 3 ∧ ∀ r ∈ rs, 1 ≤ r ∧ r ≤ 3)) : ∃ b : Int, 0 ≤ b ∧ b ≤ 3 ∧ (∀ r ∈ rs, 1 ≤ r ∧ r ≤ b) ∧ b * ((rs.length : Int) * rs.length) ≤ 60 ∧ cnt rs ≤ 5000 ∧ rs.length ≤ 4 := by
  rcases h with ⟨h1, h2⟩ | ⟨h1, h2⟩
  · refine ⟨2, by decide, by decide, h2, ?_, Int.le_trans (cnt_few (m := 4) h2 (by decide) h1) (by decide), h1⟩
    have : (rs.length : Int) * rs.length ≤ 4 * 4 := Int.mul_le_mul (by omega) (by omega) (by omega) (by omega)
    omega
  · refine ⟨3, by decide, by decide, h2, ?_, Int.le_trans (cnt_few (m := 3) h2 (by decide) h1) (by decide), by omega⟩
    have : (rs.length : Int) * rs.length ≤ 3 * 3 := Int.mul_le_mul (by omega) (by omega) (by omega) (by omega)
    omega
theorem bindq {α β : Type} {t : Dr α} {f : α → Dr β} {n m : Nat} {Φ : α → Prop} {Ψ : β → Prop} (h : Lq t n Φ) (hf : ∀ a, Φ a → Lq (f a) m Ψ) : Lq (t.bind f) (n + m) Ψ := Lq.bind h.h hf
def RR (rs : List Int) : Prop := 1 ≤ rs.length ∧ ((rs.length ≤ 4 ∧ ∀ r ∈ rs, 1 ≤ r ∧ r ≤ 2) ∨ (rs.length ≤ 3 ∧ ∀ r ∈ rs, 1 ≤ r ∧ r ≤ 3))
theorem RR.few {rs : List Int} (h : RR rs) : 1 ≤ rs.length ∧ ∃ b : Int, 0 ≤ b ∧ b ≤ 3 ∧ (∀ r ∈ rs, 1 ≤ r ∧ r ≤ b) ∧ b * ((rs.length : Int) * rs.length) ≤ 60 ∧ cnt rs ≤ 5000 ∧ rs.length ≤ 4 := ⟨h.1, few_rooms h.2⟩
end NB
namespace WK
open PySem PySem.Spec PyProof.Rows L2 ZX DL RT DP LT
end WK
namespace WK
open PySem PySem.Spec PyProof.Rows L2 ZX DL RT DP
end WK
namespace WK
open PySem PySem.Spec PyProof.Rows L2 ZX DL RT DP LT
abbrev SS := List (List PyData)
def opn (sh : List Bool) : List Nat := (List.range sh.length).filter fun i => !(sh.getD i true)
def cnt (ss : SS) : List Int := ss.map fun xs => (xs.length : Int)
def landR (b : Br) (rs : List Int) (ss : SS) (sh : List Bool) : Option Nat := (landM b ((opn sh).map fun i => rs.getD i 0) ((opn sh).map fun i => (cnt ss).getD i 0)).map fun k => (opn sh).getD k 0
end WK
namespace WK
open PySem PySem.Spec PyProof.Rows L2 ZX DL RT DP LT NB
theorem at_d {ds : List PyData} {k : Nat} (h : k < ds.length) : atI ds (k : Int) = some (ds.getD k .none) := by
  unfold atI
  rw [ixN_nat h]
  show ds[k]? = _
  rw [List.getD_eq_getElem?_getD, List.getElem?_eq_getElem h]
  rfl
structure RS where
  ss : SS
  hl : List PyData
  hr : List PyData
def brS (b : Br) (x : PyData) (rs : List Int) (sh : List Bool) (st : RS) : PyData × RS :=
  match landR b rs st.ss sh with
  | none => (.none, if b.1 = true then ⟨st.ss, st.hl, st.hr ++ [if b.2 = true then x else .none]⟩ else ⟨st.ss, st.hl ++ [if b.2 = true then x else .none], st.hr⟩)
  | some m => if b.2 = true then (.int (m : Nat), ⟨st.ss.set m (if b.1 = true then x :: st.ss.getD m [] else st.ss.getD m [] ++ [x]), st.hl, st.hr⟩)
    else ((if b.1 = true then (st.ss.getD m []).getD 0 .none else (st.ss.getD m []).getD ((st.ss.getD m []).length - 1) .none), ⟨st.ss.set m (if b.1 = true then (st.ss.getD m []).eraseIdx 0 else (st.ss.getD m []).dropLast), st.hl, st.hr⟩)
structure ROk (rs : List Int) (sh : List Bool) (st : RS) : Prop where
  f : Fit rs (cnt st.ss)
  h : sh.length = rs.length
  n : rs.length ≤ 1000
  r : ∀ x ∈ rs, x ≤ 50000
  l : st.hl.length ≤ 90000
  g : st.hr.length ≤ 90000
end WK
namespace WK
open PySem PySem.Spec PyProof.Rows L2 ZX DL RT DP LT NB
def st0 (rs : List Int) : RS := ⟨rs.map fun _ => [], [], []⟩
def sh0 (rs : List Int) : List Bool := rs.map fun _ => false
end WK
namespace WK
open PySem PySem.Spec PyProof.Rows L2 ZX DL RT DP LT NB
def IntP (x : PyData) : Prop := ∃ j : Nat, x = .int (j : Int)
def Ints (st : RS) : Prop := ∀ xs ∈ st.ss, ∀ x ∈ xs, IntP x
end WK
namespace WK
open PySem PySem.Spec PyProof.Rows L2 ZX DL RT DP LT NB
structure MSt where
  st : RS
  lk : List Key
  ld : List PyData
  tk : List Key
  td : List PyData
structure MOk (rs : List Int) (sh : List Bool) (n : Nat) (s : MSt) : Prop where
  f : Fit rs (cnt s.st.ss)
  l : s.st.hl.length ≤ n
  g : s.st.hr.length ≤ n
  i : Ints s.st
  k : s.lk.length = s.ld.length
  lt : ∀ x ∈ s.lk, ∃ j : Nat, x = .inl (j : Int) ∧ j < n
  nd : s.lk.Nodup
  le : s.lk.length ≤ n
  t : s.tk.length = s.td.length
  tl : s.tk.length ≤ n
end WK
namespace WK
open PySem PySem.Spec PyProof.Rows L2 ZX DL RT DP LT NB
abbrev R3 := Nat × Option Nat × Option Nat
def asN : PyData → Option Nat
  | .int j => some j.toNat
  | _ => none
structure NSt where
  st : RS
  rw : List R3
def tkn (j n : Nat) (r : R3) : R3 := if r.1 = j then (r.1, r.2.1, some n) else r
def nStep (rs : List Int) (sh : List Bool) (n : Nat) (b : Br) (s : NSt) : NSt :=
  if b.2 = true then ⟨(brS b (.int (n : Int)) rs sh s.st).2, s.rw ++ [(n, asN (brS b (.int (n : Int)) rs sh s.st).1, none)]⟩
  else match asN (brS b (.int (n : Int)) rs sh s.st).1 with
    | some j => ⟨(brS b (.int (n : Int)) rs sh s.st).2, s.rw.map (tkn j n)⟩
    | none => ⟨(brS b (.int (n : Int)) rs sh s.st).2, s.rw⟩
def ns0 (rs : List Int) : NSt := ⟨st0 rs, []⟩
structure MN (m : MSt) (s : NSt) : Prop where
  st : m.st = s.st
  lk : m.lk = s.rw.map fun r => .inl (r.1 : Int)
  ld : m.ld = s.rw.map fun r => optD r.2.1
  t : m.tk.length = m.td.length
  g : ∀ r ∈ s.rw, getK m.tk m.td (.inl (r.1 : Int)) = r.2.2.map fun k => .int (k : Int)
  f : ∀ k ∈ m.tk, ∃ j : Nat, k = .inl (j : Int) ∧ ∃ r ∈ s.rw, r.1 = j
structure NOk (rs : List Int) (n : Nat) (s : NSt) : Prop where
  f : Fit rs (cnt s.st.ss)
  i : Ints s.st
  nd : (s.rw.map (·.1)).Nodup
  lt : ∀ r ∈ s.rw, r.1 < n
  lie : ∀ (m j : Nat), .int (j : Int) ∈ s.st.ss.getD m [] → (j, some m, none) ∈ s.rw
  dist : ∀ m : Nat, (s.st.ss.getD m []).Nodup
  back : ∀ j m : Nat, (j, some m, none) ∈ s.rw → .int (j : Int) ∈ s.st.ss.getD m []
  hrd : ∀ j t, (j, none, t) ∈ s.rw → t = none
  tak : ∀ j m t, (j, some m, some t) ∈ s.rw → j < t ∧ t < n
end WK
namespace WK
open PySem PySem.Spec PyProof.Rows L2 ZX DL RT DP LT NB
inductive BrC (b : Br) (x : PyData) (rs : List Int) (sh : List Bool) (st : RS) : Prop
  | hd (h : landR b rs st.ss sh = none) (t : (brS b x rs sh st).1 = .none) (s : (brS b x rs sh st).2.ss = st.ss) : BrC b x rs sh st
  | inn (m : Nat) (h : landR b rs st.ss sh = some m) (hm : m < st.ss.length) (hb : b.2 = true) (t : (brS b x rs sh st).1 = .int (m : Int)) (ys : List PyData) (s : (brS b x rs sh st).2.ss = st.ss.set m ys) (mem : ∀ z, z ∈ ys ↔ z = x ∨ z ∈ st.ss.getD m []) (nd : (st.ss.getD m []).Nodup → x ∉ st.ss.getD m [] → ys.Nodup) : BrC b x rs sh st
  | out (m : Nat) (h : landR b rs st.ss sh = some m) (hm : m < st.ss.length) (hb : b.2 = false) (y : PyData) (t : (brS b x rs sh st).1 = y) (hy : y ∈ st.ss.getD m []) (ys : List PyData) (s : (brS b x rs sh st).2.ss = st.ss.set m ys) (nd : (st.ss.getD m []).Nodup → ys.Nodup ∧ ∀ z, z ∈ ys ↔ z ∈ st.ss.getD m [] ∧ z ≠ y) : BrC b x rs sh st
end WK
namespace WK
open PySem PySem.Spec PyProof.Rows L2 ZX DL RT DP LT NB
def nAt (rs : List Int) (sh : List Bool) (B : List Br) : Nat → NSt
  | 0 => ns0 rs
  | k + 1 => nStep rs sh k (B.getD k (true, true)) (nAt rs sh B k)
def rows (rs : List Int) (B : List Br) : List R3 := (nAt rs (sh0 rs) B B.length).rw
end WK
namespace WK
open PySem PySem.Spec PyProof.Rows L2 ZX DL RT DP LT NB
end WK
namespace K31
open PySem PySem.Spec PyProof.Rows L2 ZX DL RT DP GG
def topS (i : Nat) : Stmt := PySem.Challenge.pw_breathrows_k31_words_that_make_all_one.main.body.getD i (.Pass ⟨0, 0, 0, 0⟩)
abbrev s_bare : Stmt := topS 1
abbrev N_bare : List Str := ["rooms"]
theorem c_bare : FnScope N_bare ["rooms"] (defScope s_bare) := ⟨rfl, rfl, rfl, by decide +kernel, rfl, by decide +kernel, by decide +kernel⟩
abbrev s_full : Stmt := topS 2
abbrev N_full : List Str := ["rooms"]
theorem c_full : FnScope N_full ["rooms"] (defScope s_full) := ⟨rfl, rfl, rfl, by decide +kernel, rfl, by decide +kernel, by decide +kernel⟩
abbrev s_reached : Stmt := topS 6
abbrev N_reached : List Str := ["rooms", "breath", "bellows"]
theorem c_reached : FnScope N_reached ["rooms", "breath"] (defScope s_reached) := ⟨rfl, rfl, rfl, by decide +kernel, rfl, by decide +kernel, by decide +kernel⟩
abbrev s_run_done : Stmt := topS 7
abbrev N_run_done : List Str := ["rooms", "standing", "breath", "many", "lying", "comes_in", "rest", "at", "landed"]
theorem c_run_done : FnScope N_run_done ["rooms", "standing", "breath", "many"] (defScope s_run_done) := ⟨rfl, rfl, rfl, by decide +kernel, rfl, by decide +kernel, by decide +kernel⟩
abbrev s_word_done : Stmt := topS 8
abbrev N_word_done : List Str := ["rooms", "standing", "word", "lying", "counts", "breath", "many", "rest"]
theorem c_word_done : FnScope N_word_done ["rooms", "standing", "word"] (defScope s_word_done) := ⟨rfl, rfl, rfl, by decide +kernel, rfl, by decide +kernel, by decide +kernel⟩
abbrev s_breathed : Stmt := topS 9
abbrev N_breathed : List Str := ["rooms", "standing", "word", "lying", "counts"]
theorem c_breathed : FnScope N_breathed ["rooms", "standing", "word"] (defScope s_breathed) := ⟨rfl, rfl, rfl, by decide +kernel, rfl, by decide +kernel, by decide +kernel⟩
abbrev s_made_one : Stmt := topS 11
abbrev N_made_one : List Str := ["rooms", "word", "behind"]
theorem c_made_one : FnScope N_made_one ["rooms", "word"] (defScope s_made_one) := ⟨rfl, rfl, rfl, by decide +kernel, rfl, by decide +kernel, by decide +kernel⟩
abbrev s_L_box : Stmt := topS 13
abbrev N_L_box : List Str := ["_law_script", "_law_k", "_law_cell"]
theorem c_L_box : FnScope N_L_box ["_law_script", "_law_k"] (defScope s_L_box) := ⟨rfl, rfl, rfl, by decide +kernel, rfl, by decide +kernel, by decide +kernel⟩
abbrev s_L_take : Stmt := topS 14
abbrev N_L_take : List Str := ["_law_box_here", "_law_below", "_law_found", "_law_once"]
theorem c_L_take : FnScope N_L_take ["_law_box_here", "_law_below"] (defScope s_L_take) := ⟨rfl, rfl, rfl, by decide +kernel, rfl, by decide +kernel, by decide +kernel⟩
abbrev s_L_same : Stmt := topS 15
abbrev N_L_same : List Str := ["_law_found", "_law_due", "_law_mine", "_law_its"]
theorem c_L_same : FnScope N_L_same ["_law_found", "_law_due"] (defScope s_L_same) := ⟨rfl, rfl, rfl, by decide +kernel, rfl, by decide +kernel, by decide +kernel⟩
abbrev s_L_sizes : Stmt := topS 16
abbrev N_L_sizes : List Str := ["_law_box_here", "_law_most", "_law_high", "_law_k"]
theorem c_L_sizes : FnScope N_L_sizes ["_law_box_here", "_law_most", "_law_high"] (defScope s_L_sizes) := ⟨rfl, rfl, rfl, by decide +kernel, rfl, by decide +kernel, by decide +kernel⟩
abbrev s_L_spot : Stmt := topS 17
abbrev N_L_spot : List Str := ["_law_sizes_here", "_law_lot", "_law_breath", "_law_spots", "_law_spot_here"]
theorem c_L_spot : FnScope N_L_spot ["_law_sizes_here", "_law_lot", "_law_breath"] (defScope s_L_spot) := ⟨rfl, rfl, rfl, by decide +kernel, rfl, by decide +kernel, by decide +kernel⟩
abbrev s_L_breathed : Stmt := topS 18
abbrev N_L_breathed : List Str := ["_law_sizes_here", "_law_lot", "_law_breath", "_law_spot_here", "_law_here"]
theorem c_L_breathed : FnScope N_L_breathed ["_law_sizes_here", "_law_lot", "_law_breath"] (defScope s_L_breathed) := ⟨rfl, rfl, rfl, by decide +kernel, rfl, by decide +kernel, by decide +kernel⟩
abbrev s_L_runs : Stmt := topS 19
abbrev N_L_runs : List Str := ["_law_box_here", "_law_most", "_law_high", "_law_found", "_law_k"]
theorem c_L_runs : FnScope N_L_runs ["_law_box_here", "_law_most", "_law_high"] (defScope s_L_runs) := ⟨rfl, rfl, rfl, by decide +kernel, rfl, by decide +kernel, by decide +kernel⟩
abbrev s_L_gone : Stmt := topS 20
abbrev N_L_gone : List Str := ["_law_sizes_here", "_law_lot", "_law_runs_here", "_law_breath", "_law_often", "_law_turn"]
theorem c_L_gone : FnScope N_L_gone ["_law_sizes_here", "_law_lot", "_law_runs_here"] (defScope s_L_gone) := ⟨rfl, rfl, rfl, by decide +kernel, rfl, by decide +kernel, by decide +kernel⟩
abbrev s_L_all : Stmt := topS 21
abbrev N_L_all : List Str := ["_law_sizes_here", "_law_found", "_law_size", "_law_longer", "_law_lot", "_law_here"]
theorem c_L_all : FnScope N_L_all ["_law_sizes_here"] (defScope s_L_all) := ⟨rfl, rfl, rfl, by decide +kernel, rfl, by decide +kernel, by decide +kernel⟩
abbrev s_L_wide : Stmt := topS 22
abbrev N_L_wide : List Str := ["_law_box_here", "_law_sizes_here", "_law_runs_here", "_law_way", "_law_at", "_law_run"]
theorem c_L_wide : FnScope N_L_wide ["_law_box_here", "_law_sizes_here", "_law_runs_here"] (defScope s_L_wide) := ⟨rfl, rfl, rfl, by decide +kernel, rfl, by decide +kernel, by decide +kernel⟩
abbrev s_L_right : Stmt := topS 23
abbrev N_L_right : List Str := ["_law_box_here", "_law_turn", "_law_sizes_here", "_law_runs_here", "_law_ends", "_law_due", "_law_told", "_law_lot"]
theorem c_L_right : FnScope N_L_right ["_law_box_here"] (defScope s_L_right) := ⟨rfl, rfl, rfl, by decide +kernel, rfl, by decide +kernel, by decide +kernel⟩
abbrev s_law : Stmt := topS 24
abbrev N_law : List Str := ["_law_script", "_law_k"]
theorem c_law : FnScope N_law ["_law_script"] (defScope s_law) := ⟨rfl, rfl, rfl, by decide +kernel, rfl, by decide +kernel, by decide +kernel⟩
structure Bi (mg : Str → Option Value) : Prop where
  n_len : mg "len" = none
  n_isinstance : mg "isinstance" = none
  n_all : mg "all" = none
  n_any : mg "any" = none
  n_zip : mg "zip" = none
  n_range : mg "range" = none
  n_min : mg "min" = none
  n_max : mg "max" = none
  n_abs : mg "abs" = none
  n_int : mg "int" = none
  n_bool : mg "bool" = none
  n_str : mg "str" = none
  n_list : mg "list" = none
  n_tuple : mg "tuple" = none
  n_sum : mg "sum" = none
  n_enumerate : mg "enumerate" = none
  n_reversed : mg "reversed" = none
  n_divmod : mg "divmod" = none
  n_dict : mg "dict" = none
  n_set : mg "set" = none
def da_ (z0 zt0 : Addr) : Nat → Option Addr
  | 0 => some z0
  | 10 => some zt0
  | _ => none
structure Dcs (K : PySem.W.Frag) (w : World) (mg : Str → Option Value) (z0 zt0 : Addr) : Prop where
  hD : HD K w (da_ z0 zt0)
  g0 : mg "HEARD_AT" = some (.ref z0)
  t0 : mg "INS" = some (.ref zt0)
section
variable {P : Program} {w : World} {K : PySem.W.Frag} {mg : Str → Option Value} {base : Heap} {f : Addr} {fd : FuncData} {z0 zt0 : Addr}
theorem ok_take (B : Bi mg) (F : Fun K "_law_take" "_law_take" s_L_take f fd) : FnOk P w K mg base CX0 1 f fd ["_law_box_here", "_law_below"] (spB K Rtake) := by
  refine F.ok c_L_take (fun vs H Q E h => ?_) (fun cdv A outer s H vs Q E hr h => ?_)
  · obtain ⟨b, vs', G, ds, r, c, Φ, rfl, dd, _, ⟨m, rfl, _⟩, _⟩ := h
    rw [List.length_cons, dd.len]
    rfl
  · obtain ⟨b, vs', G, ds, r, c, Φ, rfl, dd, hw, ⟨m, rfl, m1, m2, rfl, rfl⟩, q⟩ := h
    cases dd with
    | cons d0 dn =>
    cases dn
    cases d0
    obtain ⟨c0, c1, c2, hb, p0, p1, p2, p3, p4⟩ := hw.inv
    have nG : G b = none := hw.no b rfl
    have fin : ∀ (d0 d2 i : Int), 0 ≤ d0 → 0 ≤ d2 → d2 + r ≤ 2 ^ 40 → 0 ≤ i → i < m → Q (.int i) (upd H b (.lst [.int d0, .int c1, .int d2])) := fun d0 d2 i a1 a2 a3 a4 a5 => by
      refine q _ (.int i) G _ ⟨fun _ _ e => e, fun a o e => ?_, fun _ _ _ => rfl, fun a o e n => ?_, fun a o e => ?_⟩ ⟨fun a o e => ?_, hw.no, ⟨d0, c1, d2, upd_same, a1, p1, p2, a2, a3⟩⟩ (.int i) ⟨i, rfl, a4, a5⟩
      · rw [upd_ne (ne_of_none e nG)]
        exact hw.sub a o e
      · rw [upd_ne n]
        exact e
      · by_cases ea : a = b
        · exact ⟨_, by rw [ea]; exact upd_same⟩
        · exact ⟨o, by rw [upd_ne ea]; exact e⟩
      · rw [upd_ne (ne_of_none e nG)]
        exact hw.sub a o e
    refine ⟨_, (pss_cons (ps_if (pt_cmpR op_gt (pe_ix ix_list (pv 0) pe_int (fun _ _ => rfl)) pe_int (nomark _)) (pss_cons (ps_set (i := 2) c_L_take.nd rfl (.inl rfl) (pe_op op_modN (pe_ix ix_list (pv 0) pe_int (fun _ _ => rfl)) (pv 1)))
      (pss_cons (ps_asg (pe_op op_fdivW (pe_ix ix_list (pv 0) pe_int (fun _ _ => rfl)) (pv 1)) (pg_sub (pv 0) pe_int set_list))
      (pss_one (ps_ret (pv 2))))) pss_nil)
      (pss_cons (ps_asg (pe_op op_add (pe_ix ix_list (pv 0) pe_int (fun _ _ => rfl)) pe_int) (pg_sub (pv 0) pe_int set_list))
      (pss_cons (ps_set (i := 3) c_L_take.nd rfl (.inl rfl) (pe_op op_modN (pe_op op_pow (pe_op op_add (pe_ix ix_list (pv 0) pe_int (fun _ _ => rfl)) (pe_op op_mul pe_int (pe_ix ix_list (pv 0) pe_int (fun _ _ => rfl)))) pe_int) pe_int))
      (pss_one (ps_ret (pe_op op_modN (pe_op op_fdivW (pe_op op_modN (pe_op op_add (pe_op op_mul (pv 3) (pe_op op_add (pe_op op_modN (pv 3) pe_int) pe_int)) (pe_op op_mul (pe_ix ix_list (pv 0) pe_int (fun _ _ => rfl)) pe_int)) pe_int) pe_int) (pv 1))))))), ?_⟩
    have hS : SqL K H b [.int c0, .int c1, .int c2] := .inl (.inl hb)
    refine ⟨.ref b, rfl, b, _, 0, .int c0, rfl, rfl, hS, rfl, c0, 0, rfl, rfl, _, rfl, ite2 (fun e => ?_) (fun e => ?_)⟩
    · have e0 : 0 < c0 := of_decide_eq_true e
      refine ⟨.ref b, rfl, b, _, 0, .int c0, rfl, rfl, hS, rfl, .int m, rfl, c0, m, rfl, rfl, by omega, ?_⟩
      refine ⟨.ref b, rfl, b, _, 0, .int c0, rfl, rfl, hS, rfl, .int m, rfl, c0, m, rfl, rfl, wide_div (b := 42) (by omega) (by omega) (by omega) (by omega), ?_⟩
      refine ⟨.ref b, rfl, b, _, 0, 0, rfl, rfl, hb, rfl, ?_⟩
      refine ⟨.int (c0.fmod m), rfl, ?_⟩
      refine fin (c0 / m) c2 (c0.fmod m) (Int.ediv_nonneg p0 (by omega)) p3 (by omega) ?_ ?_
      · rw [Int.fmod_eq_emod_of_nonneg _ (by omega)]
        exact Int.emod_nonneg _ (by omega)
      · rw [Int.fmod_eq_emod_of_nonneg _ (by omega)]
        exact Int.emod_lt_of_pos _ (by omega)
    · refine ⟨.ref b, rfl, b, _, 2, .int c2, rfl, rfl, hS, rfl, c2, 1, rfl, rfl, ?_⟩
      refine ⟨.ref b, rfl, b, _, 2, 2, rfl, rfl, hb, rfl, ?_⟩
      have hS2 : SqL K (upd H b (.lst [.int c0, .int c1, .int (c2 + 1)])) b [.int c0, .int c1, .int (c2 + 1)] := .inl (.inl upd_same)
      refine ⟨.ref b, rfl, b, _, 1, .int c1, rfl, rfl, hS2, rfl, .ref b, rfl, b, _, 2, .int (c2 + 1), rfl, rfl, hS2, rfl, 48271, c2 + 1, rfl, rfl, .inl ⟨by decide, by decide⟩, c1, 48271 * (c2 + 1), rfl, rfl, _, 5, rfl, rfl, ⟨by decide, by decide, ?_⟩, _, 2147483647, rfl, rfl, (show (2147483647 : Int) ≠ 0 by decide), ?_⟩
      · omega
      obtain ⟨z, hz⟩ : ∃ z, ((c1 + 48271 * (c2 + 1)) ^ (Int.toNat 5)).fmod 2147483647 = z := ⟨_, rfl⟩
      have z0 : 0 ≤ z := by
        rw [← hz, Int.fmod_eq_emod_of_nonneg _ (by decide)]
        exact Int.emod_nonneg _ (by decide)
      have z1 : z < 2147483647 := by
        rw [← hz, Int.fmod_eq_emod_of_nonneg _ (by decide)]
        exact Int.emod_lt_of_pos _ (by decide)
      refine ⟨.int z, by rw [← hz]; rfl, .int z, by rw [← hz]; rfl, z, 30011, rfl, rfl, (show (30011 : Int) ≠ 0 by decide), _, 7, rfl, rfl, z, _, rfl, rfl, .inl ⟨by omega, by omega⟩, .ref b, rfl, b, _, 2, .int (c2 + 1), rfl, rfl, hS2, rfl, c2 + 1, 7919, rfl, rfl, .inr ⟨by decide, by decide⟩, _, _, rfl, rfl, _, 2147483629, rfl, rfl, (show (2147483629 : Int) ≠ 0 by decide), _, 64, rfl, rfl, wide_div (b := 7) (by decide) (by decide) (by decide) (by decide), .int m, rfl, _, m, rfl, rfl, by omega, ?_⟩
      refine fin c0 (c2 + 1) _ p0 (by omega) (by omega) ?_ ?_
      · rw [Int.fmod_eq_emod_of_nonneg _ (by omega : 0 ≤ m)]
        exact Int.emod_nonneg _ (by omega)
      · rw [Int.fmod_eq_emod_of_nonneg _ (by omega : 0 ≤ m)]
        exact Int.emod_lt_of_pos _ (by omega)
theorem zip_same {xs : List PyData} {j : Nat} {d : PyData} (h : (zipD xs xs)[j]? = some d) : ∃ e, d = .tuple [e, e] ∧ e ∈ xs := by
  unfold zipD at h
  rw [List.getElem?_zipWith] at h
  cases h1 : xs[j]? with
  | none =>
    rw [h1] at h
    cases h
  | some e =>
    rw [h1] at h
    exact ⟨e, (Option.some.inj h).symm, List.mem_of_getElem? h1⟩
structure Cs (P : Program) (w : World) (K : PySem.W.Frag) (mg : Str → Option Value) (base : Heap) (n : Nat) : Prop where
  L_same : Cl P w K mg base n "_law_same" s_L_same ["_law_found", "_law_due"] (spP K (RsameN n))
theorem e_lenS {S : MS} {δ : List SD} {te : TE} {d : PyData} {l : List PyData} (h : Dt K S te δ (.dat d)) (hs : IsSeq d l) : Dt K S (tCB (fun xs H Q => ∃ p ys, xs = [.ref p] ∧ (SqL K H p ys ∨ SqT K H p ys) ∧ Q (.int ys.length) H) (tCons te tNil)) δ (.i l.length) := by
  rcases hs with rfl | rfl
  · exact d_cb (da_cons h a_nil) rc_lenL
  · exact d_cb (da_cons h a_nil) rc_lenT
theorem ok_same_step (B : Bi mg) {n : Nat} (C : Cs P w K mg base n) (F : Fun K "_law_same" "_law_same" s_L_same f fd) : FnOk P w K mg base CX0 (n + 1) f fd ["_law_found", "_law_due"] (spP K (RsameN (n + 1))) := by
  refine fn_pure F c_L_same (fun ds d ⟨x, e, _⟩ => by rw [e]; rfl) fun cdv A outer s H E hr => ⟨_, (pss_cons (ps_if (pt_val (pe_callB DX.call_isiTY (by rfl) B.n_isinstance (by decide +kernel) (pa_cons (pv 1) (pa_cons (pe_tup (pa_cons (pe_bltn (v := .ty "list") (by rfl) B.n_list (by decide +kernel) rfl) (pa_cons (pe_bltn (v := .ty "tuple") (by rfl) B.n_tuple (by decide +kernel) rfl) pa_nil))) pa_nil)))) (pss_cons (ps_if (PW.pt (pw_or (pt_cmpR op_ne (pe_callB DX.call_isiY (by rfl) B.n_isinstance (by decide +kernel) (pa_cons (pv 0) (pa_cons (pe_bltn (v := .ty "list") (by rfl) B.n_list (by decide +kernel) rfl) pa_nil))) (pe_callB DX.call_isiY (by rfl) B.n_isinstance (by decide +kernel) (pa_cons (pv 1) (pa_cons (pe_bltn (v := .ty "list") (by rfl) B.n_list (by decide +kernel) rfl) pa_nil))) (nomark _)) (pw_or1 (pt_cmpR op_ne (pe_callB DX.call_isiY (by rfl) B.n_isinstance (by decide +kernel) (pa_cons (pv 0) (pa_cons (pe_bltn (v := .ty "tuple") (by rfl) B.n_tuple (by decide +kernel) rfl) pa_nil))) (pe_callB DX.call_isiY (by rfl) B.n_isinstance (by decide +kernel) (pa_cons (pv 1) (pa_cons (pe_bltn (v := .ty "tuple") (by rfl) B.n_tuple (by decide +kernel) rfl) pa_nil))) (nomark _))))) (pss_one (ps_ret pe_bl)) pss_nil)
      (pss_one (ps_ret (pe_and (pe_cmpR op_eq (pe_callB call_len_seq (by rfl) B.n_len (by decide +kernel) (pa_cons (pv 0) pa_nil)) (pe_callB call_len_seq (by rfl) B.n_len (by decide +kernel) (pa_cons (pv 1) pa_nil)) (nomark _)) (pe_one (pe_callB (cr_all rfl) (by rfl) B.n_all (by decide +kernel) (pa_cons (pe_lc (own := [("_law_mine", 2), ("_law_its", 3)]) (g := gTup K 2 (gCons (gName 2) (gCons (gName 3) gNil))) (tt := tYes) rfl c_L_same.nd (pi_zipX (by rfl) B.n_zip (pa_cons (pv 0) (pa_cons (pv 1) pa_nil))) (blkOk_by (N := N_L_same) (sc := defScope s_L_same) (by decide +kernel)) (fun _ _ _ _ _ => (pg_tup rfl (pgs_cons (pg_name (i := 2) c_L_same.nd rfl (.inl rfl)) (pgs_cons (pg_name (i := 3) c_L_same.nd rfl (.inl rfl)) pgs_nil)))) (fun _ _ _ _ _ => pts_nil) (fun _ _ _ _ _ => (pe_cl C.L_same hr (Nat.le_refl _) (by rfl) (pa_cons (pv 2) (pa_cons (pv 3) pa_nil))))) pa_nil))))))) pss_nil)
      (pss_cons (ps_if (PW.pt (pw_or (pt_cmpR op_isN (pv 1) pe_non (nomark _)) (pw_or1 (pt_val (pe_callB DX.call_isiY (by rfl) B.n_isinstance (by decide +kernel) (pa_cons (pv 1) (pa_cons (pe_bltn (v := .ty "str") (by rfl) B.n_str (by decide +kernel) rfl) pa_nil))))))) (pss_one (ps_ret (pe_and (pe_cmpR (op_eqD hr.units) (pv 0) (pv 1) (nomark _)) (pe_one (pe_cmpR op_eq (pe_callB DX.call_isiY (by rfl) B.n_isinstance (by decide +kernel) (pa_cons (pv 0) (pa_cons (pe_bltn (v := .ty "str") (by rfl) B.n_str (by decide +kernel) rfl) pa_nil))) (pe_callB DX.call_isiY (by rfl) B.n_isinstance (by decide +kernel) (pa_cons (pv 1) (pa_cons (pe_bltn (v := .ty "str") (by rfl) B.n_str (by decide +kernel) rfl) pa_nil))) (nomark _)))))) pss_nil)
      (pss_one (ps_ret (pe_and (pe_callB DX.call_isiY (by rfl) B.n_isinstance (by decide +kernel) (pa_cons (pv 0) (pa_cons (pe_bltn (v := .ty "int") (by rfl) B.n_int (by decide +kernel) rfl) pa_nil))) (pe_and (pe_cmpR op_eq (pe_callB DX.call_isiY (by rfl) B.n_isinstance (by decide +kernel) (pa_cons (pv 0) (pa_cons (pe_bltn (v := .ty "bool") (by rfl) B.n_bool (by decide +kernel) rfl) pa_nil))) (pe_callB DX.call_isiY (by rfl) B.n_isinstance (by decide +kernel) (pa_cons (pv 1) (pa_cons (pe_bltn (v := .ty "bool") (by rfl) B.n_bool (by decide +kernel) rfl) pa_nil))) (nomark _)) (pe_one (pe_cmpR (op_eqD hr.units) (pv 0) (pv 1) (nomark _))))))))), ?_⟩
  rintro ds d ⟨x, rfl, hp, rfl⟩
  have seq : ∀ (m : Nat) (xs : List PyData), n = m + 1 → IsSeq x xs → xs.length ≤ 100000 → (∀ y ∈ xs, Pl m y) →
      Dt K pu (tCB (rAll K) (tCons (tLc (iZipX K (tCons (tVar 0) (tCons (tVar 1) tNil))) (gTup K 2 (gCons (gName 2) (gCons (gName 3) gNil))) tYes (tCall (spP K (RsameN n)) [] E0 (tCons (tVar 2) (tCons (tVar 3) tNil))) [2, 3]) tNil)) (startD N_L_same [x, x]) (.b true) := fun m xs em hs hl hy => by
    subst em
    refine (e_all (g := fun _ => true) (d_lc (δg := fun d => match d with | .tuple [a, b] => [.dat x, .dat x, .dat a, .dat b] | _ => []) (i_zip (da_cons (e_vd rfl) (da_cons (e_vd rfl) a_nil)) hs hs) (fun j d hd => ?_) (fun j d hd => ?_) ?_)).mono fun s e => ?_
    · obtain ⟨e, rfl, _⟩ := zip_same hd
      exact tg_pair
    · obtain ⟨e, rfl, he⟩ := zip_same hd
      exact d_call (ds := [e, e]) (da_cons (e_vd rfl) (da_cons (e_vd rfl) a_nil)) ⟨e, rfl, hy e he, rfl⟩
    · unfold zipD
      rw [List.length_zipWith]
      omega
    · rw [e]
      simp
  have isq : isL x = true ∨ isT x = true → ∃ (m : Nat) (xs : List PyData), n = m + 1 ∧ IsSeq x xs ∧ xs.length ≤ 100000 ∧ ∀ y ∈ xs, Pl m y := fun h => by
    cases n with
    | zero => cases x <;> first | exact hp.elim | (rcases h with h | h <;> cases h)
    | succ m =>
      cases x with
      | list xs => exact ⟨m, xs, rfl, .inl rfl, hp.1, hp.2⟩
      | tuple xs => exact ⟨m, xs, rfl, .inr rfl, hp.1, hp.2⟩
      | none => rcases h with h | h <;> cases h
      | bool b => rcases h with h | h <;> cases h
      | int b => rcases h with h | h <;> cases h
      | str b => rcases h with h | h <;> cases h
      | dict b => rcases h with h | h <;> cases h
  have shp : isL x = false → isT x = false → SeqAt.shaped x = true := fun h1 h2 => by
    cases x with
    | none => rfl
    | bool b => rfl
    | int b => rfl
    | str b =>
      have hq : PyData.strOk b = true := by
        cases n <;> exact hp
      show (PyData.strOk b && true) = true
      rw [hq]
      rfl
    | list l => cases h1
    | tuple l => cases h2
    | dict l => cases n <;> exact hp.elim
  refine s_if0 (c := isL x || isT x) (t_val (e_isiT (e_vd rfl) (kb_list _) (kb_tup _))) (fun h => s_end ?_) (fun h => ?_)
  · obtain ⟨m, xs, em, hs, hl, hy⟩ := isq (by simpa using h)
    refine s_if0 (c := false) ((t_or (t_test (d_op (e_isi (e_vd rfl) (kb_list _)) (e_isi (e_vd rfl) (kb_list _)) rv_neB)) fun _ => t_test (d_op (e_isi (e_vd rfl) (kb_tup _)) (e_isi (e_vd rfl) (kb_tup _)) rv_neB)).mono fun c h => by rw [h]; simp) (fun h => nomatch h) fun _ => ?_
    exact s_ret ((e_andV (d_op (e_lenS (e_vd rfl) hs) (e_lenS (e_vd rfl) hs) rv_eqI) fun _ => seq m xs em hs hl hy).mono fun s e => by
      rw [e]
      simp)
  · have hL : isL x = false := by
      cases hq : isL x with
      | false => rfl
      | true =>
        rw [hq] at h
        cases h
    have hT : isT x = false := by
      cases hq : isT x with
      | false => rfl
      | true =>
        rw [hq, hL] at h
        cases h
    have hsh := shp hL hT
    have hev : PyData.eqv x x = true := SeqAt.eqv_refl x (SeqAt.canLay_of_shaped hsh)
    refine s_if0 (t_or (t_test (d_op (e_vd rfl) e_non (rv_isN (s := .unk)))) fun _ => t_val (e_isi (e_vd rfl) (kb_str _))) (fun _ => s_retSeq ?_) (fun h2 => s_ret ?_)
    · exact (e_andV (d_op (e_vd rfl) (e_vd rfl) (rv_eqD hsh hsh)) fun _ => d_op (e_isi (e_vd rfl) (kb_str _)) (e_isi (e_vd rfl) (kb_str _)) rv_eqB).mono fun s e => by
        rw [e, hev]
        simp
    · refine (e_andV (e_isi (e_vd rfl) (kb_int _)) fun _ => e_andV (d_op (e_isi (e_vd rfl) (kb_bool _)) (e_isi (e_vd rfl) (kb_bool _)) rv_eqB) fun _ => d_op (e_vd rfl) (e_vd rfl) (rv_eqD hsh hsh)).mono fun s e => ?_
      rw [e, hev]
      cases x with
      | int b => rfl
      | bool b => simp [isI, isB]
      | none => cases h2
      | str b => cases h2
      | list b => cases hL
      | tuple b => cases hT
      | dict b => cases n <;> exact hp.elim
theorem cl_same (B : Bi mg) (F : Fun K "_law_same" "_law_same" s_L_same f fd) (hm : mg "_law_same" = some (.ref f)) (b : Binds K fd ["_law_found", "_law_due"] []) : ∀ n, Cs P w K mg base n
  | 0 => ⟨⟨f, fd, F, ⟨fun vs H Q E ⟨_, _, _, _, _, h, _⟩ => h.elim, fun _ _ _ _ _ _ _ _ _ _ _ _ _ ⟨_, _, _, _, _, h, _⟩ => h.elim⟩, hm, b⟩⟩
  | n + 1 => ⟨⟨f, fd, F, ok_same_step B (cl_same B F hm b n) F, hm, b⟩⟩
end
def kp_made_one_0_word_rooms : KP where
  n := 0
  m := 2
  gV := fun vs us => match vs, us with
    | [], [b0, b1] => [b1, b0]
    | _, _ => []
  gD := fun vs us => match vs, us with
    | [], [b0, b1] => [b1, b0]
    | _, _ => []
  ok := fun K G vs us ds es h1 h2 l1 l2 => by
    match ds, es, l1, l2 with
    | [], [b0, b1], _, _ =>
      cases h1
      cases h2 with
      | cons q0 h2 =>
        cases h2 with
        | cons q1 h2 =>
          cases h2
          exact (.cons q1 (.cons q0 .nil))
theorem kpv_made_one_0_word_rooms {vs zs : List V} {us ws : List Value} (h1 : Vals vs us) (h2 : Vals zs ws) : Vals (kp_made_one_0_word_rooms.gV vs zs) ((fun (vs us : List Value) => match vs, us with
    | [], [b0, b1] => [b1, b0]
    | _, _ => []) us ws) := by
  cases h1 with
  | cons _ _ => first | exact .nil | (cases h2 <;> exact .nil)
  | nil =>
    cases h2 with
    | nil => exact .nil
    | cons q0 h2 =>
      cases h2 with
      | nil => exact .nil
      | cons q1 h2 =>
        cases h2 with
        | cons _ _ => exact .nil
        | nil => exact (.cons q1 (.cons q0 .nil))
theorem kb_made_one_0_word_rooms {K : PySem.W.Frag} : ∀ f fd, Fun K "made_one" "made_one" s_made_one f fd → KBn K fd ["rooms", "word"] 0 ["word", "rooms"] (fun vs us => match vs, us with
    | [], [b0, b1] => [b1, b0]
    | _, _ => []) kp_made_one_0_word_rooms.gV := fun f fd F => kb_of F (fun _ _ _ _ _ _ us ws l1 l2 => by
    match us, ws, l1, l2 with
    | [], [_, _], _, _ => rfl) fun {vs us zs ws} h1 h2 => by
    exact kpv_made_one_0_word_rooms h1 h2
noncomputable def a_made_one : S :=
  (.seq (.asg (.nm 2) (.call sem_breathed (.cons (.var 0) (.cons (.call sem_bare (.cons (.var 0) .nil)) (.cons (.var 1) .nil)))))
    (.seq (.cond (.tru tB' (.op oEqD (.call sem_breathed (.cons (.var 0) (.cons (.call sem_full (.cons (.var 0) .nil)) (.cons (.var 1) .nil)))) (.var 2))) (.ret (.var 2)) .next)
    (.ret cN)))
noncomputable def sem_made_one : Fs := run 3 2 a_made_one
noncomputable def a_L_wide : S :=
  (.seq (.par 3 4 (.cons (.callB takeF 0 (.cons (cI 3) .nil)) (.cons (.callB takeF 0 (.cons (.op oAdd (.cb bLen (.cons (.var 2) .nil)) (cI 1)) .nil)) .nil)))
    (.seq (.asg (.nm 5) (.tup (.cons (.op oIxL (.lst (.cons (cS "L+") (.cons (cS "L-") (.cons (cS "R+") (.cons (cS "R-") .nil))))) (.callB takeF 0 (.cons (cI 4) .nil))) (.cons (.cb bMax (.cons (cI 1) (.cons (.op oSub (.cb bSum (.cons (.var 1) .nil)) (.callB takeF 0 (.cons (cI 2) .nil))) .nil))) .nil))))
    (.ret (.ite (.tru tB' (.op oEq (.var 3) (cI 0))) (.var 2) (.op oCatL (.op oCatL (.sl sLst (.var 2) .no (.at (.var 4))) (.lst (.cons (.var 5) .nil))) (.sl sLst (.var 2) (.at (.var 4)) .no))))))
noncomputable def sem_L_wide : Fs := runB 6 3 a_L_wide
noncomputable def x_L_right_1 : E :=
  (.call sem_L_gone (.cons (.var 2) (.cons (.var 7) (.cons (.var 3) .nil))))
noncomputable def t_L_right_1 : S :=
  (.seq (.asg (.nm 4) (.lc (.one wSeq (.call sem_L_all (.cons (.var 2) .nil))) (.nm 7) [7] qY x_L_right_1))
    (.seq (.asg (.nm 5) (.ite (.tru tB' (.op oEq (.un uLenSet (.var 4)) (cI 1))) (.op oIxL (.var 4) (cI 0)) cN))
    (.seq (.asg (.nm 6) (.lst (.cons (.call sem_made_one (.cons (.var 2) (.cons (.var 3) .nil))) (.cons (.callN sem_made_one kp_made_one_0_word_rooms .nil (.cons (.cb bTup (.cons (.var 3) .nil)) (.cons (.cb bList (.cons (.var 2) .nil)) .nil))) .nil))))
    (.cond (.not (.tru tB' (.call sameF (.cons (.var 6) (.cons (.lst (.cons (.var 5) (.cons (.var 5) .nil))) .nil))))) (.ret (cB false)) .next))))
noncomputable def b_L_right_1 : S :=
  (.seq (.asg (.nm 2) (.callB sem_L_sizes 0 (.cons (cI 3) (.cons (cI 3) .nil))))
    (.seq (.asg (.nm 3) (.callB sem_L_wide 0 (.cons (.var 2) (.cons (.callB sem_L_runs 0 (.cons (cI 5) (.cons (cI 3) .nil))) .nil))))
    t_L_right_1))
noncomputable def a_L_right : S :=
  (.seq (.loop (.many wRng (.cons (cI 4) .nil)) (.nm 1) b_L_right_1)
    (.ret (cB true)))
noncomputable def sem_L_right : Fs := runB 8 1 a_L_right
section
variable {P : Program} {w : World} {K : PySem.W.Frag} {mg : Str → Option Value} {base : Heap} {f : Addr} {fd : FuncData} {z0 zt0 : Addr}
theorem ok_bare (B : Bi mg) (Dc : Dcs K w mg z0 zt0)  (F : Fun K "bare" "bare" s_bare f fd) : FnOk P w K mg base CX0 1 f fd ["rooms"] (spF K sem_bare) :=
  fnP (N := N_bare) Dc.hD F c_bare (b := a_bare) fun cdv A outer s H E hr =>
    (pss_one (ps_ret (pe_op op_repZ (pe_tup (pa_cons pe_int pa_nil)) (pe_callB call_len_seq (by rfl) B.n_len (by decide +kernel) (pa_cons (pv 0) pa_nil)))))
theorem ok_full (B : Bi mg) (Dc : Dcs K w mg z0 zt0)  (F : Fun K "full" "full" s_full f fd) : FnOk P w K mg base CX0 1 f fd ["rooms"] (spF K sem_full) :=
  fnP (N := N_full) Dc.hD F c_full (b := a_full) fun cdv A outer s H E hr =>
    (pss_one (ps_ret (pe_callTy call_tuple_of (by rfl) B.n_tuple (by decide +kernel) (pa_cons (pv 0) pa_nil))))
theorem ok_reached (B : Bi mg) (Dc : Dcs K w mg z0 zt0)  (F : Fun K "reached" "reached" s_reached f fd) : FnOk P w K mg base CX0 1 f fd ["rooms", "breath"] (spF K sem_reached) :=
  fnP (N := N_reached) Dc.hD F c_reached (b := a_reached) fun cdv A outer s H E hr =>
    (pss_cons (ps_set (i := 2) c_reached.nd rfl (.inl rfl) (pe_listRg rfl (by rfl) B.n_list (prg_1 (by rfl) B.n_range (pe_callB call_len_seq (by rfl) B.n_len (by decide +kernel) (pa_cons (pv 0) pa_nil)))))
      (pss_cons (ps_if (pt_cmpR op_in_seq (pv 1) (pe_tup (pa_cons pe_str (pa_cons pe_str pa_nil))) (by with_unfolding_all rfl)) (pss_one (ps_ret (pv 2))) pss_nil)
      (pss_one (ps_ret (pe_revL (pv 2))))))
theorem ok_run_done (B : Bi mg) (Dc : Dcs K w mg z0 zt0) (c_reached_ : Cl P w K mg base 1 "reached" s_reached ["rooms", "breath"] (spF K sem_reached)) (F : Fun K "run_done" "run_done" s_run_done f fd) : FnOk P w K mg base CX0 2 f fd ["rooms", "standing", "breath", "many"] (spF K sem_run_done) :=
  fnP (N := N_run_done) Dc.hD F c_run_done (b := a_run_done) fun cdv A outer s H E hr =>
    (pss_cons (ps_set (i := 4) c_run_done.nd rfl (.inl rfl) (pe_callTy call_list_of (by rfl) B.n_list (by decide +kernel) (pa_cons (pv 1) pa_nil)))
      (pss_cons (ps_set (i := 5) c_run_done.nd rfl (.inl rfl) (pe_cmpR op_in_seq (pv 2) (pe_glob (v := .ref zt0) (by rfl) (Dc.t0) rfl) (by with_unfolding_all rfl)))
      (pss_cons (ps_set (i := 6) c_run_done.nd rfl (.inl rfl) (pv 3))
      (pss_cons (ps_for PassesOwn.never rfl (pi_seqX (pe_cl c_reached_ hr (by decide) (by rfl) (pa_cons (pv 0) (pa_cons (pv 2) pa_nil)))) (pg_name (i := 7) c_run_done.nd rfl (.inl rfl)) (pss_cons (ps_if (pt_cmpR op_eq (pv 6) pe_int (nomark _)) (pss_one ps_break) pss_nil)
      (pss_cons (ps_set (i := 8) c_run_done.nd rfl (.inl rfl) (pe_callB (call_min2 rfl) (by rfl) B.n_min (by decide +kernel) (pa_cons (pv 6) (pa_cons (pe_ifExp (pt_val (pv 5)) (pe_op op_sub (pe_ix ix_q (pv 0) (pv 7) (fun _ _ => rfl)) (pe_ix ix_list (pv 4) (pv 7) (fun _ _ => rfl))) (pe_ix ix_list (pv 4) (pv 7) (fun _ _ => rfl))) pa_nil))))
      (pss_cons (ps_augS (pv 4) (pv 7) get_list (pe_ifExp (pt_val (pv 5)) (pv 8) (pe_un un_neg (pv 8))) ip_add set_list)
      (pss_one (ps_aug (i := 6) c_run_done.nd rfl (.inl rfl) (pv 8) ip_sub))))))
      (pss_frz (pss_one (ps_ret (pe_tup (pa_cons (pv 4) (pa_cons (pv 6) pa_nil))))))))))
theorem ok_word_done (B : Bi mg) (Dc : Dcs K w mg z0 zt0) (c_run_done_ : Cl P w K mg base 2 "run_done" s_run_done ["rooms", "standing", "breath", "many"] (spF K sem_run_done)) (F : Fun K "word_done" "word_done" s_word_done f fd) : FnOk P w K mg base CX0 3 f fd ["rooms", "standing", "word"] (spF K sem_word_done) :=
  fnP (N := N_word_done) Dc.hD F c_word_done (b := a_word_done) fun cdv A outer s H E hr =>
    (pss_cons (ps_set (i := 3) c_word_done.nd rfl (.inl rfl) (pe_callTy call_list_of (by rfl) B.n_list (by decide +kernel) (pa_cons (pv 1) pa_nil)))
      (pss_cons (ps_set (i := 4) c_word_done.nd rfl (.inl rfl) (pe_lst (pa_cons pe_int (pa_cons pe_int (pa_cons pe_int (pa_cons pe_int pa_nil))))))
      (pss_cons (ps_for PassesOwn.never rfl (pi_seqX (pv 2)) (SS0.pg_seq rfl (pgs_cons (pg_name (i := 5) c_word_done.nd rfl (.inl rfl)) (pgs_cons (pg_name (i := 6) c_word_done.nd rfl (.inl rfl)) pgs_nil))) (pss_cons (ps_asg (pe_cl c_run_done_ hr (by decide) (by rfl) (pa_cons (pv 0) (pa_cons (pv 3) (pa_cons (pv 5) (pa_cons (pv 6) pa_nil))))) (SS0.pg_seq rfl (pgs_cons (pg_name (i := 3) c_word_done.nd rfl (.inl rfl)) (pgs_cons (pg_name (i := 7) c_word_done.nd rfl (.inl rfl)) pgs_nil))))
      (pss_one (ps_augS (pv 4) (pe_ix ix_kdict (pe_glob (v := .ref z0) (by rfl) (Dc.g0) rfl) (pv 5) (fun _ _ => rfl)) get_list (pv 7) ip_add set_list))))
      (pss_frz (pss_one (ps_ret (pe_tup (pa_cons (pe_callTy call_tuple_of (by rfl) B.n_tuple (by decide +kernel) (pa_cons (pv 3) pa_nil)) (pa_cons (pe_callTy call_tuple_of (by rfl) B.n_tuple (by decide +kernel) (pa_cons (pv 4) pa_nil)) pa_nil)))))))))
theorem ok_breathed (B : Bi mg) (Dc : Dcs K w mg z0 zt0) (c_word_done_ : Cl P w K mg base 3 "word_done" s_word_done ["rooms", "standing", "word"] (spF K sem_word_done)) (F : Fun K "breathed" "breathed" s_breathed f fd) : FnOk P w K mg base CX0 4 f fd ["rooms", "standing", "word"] (spF K sem_breathed) :=
  fnP (N := N_breathed) Dc.hD F c_breathed (b := a_breathed) fun cdv A outer s H E hr =>
    (pss_cons (ps_asg (pe_cl c_word_done_ hr (by decide) (by rfl) (pa_cons (pv 0) (pa_cons (pv 1) (pa_cons (pv 2) pa_nil)))) (SS0.pg_seq rfl (pgs_cons (pg_name (i := 3) c_breathed.nd rfl (.inl rfl)) (pgs_cons (pg_name (i := 4) c_breathed.nd rfl (.inl rfl)) pgs_nil))))
      (pss_one (ps_ret (pv 3))))
theorem ok_made_one (B : Bi mg) (Dc : Dcs K w mg z0 zt0) (c_bare_ : Cl P w K mg base 1 "bare" s_bare ["rooms"] (spF K sem_bare)) (c_full_ : Cl P w K mg base 1 "full" s_full ["rooms"] (spF K sem_full)) (c_breathed_ : Cl P w K mg base 4 "breathed" s_breathed ["rooms", "standing", "word"] (spF K sem_breathed)) (F : Fun K "made_one" "made_one" s_made_one f fd) : FnOk P w K mg base CX0 5 f fd ["rooms", "word"] (spF K sem_made_one) :=
  fnP (N := N_made_one) Dc.hD F c_made_one (b := a_made_one) fun cdv A outer s H E hr =>
    (pss_cons (ps_set (i := 2) c_made_one.nd rfl (.inl rfl) (pe_cl c_breathed_ hr (by decide) (by rfl) (pa_cons (pv 0) (pa_cons (pe_cl c_bare_ hr (by decide) (by rfl) (pa_cons (pv 0) pa_nil)) (pa_cons (pv 1) pa_nil)))))
      (pss_cons (ps_if (pt_cmpR (op_eqD hr.units) (pe_cl c_breathed_ hr (by decide) (by rfl) (pa_cons (pv 0) (pa_cons (pe_cl c_full_ hr (by decide) (by rfl) (pa_cons (pv 0) pa_nil)) (pa_cons (pv 1) pa_nil)))) (pv 2) (nomark _)) (pss_one (ps_ret (pv 2))) pss_nil)
      (pss_one (ps_ret pe_non))))
theorem ok_L_sizes (B : Bi mg) (Dc : Dcs K w mg z0 zt0) (c_L_take_ : Cl P w K mg base 1 "_law_take" s_L_take ["_law_box_here", "_law_below"] (spD K takeF)) (F : Fun K "_law_sizes" "_law_sizes" s_L_sizes f fd) : FnOk P w K mg base CX0 2 f fd ["_law_box_here", "_law_most", "_law_high"] (spD K sem_L_sizes) :=
  fnB (N := N_L_sizes) Dc.hD F c_L_sizes (b := a_L_sizes) fun cdv A outer s H E hr =>
    (pss_one (ps_ret (pe_callTy call_tuple_of (by rfl) B.n_tuple (by decide +kernel) (pa_cons (pe_lc (own := [("_law_k", 3)]) (g := gName 3) (tt := tYes) rfl c_L_sizes.nd (pi_range1 (by rfl) B.n_range (pa_cons (pe_op op_add pe_int (pe_cl c_L_take_ hr (by decide) (by rfl) (pa_cons (pv 0) (pa_cons (pv 1) pa_nil)))) pa_nil)) (blkOk_by (N := N_L_sizes) (sc := defScope s_L_sizes) (by decide +kernel)) (fun _ _ _ _ _ => (pg_name (i := 3) c_L_sizes.nd rfl (.inl rfl))) (fun _ _ _ _ _ => pts_nil) (fun _ _ _ _ _ => (pe_op op_add pe_int (pe_cl c_L_take_ hr (by decide) (by rfl) (pa_cons (pv 0) (pa_cons (pv 2) pa_nil)))))) pa_nil))))
theorem ok_L_spot (B : Bi mg) (Dc : Dcs K w mg z0 zt0)  (F : Fun K "_law_spot" "_law_spot" s_L_spot f fd) : FnOk P w K mg base CX0 1 f fd ["_law_sizes_here", "_law_lot", "_law_breath"] (spF K sem_L_spot) :=
  fnP (N := N_L_spot) Dc.hD F c_L_spot (b := a_L_spot) fun cdv A outer s H E hr =>
    (pss_cons (ps_set (i := 3) c_L_spot.nd rfl (.inl rfl) (pe_listRg rfl (by rfl) B.n_list (prg_1 (by rfl) B.n_range (pe_callB call_len_seq (by rfl) B.n_len (by decide +kernel) (pa_cons (pv 0) pa_nil)))))
      (pss_cons (ps_for PassesOwn.never rfl (pi_seqX (pe_ifExp (pt_cmpR op_eq (pe_ix ix_str (pv 2) pe_int (fun _ _ => rfl)) pe_str (nomark _)) (pv 3) (pe_revL (pv 3)))) (pg_name (i := 4) c_L_spot.nd rfl (.inl rfl)) (pss_one (ps_if (SS0.pt_ifE (pt_cmpR op_eq (pe_ix ix_str (pv 2) pe_int (fun _ _ => rfl)) pe_str (nomark _)) (pt_cmpR op_lt (pe_ix ix_tup (pv 1) (pv 4) (fun _ _ => rfl)) (pe_ix ix_tup (pv 0) (pv 4) (fun _ _ => rfl)) (nomark _)) (pt_cmpR op_gt (pe_ix ix_tup (pv 1) (pv 4) (fun _ _ => rfl)) pe_int (nomark _))) (pss_one (ps_ret (pv 4))) pss_nil)))
      (pss_one (ps_ret pe_non))))
theorem ok_L_breathed (B : Bi mg) (Dc : Dcs K w mg z0 zt0) (c_L_spot_ : Cl P w K mg base 1 "_law_spot" s_L_spot ["_law_sizes_here", "_law_lot", "_law_breath"] (spF K sem_L_spot)) (F : Fun K "_law_breathed" "_law_breathed" s_L_breathed f fd) : FnOk P w K mg base CX0 2 f fd ["_law_sizes_here", "_law_lot", "_law_breath"] (spF K sem_L_breathed) :=
  fnP (N := N_L_breathed) Dc.hD F c_L_breathed (b := a_L_breathed) fun cdv A outer s H E hr =>
    (pss_cons (ps_set (i := 3) c_L_breathed.nd rfl (.inl rfl) (pe_cl c_L_spot_ hr (by decide) (by rfl) (pa_cons (pv 0) (pa_cons (pv 1) (pa_cons (pv 2) pa_nil)))))
      (pss_cons (ps_if (pt_cmpR op_isN (pv 3) pe_non (nomark _)) (pss_one (ps_ret (pv 1))) pss_nil)
      (pss_cons (ps_set (i := 4) c_L_breathed.nd rfl (.inl rfl) (pe_op op_add (pe_ix ix_tup (pv 1) (pv 3) (fun _ _ => rfl)) (pe_ifExp (pt_cmpR op_eq (pe_ix ix_str (pv 2) pe_int (fun _ _ => rfl)) pe_str (nomark _)) pe_int (pe_un un_neg pe_int))))
      (pss_one (ps_ret (pe_op op_catA (pe_op op_catA (pe_slice sl_tupA (pv 1) po_none (po_some (pv 3))) (pe_tup (pa_cons (pv 4) pa_nil))) (pe_slice sl_tupA (pv 1) (po_some (pe_op op_add (pv 3) pe_int)) po_none)))))))
theorem ok_L_runs (B : Bi mg) (Dc : Dcs K w mg z0 zt0) (c_L_take_ : Cl P w K mg base 1 "_law_take" s_L_take ["_law_box_here", "_law_below"] (spD K takeF)) (F : Fun K "_law_runs" "_law_runs" s_L_runs f fd) : FnOk P w K mg base CX0 2 f fd ["_law_box_here", "_law_most", "_law_high"] (spD K sem_L_runs) :=
  fnB (N := N_L_runs) Dc.hD F c_L_runs (b := a_L_runs) fun cdv A outer s H E hr =>
    (pss_cons (ps_set (i := 3) c_L_runs.nd rfl (.inl rfl) (pe_lst pa_nil))
      (pss_cons (ps_for PassesOwn.never rfl (pi_range1 (by rfl) B.n_range (pa_cons (pe_cl c_L_take_ hr (by decide) (by rfl) (pa_cons (pv 0) (pa_cons (pe_op op_add (pv 1) pe_int) pa_nil))) pa_nil)) (pg_name (i := 4) c_L_runs.nd rfl (.inl rfl)) (pss_one (ps_expr (pe_bm PySem.F.plainAttrs_list PySem.F.slot_list_append PySem.F.type_list_append mt_append (pv 3) (pa_cons (pe_tup (pa_cons (pe_ix ix_list (pe_lst (pa_cons pe_str (pa_cons pe_str (pa_cons pe_str (pa_cons pe_str pa_nil))))) (pe_cl c_L_take_ hr (by decide) (by rfl) (pa_cons (pv 0) (pa_cons pe_int pa_nil))) (fun _ _ => rfl)) (pa_cons (pe_op op_add pe_int (pe_cl c_L_take_ hr (by decide) (by rfl) (pa_cons (pv 0) (pa_cons (pv 2) pa_nil)))) pa_nil))) pa_nil)))))
      (pss_one (ps_ret (pv 3)))))
theorem ok_L_gone (B : Bi mg) (Dc : Dcs K w mg z0 zt0) (c_L_breathed_ : Cl P w K mg base 2 "_law_breathed" s_L_breathed ["_law_sizes_here", "_law_lot", "_law_breath"] (spF K sem_L_breathed)) (F : Fun K "_law_gone" "_law_gone" s_L_gone f fd) : FnOk P w K mg base CX0 3 f fd ["_law_sizes_here", "_law_lot", "_law_runs_here"] (spF K sem_L_gone) :=
  fnP (N := N_L_gone) Dc.hD F c_L_gone (b := a_L_gone) fun cdv A outer s H E hr =>
    (pss_cons (ps_for PassesOwn.never rfl (pi_seqX (pv 2)) (SS0.pg_seq rfl (pgs_cons (pg_name (i := 3) c_L_gone.nd rfl (.inl rfl)) (pgs_cons (pg_name (i := 4) c_L_gone.nd rfl (.inl rfl)) pgs_nil))) (pss_one (ps_for PassesOwn.never rfl (pi_range1 (by rfl) B.n_range (pa_cons (pv 4) pa_nil)) (pg_name (i := 5) c_L_gone.nd rfl (.inl rfl)) (pss_one (ps_set (i := 1) c_L_gone.nd rfl (.inl rfl) (pe_cl c_L_breathed_ hr (by decide) (by rfl) (pa_cons (pv 0) (pa_cons (pv 1) (pa_cons (pv 3) pa_nil)))))))))
      (pss_one (ps_ret (pv 1))))
theorem ok_L_all (B : Bi mg) (Dc : Dcs K w mg z0 zt0)  (F : Fun K "_law_all" "_law_all" s_L_all f fd) : FnOk P w K mg base CX0 1 f fd ["_law_sizes_here"] (spF K sem_L_all) :=
  fnP (N := N_L_all) Dc.hD F c_L_all (b := a_L_all) fun cdv A outer s H E hr =>
    (pss_cons (ps_set (i := 1) c_L_all.nd rfl (.inl rfl) (pe_lst (pa_cons (pe_tup pa_nil) pa_nil)))
      (pss_cons (ps_for PassesOwn.never rfl (pi_seqX (pv 0)) (pg_name (i := 2) c_L_all.nd rfl (.inl rfl)) (pss_cons (ps_set (i := 3) c_L_all.nd rfl (.inl rfl) (pe_lst pa_nil))
      (pss_cons (ps_for PassesOwn.never rfl (pi_seqX (pv 1)) (pg_name (i := 4) c_L_all.nd rfl (.inr rfl)) (pss_one (ps_set (i := 3) c_L_all.nd rfl (.inl rfl) (pe_op op_cat (pv 3) (pe_lc (own := [("_law_here", 5)]) (g := gName 5) (tt := tYes) rfl c_L_all.nd (pi_range1 (by rfl) B.n_range (pa_cons (pe_op op_add (pv 2) pe_int) pa_nil)) (blkOk_by (N := N_L_all) (sc := defScope s_L_all) (by decide +kernel)) (fun _ _ _ _ _ => (pg_name (i := 5) c_L_all.nd rfl (.inl rfl))) (fun _ _ _ _ _ => pts_nil) (fun _ _ _ _ _ => (pe_op (ki_catA (K := K) rfl) (pv 4) (pe_tup (pa_cons (pv 5) pa_nil)))))))))
      (pss_one (ps_set (i := 1) c_L_all.nd rfl (.inl rfl) (pv 3))))))
      (pss_one (ps_ret (pv 1)))))
theorem ok_L_wide (B : Bi mg) (Dc : Dcs K w mg z0 zt0) (c_L_take_ : Cl P w K mg base 1 "_law_take" s_L_take ["_law_box_here", "_law_below"] (spD K takeF)) (F : Fun K "_law_wide" "_law_wide" s_L_wide f fd) : FnOk P w K mg base CX0 2 f fd ["_law_box_here", "_law_sizes_here", "_law_runs_here"] (spD K sem_L_wide) :=
  fnB (N := N_L_wide) Dc.hD F c_L_wide (b := a_L_wide) fun cdv A outer s H E hr =>
    (pss_cons (ps_par (i := 3) (j := 4) (by rfl) c_L_wide.nd rfl rfl (by decide) rfl rfl (pa_cons (pe_cl c_L_take_ hr (by decide) (by rfl) (pa_cons (pv 0) (pa_cons pe_int pa_nil))) (pa_cons (pe_cl c_L_take_ hr (by decide) (by rfl) (pa_cons (pv 0) (pa_cons (pe_op op_add (pe_callB call_len_seq (by rfl) B.n_len (by decide +kernel) (pa_cons (pv 2) pa_nil)) pe_int) pa_nil))) pa_nil)) (by rfl))
      (pss_cons (ps_set (i := 5) c_L_wide.nd rfl (.inl rfl) (pe_tup (pa_cons (pe_ix ix_list (pe_lst (pa_cons pe_str (pa_cons pe_str (pa_cons pe_str (pa_cons pe_str pa_nil))))) (pe_cl c_L_take_ hr (by decide) (by rfl) (pa_cons (pv 0) (pa_cons pe_int pa_nil))) (fun _ _ => rfl)) (pa_cons (pe_callB (call_max2 rfl) (by rfl) B.n_max (by decide +kernel) (pa_cons pe_int (pa_cons (pe_op op_sub (pe_callB (cr_sumX rfl) (by rfl) B.n_sum (by decide +kernel) (pa_cons (pv 1) pa_nil)) (pe_cl c_L_take_ hr (by decide) (by rfl) (pa_cons (pv 0) (pa_cons pe_int pa_nil)))) pa_nil))) pa_nil))))
      (pss_one (ps_ret (pe_ifExp (pt_cmpR op_eq (pv 3) pe_int (nomark _)) (pv 2) (pe_op op_cat (pe_op op_cat (pe_slice sl_list (pv 2) po_none (po_some (pv 4))) (pe_lst (pa_cons (pv 5) pa_nil))) (pe_slice sl_list (pv 2) (po_some (pv 4)) po_none)))))))
theorem ok_L_right (B : Bi mg) (Dc : Dcs K w mg z0 zt0) (c_made_one_ : Cl P w K mg base 5 "made_one" s_made_one ["rooms", "word"] (spF K sem_made_one)) (c_L_same_ : Cl P w K mg base 5 "_law_same" s_L_same ["_law_found", "_law_due"] (spF K sameF)) (c_L_sizes_ : Cl P w K mg base 2 "_law_sizes" s_L_sizes ["_law_box_here", "_law_most", "_law_high"] (spD K sem_L_sizes)) (c_L_runs_ : Cl P w K mg base 2 "_law_runs" s_L_runs ["_law_box_here", "_law_most", "_law_high"] (spD K sem_L_runs)) (c_L_gone_ : Cl P w K mg base 3 "_law_gone" s_L_gone ["_law_sizes_here", "_law_lot", "_law_runs_here"] (spF K sem_L_gone)) (c_L_all_ : Cl P w K mg base 1 "_law_all" s_L_all ["_law_sizes_here"] (spF K sem_L_all)) (c_L_wide_ : Cl P w K mg base 2 "_law_wide" s_L_wide ["_law_box_here", "_law_sizes_here", "_law_runs_here"] (spD K sem_L_wide)) (F : Fun K "_law_right" "_law_right" s_L_right f fd) : FnOk P w K mg base CX0 6 f fd ["_law_box_here"] (spD K sem_L_right) :=
  fnB (N := N_L_right) Dc.hD F c_L_right (b := a_L_right) fun cdv A outer s H E hr =>
    (pss_cons (ps_for PassesOwn.never rfl (pi_range1 (by rfl) B.n_range (pa_cons pe_int pa_nil)) (pg_name (i := 1) c_L_right.nd rfl (.inl rfl)) (pss_cons (ps_set (i := 2) c_L_right.nd rfl (.inr rfl) (pe_cl c_L_sizes_ hr (by decide) (by rfl) (pa_cons (pv 0) (pa_cons pe_int (pa_cons pe_int pa_nil)))))
      (pss_cons (ps_set (i := 3) c_L_right.nd rfl (.inr rfl) (pe_cl c_L_wide_ hr (by decide) (by rfl) (pa_cons (pv 0) (pa_cons (pv 2) (pa_cons (pe_cl c_L_runs_ hr (by decide) (by rfl) (pa_cons (pv 0) (pa_cons pe_int (pa_cons pe_int pa_nil)))) pa_nil)))))
      (pss_cons (ps_setLc (i := 4) (own := [("_law_lot", 7)]) (g := gName 7) (tt := tYes) (by rfl) c_L_right.nd rfl rfl (sw_true rfl rfl rfl (by decide +kernel)) (pi_seqX (pe_cl c_L_all_ hr (by decide) (by rfl) (pa_cons (pv 2) pa_nil))) (blkOk_by (N := N_L_right) (sc := defScope s_L_right) (by decide +kernel)) (fun _ _ _ _ _ => (pg_name (i := 7) c_L_right.nd rfl (.inl rfl))) (fun _ _ _ _ _ => pts_nil) (fun _ _ _ _ _ => (pe_cl c_L_gone_ hr (by decide) (by rfl) (pa_cons (pv 2) (pa_cons (pv 7) (pa_cons (pv 3) pa_nil))))))
      (pss_cons (ps_set (i := 5) c_L_right.nd rfl (.inl rfl) (pe_ifExp (pt_cmpR op_eq (SEX.pe_lenSetT rfl hr.units (by rfl) B.n_len (by rfl) B.n_set (pv 4)) pe_int (nomark _)) (pe_ix ix_list (pv 4) pe_int (fun _ _ => rfl)) pe_non))
      (pss_cons (ps_set (i := 6) c_L_right.nd rfl (.inl rfl) (pe_lst (pa_cons (pe_cl c_made_one_ hr (by decide) (by rfl) (pa_cons (pv 2) (pa_cons (pv 3) pa_nil))) (pa_cons (pe_clk0 c_made_one_ hr (by decide) (by rfl) (kb_made_one_0_word_rooms) (pk_cons (pe_callTy call_tuple_of (by rfl) B.n_tuple (by decide +kernel) (pa_cons (pv 3) pa_nil)) (pk_cons (pe_callTy call_list_of (by rfl) B.n_list (by decide +kernel) (pa_cons (pv 2) pa_nil)) pk_nil))) pa_nil))))
      (pss_one (ps_if (pt_not (pt_val (pe_cl c_L_same_ hr (by decide) (by rfl) (pa_cons (pv 6) (pa_cons (pe_lst (pa_cons (pv 5) (pa_cons (pv 5) pa_nil))) pa_nil))))) (pss_one (ps_ret pe_bl)) pss_nil))))))))
      (pss_one (ps_ret pe_bl)))
end
end K31
namespace K31
open PySem PySem.Spec PyProof.Rows L2 ZX DL RT DP WK NB
theorem bindq {α β : Type} {t : Dr α} {f : α → Dr β} {n m : Nat} {Φ : α → Prop} {Ψ : β → Prop} (h : Lq t n Φ) (hf : ∀ a, Φ a → Lq (f a) m Ψ) : Lq (t.bind f) (n + m) Ψ := Lq.bind h.h hf
theorem foldF_len : ∀ (rs : List Int) (X : List (List Int)), (∀ r ∈ rs, 0 ≤ r ∧ r ≤ 3) → (rs.foldl allF X).length ≤ X.length * 4 ^ rs.length
  | [], X, _ => by rw [List.foldl_nil, List.length_nil, Nat.pow_zero, Nat.mul_one]; exact Nat.le_refl _
  | r :: rs, X, h => by
    have hr := h r (List.mem_cons_self ..)
    have ih := foldF_len rs (allF X r) fun y hy => h y (List.mem_cons_of_mem _ hy)
    have e : (allF X r).length = X.length * (r + 1).toNat := flat_len r X
    rw [e] at ih
    rw [List.foldl_cons, List.length_cons, Nat.pow_succ]
    refine Nat.le_trans ih ?_
    rw [Nat.mul_assoc, Nat.mul_comm (4 ^ rs.length) 4]
    refine Nat.mul_le_mul_left _ (Nat.mul_le_mul_right _ ?_)
    omega
theorem all_len {rs : List Int} (h : ∀ r ∈ rs, 0 ≤ r ∧ r ≤ 3) (hl : rs.length ≤ 3) : (allM rs).length ≤ 64 := by
  refine Nat.le_trans (foldF_len rs [[]] h) ?_
  rw [List.length_singleton, Nat.one_mul]
  exact Nat.le_trans (Nat.pow_le_pow_right (by decide) hl) (by decide)
theorem sums_ext {x y : List Int} (hl : x.length = y.length) (h : ∀ g, (x.take g).sum = (y.take g).sum) : x = y := by
  apply List.ext_getElem hl
  intro i h1 h2
  have a := h i
  have b := h (i + 1)
  rw [List.take_succ_eq_append_getElem h1, List.take_succ_eq_append_getElem h2, List.sum_append, List.sum_append, List.sum_singleton, List.sum_singleton] at b
  omega
theorem ends_one {rs : List Int} {w : Wd'} (h0 : ∀ r ∈ rs, 0 ≤ r) (ho : WOk w) (e : (wordM rs rs w).1 = (wordM rs (reps rs.length 0) w).1) : ∀ x, Fit rs x → (wordM rs x w).1 = (wordM rs (reps rs.length 0) w).1 := fun x hx => by
  have z : Fit rs (reps rs.length 0) := fit_zero h0
  have f := fit_full h0
  refine sums_ext ?_ fun g => ?_
  · rw [(wordM_ok hx ho).1.len, (wordM_ok z ho).1.len]
  · have a := word_below z hx ho (fun g => bare_below hx g) g
    have b := word_below hx f ho (fun g => full_below hx g) g
    rw [e] at b
    omega
theorem made_eq' {rs : List Int} {w : Wd'} (n1 : 1 ≤ rs.length) (n2 : rs.length ≤ 1000) (h0 : ∀ r ∈ rs, 0 ≤ r) (ho : WOk w) {r wd : PyData} (hr : seqF r = some (dI rs)) (hw : seqF wd = some (wD w)) :
    sem_made_one [r, wd] = .ret (if (wordM rs rs w).1 = (wordM rs (reps rs.length 0) w).1 then tN (wordM rs (reps rs.length 0) w).1 else .none) := by
  have e1 : sem_bare [r] = _ := bare_eq hr n1 n2
  have e2 : sem_full [r] = _ := full_eq' hr
  have e3 : sem_breathed [r, tN (reps rs.length 0), wd] = _ := breathed_eq hr rfl hw (fit_zero h0) n2 ho
  have e4 : sem_breathed [r, tN rs, wd] = _ := breathed_eq hr rfl hw (fit_full h0) n2 ho
  have l1 := (wordM_ok (fit_zero h0) ho).1.len
  have l2 := (wordM_ok (fit_full h0) ho).1.len
  have q : oEqD.f (tN (wordM rs rs w).1) (tN (wordM rs (reps rs.length 0) w).1) = some (.bool (decide ((wordM rs rs w).1 = (wordM rs (reps rs.length 0) w).1))) := eqD_t _ _
  generalize (wordM rs rs w).1 = y at *
  generalize (wordM rs (reps rs.length 0) w).1 = x at *
  by_cases c : y = x
  · subst c
    rw [decide_eq_true rfl] at q
    rw [if_pos rfl]
    simp only [sem_made_one, a_made_one, cN, DP.run, DP.runB, evS, evE, evA, evT, evP, evI, startE, startX, slot_zero, slot_succ, own_zero, own_succ, box_zero, box_succ, bind_n, Dr.bind_assoc, pur_n, put_nm, put_tp, put_tpL, puts_nil, puts_cons, then_n, then_rt, then_rtO, told_rtO, put2_c, put3_c, evF, evB, flat_i, flat_b, flat_s, asLst_l, f_intI, f_intB, f_odd, f_notN, f_fListL, f_fListT, non_i, non_n, f_neS, then_bk, then_ct, told_rt, evT_qY, andB_t, andB_f, orB_t, orB_f, asInt_i, Dr.opt_some, small, within, List.length_cons, List.length_nil, List.map_cons, List.map_nil, List.cons_append, List.nil_append, List.replicate, List.set_cons_zero, List.set_cons_succ, Tt.vs, Ts.vs, Option.bind_some, Nat.reduceAdd, Nat.reduceSub, Nat.reduceLeDiff, Nat.reduceEqDiff, reduceIte, if_true, if_false, asIx_int, f_add, f_sub, f_lt, f_le, f_gt, f_ge, f_addA, f_subA, f_eqI, f_eqS, f_eqB, f_neI, f_isN, f_ixL, f_ixT, f_neg, f_not, f_min, f_max, f_abs, f_tB, f_lenL, f_lenT, f_list, f_listT, f_tup, f_tupT, f_wSeqL, f_wSeqT, f_cutT, f_cutL, wipeX, List.all_cons, List.all_nil, List.contains_cons, List.elem_nil, Bool.and_true, Bool.true_and, beq_self_eq_true, Bool.or_true, Bool.true_or, Bool.false_eq_true, Option.some.injEq, decide_true, decide_false, Bool.not_true, Bool.not_false, Nat.reduceBEq, Bool.or_false, Bool.false_or, List.append_nil, List.singleton_append, true_and, and_true, and_self, e1, e2, e3, e4, q]
  · rw [decide_eq_false c] at q
    rw [if_neg c]
    simp only [sem_made_one, a_made_one, cN, DP.run, DP.runB, evS, evE, evA, evT, evP, evI, startE, startX, slot_zero, slot_succ, own_zero, own_succ, box_zero, box_succ, bind_n, Dr.bind_assoc, pur_n, put_nm, put_tp, put_tpL, puts_nil, puts_cons, then_n, then_rt, then_rtO, told_rtO, put2_c, put3_c, evF, evB, flat_i, flat_b, flat_s, asLst_l, f_intI, f_intB, f_odd, f_notN, f_fListL, f_fListT, non_i, non_n, f_neS, then_bk, then_ct, told_rt, evT_qY, andB_t, andB_f, orB_t, orB_f, asInt_i, Dr.opt_some, small, within, List.length_cons, List.length_nil, List.map_cons, List.map_nil, List.cons_append, List.nil_append, List.replicate, List.set_cons_zero, List.set_cons_succ, Tt.vs, Ts.vs, Option.bind_some, Nat.reduceAdd, Nat.reduceSub, Nat.reduceLeDiff, Nat.reduceEqDiff, reduceIte, if_true, if_false, asIx_int, f_add, f_sub, f_lt, f_le, f_gt, f_ge, f_addA, f_subA, f_eqI, f_eqS, f_eqB, f_neI, f_isN, f_ixL, f_ixT, f_neg, f_not, f_min, f_max, f_abs, f_tB, f_lenL, f_lenT, f_list, f_listT, f_tup, f_tupT, f_wSeqL, f_wSeqT, f_cutT, f_cutL, wipeX, List.all_cons, List.all_nil, List.contains_cons, List.elem_nil, Bool.and_true, Bool.true_and, beq_self_eq_true, Bool.or_true, Bool.true_or, Bool.false_eq_true, Option.some.injEq, decide_true, decide_false, Bool.not_true, Bool.not_false, Nat.reduceBEq, Bool.or_false, Bool.false_or, List.append_nil, List.singleton_append, true_and, and_true, and_self, e1, e2, e3, e4, q]
theorem ddp_const {y : List Int} : ∀ {xs : List (List Int)}, xs ≠ [] → (∀ x ∈ xs, x = y) → (ddp xs).length = 1
  | [], h, _ => absurd rfl h
  | [x], _, _ => rfl
  | x :: z :: r, _, h => by
    have e1 := h x (List.mem_cons_self ..)
    have e2 := h z (List.mem_cons_of_mem _ (List.mem_cons_self ..))
    have : x ∈ z :: r := by rw [e1, ← e2]; exact List.mem_cons_self ..
    unfold ddp
    rw [if_pos this]
    exact ddp_const (by simp) fun u hu => h u (List.mem_cons_of_mem _ hu)
theorem one_const {xs : List (List Int)} (h : (ddp xs).length = 1) {x y : List Int} (hx : x ∈ xs) (hy : y ∈ xs) : x = y := by
  have a := mem_ddp.mpr hx
  have b := mem_ddp.mpr hy
  match e : ddp xs, h with
  | [z], _ =>
    rw [e] at a b
    rw [List.mem_singleton.mp a, List.mem_singleton.mp b]
theorem rnD_of (b : Br) (i : Int) : PyData.tuple [.str b.nm, .int i] = rnD (b, i) := rfl
set_option maxHeartbeats 4000000 in
theorem wide_lq {rs : List Int} {w : Wd'} (n1 : 1 ≤ rs.length) (n2 : rs.length ≤ 3) (hr : ∀ r ∈ rs, 1 ≤ r ∧ r ≤ 3) (hw : WIn 5 3 w) : Lq (sem_L_wide [tN rs, .list (wD w)]) 4 fun d => ∃ u : Wd', d = .list (wD u) ∧ u.length ≤ 6 ∧ ∀ x ∈ u, 1 ≤ x.2 ∧ x.2 ≤ 9 := by
  have wl := hw.1
  have bl : bLen.f [.list (wD w)] = some (.int (w.length : Int)) := by
    show some (PyData.int ((wD w).length : Int)) = _
    rw [List.length_map]
  have bs : bSum.f [tN rs] = some (.int rs.sum) := sum_seq rfl
  have s9 : rs.sum ≤ 9 := by
    have := sum_bd (o := 3) fun r h => (hr r h).2
    omega
  simp only [sem_L_wide, a_L_wide, cI, cS, DP.run, DP.runB, evS, evE, evA, evT, evP, evI, startE, startX, slot_zero, slot_succ, own_zero, own_succ, box_zero, box_succ, bind_n, Dr.bind_assoc, pur_n, put_nm, put_tp, put_tpL, puts_nil, puts_cons, then_n, then_rt, then_rtO, told_rtO, put2_c, put3_c, evF, evB, flat_i, flat_b, flat_s, asLst_l, f_intI, f_intB, f_odd, f_notN, f_fListL, f_fListT, non_i, non_n, f_neS, then_bk, then_ct, told_rt, evT_qY, andB_t, andB_f, orB_t, orB_f, asInt_i, Dr.opt_some, small, within, List.length_cons, List.length_nil, List.map_cons, List.map_nil, List.cons_append, List.nil_append, List.replicate, List.set_cons_zero, List.set_cons_succ, Tt.vs, Ts.vs, Option.bind_some, Nat.reduceAdd, Nat.reduceSub, Nat.reduceLeDiff, Nat.reduceEqDiff, reduceIte, if_true, if_false, asIx_int, f_add, f_sub, f_lt, f_le, f_gt, f_ge, f_addA, f_subA, f_eqI, f_eqS, f_eqB, f_neI, f_isN, f_ixL, f_ixT, f_neg, f_not, f_min, f_max, f_abs, f_tB, f_lenL, f_lenT, f_list, f_listT, f_tup, f_tupT, f_wSeqL, f_wSeqT, f_cutT, f_cutL, wipeX, List.all_cons, List.all_nil, List.contains_cons, List.elem_nil, Bool.and_true, Bool.true_and, beq_self_eq_true, Bool.or_true, Bool.true_or, Bool.false_eq_true, Option.some.injEq, decide_true, decide_false, Bool.not_true, Bool.not_false, Nat.reduceBEq, Bool.or_false, Bool.false_or, List.append_nil, List.singleton_append, true_and, and_true, and_self, bl, bs]
  refine Lq.up (Lq.bind (n := 1) (m := 3) (take_le (m := 3) (by decide) (by decide)) ?_) (by decide)
  rintro _ ⟨v, rfl, v0, v1⟩
  try simp only [DP.run, DP.runB, evS, evE, evA, evT, evP, evI, startE, startX, slot_zero, slot_succ, own_zero, own_succ, box_zero, box_succ, bind_n, Dr.bind_assoc, pur_n, put_nm, put_tp, put_tpL, puts_nil, puts_cons, then_n, then_rt, then_rtO, told_rtO, put2_c, put3_c, evF, evB, flat_i, flat_b, flat_s, asLst_l, f_intI, f_intB, f_odd, f_notN, f_fListL, f_fListT, non_i, non_n, f_neS, then_bk, then_ct, told_rt, evT_qY, andB_t, andB_f, orB_t, orB_f, asInt_i, Dr.opt_some, small, within, List.length_cons, List.length_nil, List.map_cons, List.map_nil, List.cons_append, List.nil_append, List.replicate, List.set_cons_zero, List.set_cons_succ, Tt.vs, Ts.vs, Option.bind_some, Nat.reduceAdd, Nat.reduceSub, Nat.reduceLeDiff, Nat.reduceEqDiff, reduceIte, if_true, if_false, asIx_int, f_add, f_sub, f_lt, f_le, f_gt, f_ge, f_addA, f_subA, f_eqI, f_eqS, f_eqB, f_neI, f_isN, f_ixL, f_ixT, f_neg, f_not, f_min, f_max, f_abs, f_tB, f_lenL, f_lenT, f_list, f_listT, f_tup, f_tupT, f_wSeqL, f_wSeqT, f_cutT, f_cutL, wipeX, List.all_cons, List.all_nil, List.contains_cons, List.elem_nil, Bool.and_true, Bool.true_and, beq_self_eq_true, Bool.or_true, Bool.true_or, Bool.false_eq_true, Option.some.injEq, decide_true, decide_false, Bool.not_true, Bool.not_false, Nat.reduceBEq, Bool.or_false, Bool.false_or, List.append_nil, List.singleton_append, true_and, and_true, and_self]
  refine Lq.up (Lq.bind (n := 1) (m := 2) (take_le (m := (w.length : Int) + 1) (by omega) (by omega)) ?_) (by decide)
  rintro _ ⟨k, rfl, k0, k1⟩
  try simp only [DP.run, DP.runB, evS, evE, evA, evT, evP, evI, startE, startX, slot_zero, slot_succ, own_zero, own_succ, box_zero, box_succ, bind_n, Dr.bind_assoc, pur_n, put_nm, put_tp, put_tpL, puts_nil, puts_cons, then_n, then_rt, then_rtO, told_rtO, put2_c, put3_c, evF, evB, flat_i, flat_b, flat_s, asLst_l, f_intI, f_intB, f_odd, f_notN, f_fListL, f_fListT, non_i, non_n, f_neS, then_bk, then_ct, told_rt, evT_qY, andB_t, andB_f, orB_t, orB_f, asInt_i, Dr.opt_some, small, within, List.length_cons, List.length_nil, List.map_cons, List.map_nil, List.cons_append, List.nil_append, List.replicate, List.set_cons_zero, List.set_cons_succ, Tt.vs, Ts.vs, Option.bind_some, Nat.reduceAdd, Nat.reduceSub, Nat.reduceLeDiff, Nat.reduceEqDiff, reduceIte, if_true, if_false, asIx_int, f_add, f_sub, f_lt, f_le, f_gt, f_ge, f_addA, f_subA, f_eqI, f_eqS, f_eqB, f_neI, f_isN, f_ixL, f_ixT, f_neg, f_not, f_min, f_max, f_abs, f_tB, f_lenL, f_lenT, f_list, f_listT, f_tup, f_tupT, f_wSeqL, f_wSeqT, f_cutT, f_cutL, wipeX, List.all_cons, List.all_nil, List.contains_cons, List.elem_nil, Bool.and_true, Bool.true_and, beq_self_eq_true, Bool.or_true, Bool.true_or, Bool.false_eq_true, Option.some.injEq, decide_true, decide_false, Bool.not_true, Bool.not_false, Nat.reduceBEq, Bool.or_false, Bool.false_or, List.append_nil, List.singleton_append, true_and, and_true, and_self]
  refine Lq.up (Lq.bind (n := 1) (m := 1) (take_le (m := 4) (by decide) (by decide)) ?_) (by decide)
  rintro _ ⟨a, rfl, a0, a1⟩
  obtain ⟨y, ey, hy⟩ := pick4 (PyData.str "L+") (PyData.str "L-") (PyData.str "R+") (PyData.str "R-") a0 a1
  obtain ⟨b, rfl⟩ : ∃ b : Br, y = .str b.nm := by
    rcases hy with rfl | rfl | rfl | rfl
    · exact ⟨(true, true), rfl⟩
    · exact ⟨(true, false), rfl⟩
    · exact ⟨(false, true), rfl⟩
    · exact ⟨(false, false), rfl⟩
  try simp only [DP.run, DP.runB, evS, evE, evA, evT, evP, evI, startE, startX, slot_zero, slot_succ, own_zero, own_succ, box_zero, box_succ, bind_n, Dr.bind_assoc, pur_n, put_nm, put_tp, put_tpL, puts_nil, puts_cons, then_n, then_rt, then_rtO, told_rtO, put2_c, put3_c, evF, evB, flat_i, flat_b, flat_s, asLst_l, f_intI, f_intB, f_odd, f_notN, f_fListL, f_fListT, non_i, non_n, f_neS, then_bk, then_ct, told_rt, evT_qY, andB_t, andB_f, orB_t, orB_f, asInt_i, Dr.opt_some, small, within, List.length_cons, List.length_nil, List.map_cons, List.map_nil, List.cons_append, List.nil_append, List.replicate, List.set_cons_zero, List.set_cons_succ, Tt.vs, Ts.vs, Option.bind_some, Nat.reduceAdd, Nat.reduceSub, Nat.reduceLeDiff, Nat.reduceEqDiff, reduceIte, if_true, if_false, asIx_int, f_add, f_sub, f_lt, f_le, f_gt, f_ge, f_addA, f_subA, f_eqI, f_eqS, f_eqB, f_neI, f_isN, f_ixL, f_ixT, f_neg, f_not, f_min, f_max, f_abs, f_tB, f_lenL, f_lenT, f_list, f_listT, f_tup, f_tupT, f_wSeqL, f_wSeqT, f_cutT, f_cutL, wipeX, List.all_cons, List.all_nil, List.contains_cons, List.elem_nil, Bool.and_true, Bool.true_and, beq_self_eq_true, Bool.or_true, Bool.true_or, Bool.false_eq_true, Option.some.injEq, decide_true, decide_false, Bool.not_true, Bool.not_false, Nat.reduceBEq, Bool.or_false, Bool.false_or, List.append_nil, List.singleton_append, true_and, and_true, and_self, ey]
  refine Lq.up (Lq.bind (n := 1) (m := 0) (take_le (m := 2) (by decide) (by decide)) ?_) (by decide)
  rintro _ ⟨c, rfl, c0, c1⟩
  have mx : bMax.f [.int 1, .int (rs.sum - c)] = some (.int (max 1 (rs.sum - c))) := by
    show some (PyData.int (if rs.sum - c > 1 then rs.sum - c else 1)) = _
    congr 2
    split <;> omega
  obtain ⟨g, rfl⟩ : ∃ g : Nat, k = (g : Int) := ⟨k.toNat, by omega⟩
  have t1 : DP.cutD (wD w) none (some (g : Int)) = wD (w.take g) := by
    show DP.cutD (w.map rnD) none (some (g : Int)) = (w.take g).map rnD
    rw [cutD_to, List.map_take]
  have t2 : DP.cutD (wD w) (some (g : Int)) none = wD (w.drop g) := by
    show DP.cutD (w.map rnD) (some (g : Int)) none = (w.drop g).map rnD
    rw [cutD_from, List.map_drop]
  have ca : ∀ A B : Wd', A.length + B.length ≤ 20 → oCatL.f (.list (wD A)) (.list (wD B)) = some (.list (wD (A ++ B))) := fun A B h => by
    rw [catL_d (by rw [List.length_map, List.length_map]; omega)]
    show _ = some (PyData.list ((A ++ B).map rnD))
    rw [List.map_append]
  have lt : (w.take g).length + (w.drop g).length = w.length := by rw [List.length_take, List.length_drop]; omega
  have c1' := ca (w.take g) [(b, max 1 (rs.sum - c))] (by rw [List.length_singleton]; omega)
  have c2' := ca (w.take g ++ [(b, max 1 (rs.sum - c))]) (w.drop g) (by rw [List.length_append, List.length_singleton]; omega)
  have c1'' : oCatL.f (.list (wD (w.take g))) (.list [rnD (b, max 1 (rs.sum - c))]) = _ := c1'
  by_cases hv : v = 0
  · have ev : oEq.f (.int v) (.int 0) = some (.bool true) := by
      show some (PyData.bool (decide (v = 0))) = _
      rw [decide_eq_true hv]
    simp only [DP.run, DP.runB, evS, evE, evA, evT, evP, evI, startE, startX, slot_zero, slot_succ, own_zero, own_succ, box_zero, box_succ, bind_n, Dr.bind_assoc, pur_n, put_nm, put_tp, put_tpL, puts_nil, puts_cons, then_n, then_rt, then_rtO, told_rtO, put2_c, put3_c, evF, evB, flat_i, flat_b, flat_s, asLst_l, f_intI, f_intB, f_odd, f_notN, f_fListL, f_fListT, non_i, non_n, f_neS, then_bk, then_ct, told_rt, evT_qY, andB_t, andB_f, orB_t, orB_f, asInt_i, Dr.opt_some, small, within, List.length_cons, List.length_nil, List.map_cons, List.map_nil, List.cons_append, List.nil_append, List.replicate, List.set_cons_zero, List.set_cons_succ, Tt.vs, Ts.vs, Option.bind_some, Nat.reduceAdd, Nat.reduceSub, Nat.reduceLeDiff, Nat.reduceEqDiff, reduceIte, if_true, if_false, asIx_int, f_add, f_sub, f_lt, f_le, f_gt, f_ge, f_addA, f_subA, f_eqI, f_eqS, f_eqB, f_neI, f_isN, f_ixL, f_ixT, f_neg, f_not, f_min, f_max, f_abs, f_tB, f_lenL, f_lenT, f_list, f_listT, f_tup, f_tupT, f_wSeqL, f_wSeqT, f_cutT, f_cutL, wipeX, List.all_cons, List.all_nil, List.contains_cons, List.elem_nil, Bool.and_true, Bool.true_and, beq_self_eq_true, Bool.or_true, Bool.true_or, Bool.false_eq_true, Option.some.injEq, decide_true, decide_false, Bool.not_true, Bool.not_false, Nat.reduceBEq, Bool.or_false, Bool.false_or, List.append_nil, List.singleton_append, true_and, and_true, and_self, mx, ev, decide_eq_true hv]
    refine Lq.ret (show ∃ u : Wd', PyData.list (wD w) = .list (wD u) ∧ u.length ≤ 6 ∧ ∀ x ∈ u, 1 ≤ x.2 ∧ x.2 ≤ 9 from ⟨w, rfl, by omega, fun x hx => ?_⟩)
    have := hw.2 x hx
    omega
  · simp only [DP.run, DP.runB, evS, evE, evA, evT, evP, evI, startE, startX, slot_zero, slot_succ, own_zero, own_succ, box_zero, box_succ, bind_n, Dr.bind_assoc, pur_n, put_nm, put_tp, put_tpL, puts_nil, puts_cons, then_n, then_rt, then_rtO, told_rtO, put2_c, put3_c, evF, evB, flat_i, flat_b, flat_s, asLst_l, f_intI, f_intB, f_odd, f_notN, f_fListL, f_fListT, non_i, non_n, f_neS, then_bk, then_ct, told_rt, evT_qY, andB_t, andB_f, orB_t, orB_f, asInt_i, Dr.opt_some, small, within, List.length_cons, List.length_nil, List.map_cons, List.map_nil, List.cons_append, List.nil_append, List.replicate, List.set_cons_zero, List.set_cons_succ, Tt.vs, Ts.vs, Option.bind_some, Nat.reduceAdd, Nat.reduceSub, Nat.reduceLeDiff, Nat.reduceEqDiff, reduceIte, if_true, if_false, asIx_int, f_add, f_sub, f_lt, f_le, f_gt, f_ge, f_addA, f_subA, f_eqI, f_eqS, f_eqB, f_neI, f_isN, f_ixL, f_ixT, f_neg, f_not, f_min, f_max, f_abs, f_tB, f_lenL, f_lenT, f_list, f_listT, f_tup, f_tupT, f_wSeqL, f_wSeqT, f_cutT, f_cutL, wipeX, List.all_cons, List.all_nil, List.contains_cons, List.elem_nil, Bool.and_true, Bool.true_and, beq_self_eq_true, Bool.or_true, Bool.true_or, Bool.false_eq_true, Option.some.injEq, decide_true, decide_false, Bool.not_true, Bool.not_false, Nat.reduceBEq, Bool.or_false, Bool.false_or, List.append_nil, List.singleton_append, true_and, and_true, and_self, mx, decide_eq_false hv, t1, t2, rnD_of, c1'', c2']
    refine Lq.ret (show ∃ u : Wd', PyData.list (wD (w.take g ++ [(b, max 1 (rs.sum - c))] ++ w.drop g)) = .list (wD u) ∧ u.length ≤ 6 ∧ ∀ x ∈ u, 1 ≤ x.2 ∧ x.2 ≤ 9 from ⟨_, rfl, by rw [List.length_append, List.length_append, List.length_singleton]; omega, fun x hx => ?_⟩)
    rcases List.mem_append.mp hx with hx | hx
    · rcases List.mem_append.mp hx with hx | hx
      · have := hw.2 x (List.mem_of_mem_take hx)
        omega
      · rw [List.mem_singleton.mp hx]
        show 1 ≤ max 1 (rs.sum - c) ∧ max 1 (rs.sum - c) ≤ 9
        omega
    · have := hw.2 x (List.mem_of_mem_drop hx)
      omega
theorem all_ne {rs : List Int} (h0 : ∀ r ∈ rs, 0 ≤ r) : reps rs.length 0 ∈ allM rs ∧ rs ∈ allM rs := ⟨(all_fit h0 _).mpr (fit_zero h0), (all_fit h0 _).mpr (fit_full h0)⟩
set_option maxHeartbeats 4000000 in
theorem tail_eq {rs : List Int} {w : Wd'} (n1 : 1 ≤ rs.length) (n2 : rs.length ≤ 3) (hr : ∀ r ∈ rs, 1 ≤ r ∧ r ≤ 3) (wl : w.length ≤ 6) (hw : ∀ x ∈ w, 1 ≤ x.2 ∧ x.2 ≤ 9) (x1 x4 x5 x6 x7 : Sl) :
    ∃ y4 y5 y6, evS t_L_right_1 [.box, x1, .dat (tN rs), .dat (.list (wD w)), x4, x5, x6, x7] = .ret (.nx [.box, x1, .dat (tN rs), .dat (.list (wD w)), y4, y5, y6, x7]) := by
  have h0 : ∀ r ∈ rs, 0 ≤ r := fun r h => by have := hr r h; omega
  have ho : WOk w := fun x hx => by have := hw x hx; omega
  have al : sem_L_all [tN rs] = _ := all_law (h := 3) (n := 3) (fun r h => by have := hr r h; omega) n2 (by decide) (by decide)
  have le := all_len (rs := rs) (fun r h => by have := hr r h; omega) n2
  have cc : ∀ u0 u1 u2 u3 u4 u5 u6 : Sl, u2 = .dat (tN rs) → u3 = .dat (.list (wD w)) → compr (cstep (evT qY) (evE x_L_right_1) (.nm 7) [u0, u1, u2, u3, u4, u5, u6, .unk]) ((allM rs).map tN) = .ret ((allM rs).map fun x => tN (wordM rs x w).1) := fun u0 u1 u2 u3 u4 u5 u6 e2 e3 => by
    subst e2 e3
    refine compr_map (g := tN) (h := fun x => tN (wordM rs x w).1) fun x hx => ?_
    have hf := (all_fit h0 x).mp hx
    have go : sem_L_gone [tN rs, tN x, .list (wD w)] = _ := gone_law hf ho (fun z hz => by have := hw z hz; omega) (by omega)
    simp only [cstep, x_L_right_1, DP.run, DP.runB, evS, evE, evA, evT, evP, evI, startE, startX, slot_zero, slot_succ, own_zero, own_succ, box_zero, box_succ, bind_n, Dr.bind_assoc, pur_n, put_nm, put_tp, put_tpL, puts_nil, puts_cons, then_n, then_rt, then_rtO, told_rtO, put2_c, put3_c, evF, evB, flat_i, flat_b, flat_s, asLst_l, f_intI, f_intB, f_odd, f_notN, f_fListL, f_fListT, non_i, non_n, f_neS, then_bk, then_ct, told_rt, evT_qY, andB_t, andB_f, orB_t, orB_f, asInt_i, Dr.opt_some, small, within, List.length_cons, List.length_nil, List.map_cons, List.map_nil, List.cons_append, List.nil_append, List.replicate, List.set_cons_zero, List.set_cons_succ, Tt.vs, Ts.vs, Option.bind_some, Nat.reduceAdd, Nat.reduceSub, Nat.reduceLeDiff, Nat.reduceEqDiff, reduceIte, if_true, if_false, asIx_int, f_add, f_sub, f_lt, f_le, f_gt, f_ge, f_addA, f_subA, f_eqI, f_eqS, f_eqB, f_neI, f_isN, f_ixL, f_ixT, f_neg, f_not, f_min, f_max, f_abs, f_tB, f_lenL, f_lenT, f_list, f_listT, f_tup, f_tupT, f_wSeqL, f_wSeqT, f_cutT, f_cutL, wipeX, List.all_cons, List.all_nil, List.contains_cons, List.elem_nil, Bool.and_true, Bool.true_and, beq_self_eq_true, Bool.or_true, Bool.true_or, Bool.false_eq_true, Option.some.injEq, decide_true, decide_false, Bool.not_true, Bool.not_false, Nat.reduceBEq, Bool.or_false, Bool.false_or, List.append_nil, List.singleton_append, true_and, and_true, and_self, go]
  have em : (allM rs).map (fun x => tN (wordM rs x w).1) = ((allM rs).map fun x => (wordM rs x w).1).map fun ns => PyData.tuple (ns.map .int) := by rw [List.map_map]; rfl
  obtain ⟨EN, hEN⟩ : ∃ EN, (allM rs).map (fun x => (wordM rs x w).1) = EN := ⟨_, rfl⟩
  rw [em, hEN] at cc
  have lE : EN.length ≤ 64 := by rw [← hEN, List.length_map]; exact le
  have fs := f_lenSet lE
  obtain ⟨m0, m1⟩ := all_ne h0
  have zE : (wordM rs (reps rs.length 0) w).1 ∈ EN := by rw [← hEN]; exact List.mem_map_of_mem (f := fun x => (wordM rs x w).1) m0
  have fE : (wordM rs rs w).1 ∈ EN := by rw [← hEN]; exact List.mem_map_of_mem (f := fun x => (wordM rs x w).1) m1
  have neE : EN ≠ [] := fun e => by rw [e] at zE; cases zE
  have mo1 : sem_made_one [tN rs, .list (wD w)] = _ := made_eq' n1 (by omega) h0 ho rfl rfl
  have mo2 : sem_made_one [lN rs, .tuple (wD w)] = _ := made_eq' n1 (by omega) h0 ho rfl rfl
  have bt : bTup.f [.list (wD w)] = some (.tuple (wD w)) := rfl
  have bi : bList.f [tN rs] = some (lN rs) := rfl
  have ws : wSeq.f (.list ((allM rs).map tN)) = some ((allM rs).map tN) := rfl
  have lA : ((allM rs).map tN).length ≤ 100000 := by rw [List.length_map]; omega
  have lw := (wordM_ok (fit_zero h0) ho).1.len
  have sm : ∀ D : PyData, Pl 3 D → sameF [.list [D, D], .list [D, D]] = .ret (.bool true) := fun D hD => sameF_eq rfl (pl_L (n := 3) (show 2 ≤ 100000 by decide) fun y hy => by
    have : y = D := by simpa using hy
    rw [this]
    exact hD)
  have k11 : ∀ i : Int, oEq.f (.int i) (.int 1) = some (.bool (decide (i = 1))) := fun _ => rfl
  by_cases c : (wordM rs rs w).1 = (wordM rs (reps rs.length 0) w).1
  · rw [if_pos c] at mo1 mo2
    have all := ends_one h0 ho c
    have cst : ∀ y ∈ EN, y = (wordM rs (reps rs.length 0) w).1 := fun y hy => by
      rw [← hEN] at hy
      obtain ⟨x, hx, rfl⟩ := List.mem_map.mp hy
      exact all x ((all_fit h0 x).mp hx)
    have d1 := ddp_const neE cst
    rw [d1] at fs
    have ix : oIxL.f (.list (EN.map fun ns => PyData.tuple (ns.map .int))) (.int 0) = some (tN (wordM rs (reps rs.length 0) w).1) := by
      cases EN with
      | nil => exact absurd rfl neE
      | cons y r =>
        rw [cst y (List.mem_cons_self ..)]
        exact at_d (k := 0) (by simp)
    have s1 := sm (tN (wordM rs (reps rs.length 0) w).1) (pl_tN 2 (by have : (wordM rs (reps rs.length 0) w).1.length = rs.length := lw; omega))
    have dd : decide (((1 : Nat) : Int) = 1) = true := by decide
    refine ⟨.dat (.list (EN.map fun ns => PyData.tuple (ns.map .int))), .dat (tN (wordM rs (reps rs.length 0) w).1), .dat (.list [tN (wordM rs (reps rs.length 0) w).1, tN (wordM rs (reps rs.length 0) w).1]), ?_⟩
    simp only [t_L_right_1, kp_made_one_0_word_rooms, cI, cB, cN, DP.run, DP.runB, evS, evE, evA, evT, evP, evI, startE, startX, slot_zero, slot_succ, own_zero, own_succ, box_zero, box_succ, bind_n, Dr.bind_assoc, pur_n, put_nm, put_tp, put_tpL, puts_nil, puts_cons, then_n, then_rt, then_rtO, told_rtO, put2_c, put3_c, evF, evB, flat_i, flat_b, flat_s, asLst_l, f_intI, f_intB, f_odd, f_notN, f_fListL, f_fListT, non_i, non_n, f_neS, then_bk, then_ct, told_rt, evT_qY, andB_t, andB_f, orB_t, orB_f, asInt_i, Dr.opt_some, small, within, List.length_cons, List.length_nil, List.map_cons, List.map_nil, List.cons_append, List.nil_append, List.replicate, List.set_cons_zero, List.set_cons_succ, Tt.vs, Ts.vs, Option.bind_some, Nat.reduceAdd, Nat.reduceSub, Nat.reduceLeDiff, Nat.reduceEqDiff, reduceIte, if_true, if_false, asIx_int, f_add, f_sub, f_lt, f_le, f_gt, f_ge, f_addA, f_subA, f_eqI, f_eqS, f_eqB, f_neI, f_isN, f_ixL, f_ixT, f_neg, f_not, f_min, f_max, f_abs, f_tB, f_lenL, f_lenT, f_list, f_listT, f_tup, f_tupT, f_wSeqL, f_wSeqT, f_cutT, f_cutL, wipeX, List.all_cons, List.all_nil, List.contains_cons, List.elem_nil, Bool.and_true, Bool.true_and, beq_self_eq_true, Bool.or_true, Bool.true_or, Bool.false_eq_true, Option.some.injEq, decide_true, decide_false, Bool.not_true, Bool.not_false, Nat.reduceBEq, Bool.or_false, Bool.false_or, List.append_nil, List.singleton_append, true_and, and_true, and_self, al, ws, lA, cc, fs, dd, ix, mo1, mo2, bt, bi, s1]
  · rw [if_neg c] at mo1 mo2
    have d1 : (ddp EN).length ≠ 1 := fun e => c (one_const e fE zE)
    have s1 := sm .none (pl_opt 3 none)
    have dd : decide ((((ddp EN).length : Nat) : Int) = 1) = false := decide_eq_false (by omega)
    refine ⟨.dat (.list (EN.map fun ns => PyData.tuple (ns.map .int))), .dat .none, .dat (.list [.none, .none]), ?_⟩
    simp only [t_L_right_1, kp_made_one_0_word_rooms, cI, cB, cN, DP.run, DP.runB, evS, evE, evA, evT, evP, evI, startE, startX, slot_zero, slot_succ, own_zero, own_succ, box_zero, box_succ, bind_n, Dr.bind_assoc, pur_n, put_nm, put_tp, put_tpL, puts_nil, puts_cons, then_n, then_rt, then_rtO, told_rtO, put2_c, put3_c, evF, evB, flat_i, flat_b, flat_s, asLst_l, f_intI, f_intB, f_odd, f_notN, f_fListL, f_fListT, non_i, non_n, f_neS, then_bk, then_ct, told_rt, evT_qY, andB_t, andB_f, orB_t, orB_f, asInt_i, Dr.opt_some, small, within, List.length_cons, List.length_nil, List.map_cons, List.map_nil, List.cons_append, List.nil_append, List.replicate, List.set_cons_zero, List.set_cons_succ, Tt.vs, Ts.vs, Option.bind_some, Nat.reduceAdd, Nat.reduceSub, Nat.reduceLeDiff, Nat.reduceEqDiff, reduceIte, if_true, if_false, asIx_int, f_add, f_sub, f_lt, f_le, f_gt, f_ge, f_addA, f_subA, f_eqI, f_eqS, f_eqB, f_neI, f_isN, f_ixL, f_ixT, f_neg, f_not, f_min, f_max, f_abs, f_tB, f_lenL, f_lenT, f_list, f_listT, f_tup, f_tupT, f_wSeqL, f_wSeqT, f_cutT, f_cutL, wipeX, List.all_cons, List.all_nil, List.contains_cons, List.elem_nil, Bool.and_true, Bool.true_and, beq_self_eq_true, Bool.or_true, Bool.true_or, Bool.false_eq_true, Option.some.injEq, decide_true, decide_false, Bool.not_true, Bool.not_false, Nat.reduceBEq, Bool.or_false, Bool.false_or, List.append_nil, List.singleton_append, true_and, and_true, and_self, al, ws, lA, cc, fs, dd, mo1, mo2, bt, bi, s1]
theorem right_le : Lq (sem_L_right []) 200 fun d => d = .bool true := by
  have r4 : wRng.f [.int 4] = some ((List.range 4).map fun (i : Nat) => PyData.int (i : Int)) := rngF_n (by decide) (by decide)
  simp only [sem_L_right, a_L_right, cI, cB, DP.run, DP.runB, evS, evE, evA, evT, evP, evI, startE, startX, slot_zero, slot_succ, own_zero, own_succ, box_zero, box_succ, bind_n, Dr.bind_assoc, pur_n, put_nm, put_tp, put_tpL, puts_nil, puts_cons, then_n, then_rt, then_rtO, told_rtO, put2_c, put3_c, evF, evB, flat_i, flat_b, flat_s, asLst_l, f_intI, f_intB, f_odd, f_notN, f_fListL, f_fListT, non_i, non_n, f_neS, then_bk, then_ct, told_rt, evT_qY, andB_t, andB_f, orB_t, orB_f, asInt_i, Dr.opt_some, small, within, List.length_cons, List.length_nil, List.map_cons, List.map_nil, List.cons_append, List.nil_append, List.replicate, List.set_cons_zero, List.set_cons_succ, Tt.vs, Ts.vs, Option.bind_some, Nat.reduceAdd, Nat.reduceSub, Nat.reduceLeDiff, Nat.reduceEqDiff, reduceIte, if_true, if_false, asIx_int, f_add, f_sub, f_lt, f_le, f_gt, f_ge, f_addA, f_subA, f_eqI, f_eqS, f_eqB, f_neI, f_isN, f_ixL, f_ixT, f_neg, f_not, f_min, f_max, f_abs, f_tB, f_lenL, f_lenT, f_list, f_listT, f_tup, f_tupT, f_wSeqL, f_wSeqT, f_cutT, f_cutL, wipeX, List.all_cons, List.all_nil, List.contains_cons, List.elem_nil, Bool.and_true, Bool.true_and, beq_self_eq_true, Bool.or_true, Bool.true_or, Bool.false_eq_true, Option.some.injEq, decide_true, decide_false, Bool.not_true, Bool.not_false, Nat.reduceBEq, Bool.or_false, Bool.false_or, List.append_nil, List.singleton_append, true_and, and_true, and_self, r4]
  have hL := forL_allq (step := lstep (evS b_L_right_1) (.nm 1)) (fun env => ∃ u1 u2 u3 u4 u5 u6 u7, env = [.box, u1, u2, u3, u4, u5, u6, u7]) 20 (its := (List.range 4).map fun (i : Nat) => PyData.int (i : Int)) (env := [.box, .unk, .unk, .unk, .unk, .unk, .unk, .unk]) ⟨_, _, _, _, _, _, _, rfl⟩ fun d hd env ⟨u1, u2, u3, u4, u5, u6, u7, he⟩ => by
    subst he
    simp only [lstep, b_L_right_1, cI, DP.run, DP.runB, evS, evE, evA, evT, evP, evI, startE, startX, slot_zero, slot_succ, own_zero, own_succ, box_zero, box_succ, bind_n, Dr.bind_assoc, pur_n, put_nm, put_tp, put_tpL, puts_nil, puts_cons, then_n, then_rt, then_rtO, told_rtO, put2_c, put3_c, evF, evB, flat_i, flat_b, flat_s, asLst_l, f_intI, f_intB, f_odd, f_notN, f_fListL, f_fListT, non_i, non_n, f_neS, then_bk, then_ct, told_rt, evT_qY, andB_t, andB_f, orB_t, orB_f, asInt_i, Dr.opt_some, small, within, List.length_cons, List.length_nil, List.map_cons, List.map_nil, List.cons_append, List.nil_append, List.replicate, List.set_cons_zero, List.set_cons_succ, Tt.vs, Ts.vs, Option.bind_some, Nat.reduceAdd, Nat.reduceSub, Nat.reduceLeDiff, Nat.reduceEqDiff, reduceIte, if_true, if_false, asIx_int, f_add, f_sub, f_lt, f_le, f_gt, f_ge, f_addA, f_subA, f_eqI, f_eqS, f_eqB, f_neI, f_isN, f_ixL, f_ixT, f_neg, f_not, f_min, f_max, f_abs, f_tB, f_lenL, f_lenT, f_list, f_listT, f_tup, f_tupT, f_wSeqL, f_wSeqT, f_cutT, f_cutL, wipeX, List.all_cons, List.all_nil, List.contains_cons, List.elem_nil, Bool.and_true, Bool.true_and, beq_self_eq_true, Bool.or_true, Bool.true_or, Bool.false_eq_true, Option.some.injEq, decide_true, decide_false, Bool.not_true, Bool.not_false, Nat.reduceBEq, Bool.or_false, Bool.false_or, List.append_nil, List.singleton_append, true_and, and_true, and_self]
    refine Lq.up (Lq.bind (n := 4) (m := 16) (sizes_le (m := 3) (h := 3) (by decide) (by decide) (by decide) (by decide)) ?_) (by decide)
    rintro _ ⟨rs, rfl, n1, n2, hr⟩
    try simp only [DP.run, DP.runB, evS, evE, evA, evT, evP, evI, startE, startX, slot_zero, slot_succ, own_zero, own_succ, box_zero, box_succ, bind_n, Dr.bind_assoc, pur_n, put_nm, put_tp, put_tpL, puts_nil, puts_cons, then_n, then_rt, then_rtO, told_rtO, put2_c, put3_c, evF, evB, flat_i, flat_b, flat_s, asLst_l, f_intI, f_intB, f_odd, f_notN, f_fListL, f_fListT, non_i, non_n, f_neS, then_bk, then_ct, told_rt, evT_qY, andB_t, andB_f, orB_t, orB_f, asInt_i, Dr.opt_some, small, within, List.length_cons, List.length_nil, List.map_cons, List.map_nil, List.cons_append, List.nil_append, List.replicate, List.set_cons_zero, List.set_cons_succ, Tt.vs, Ts.vs, Option.bind_some, Nat.reduceAdd, Nat.reduceSub, Nat.reduceLeDiff, Nat.reduceEqDiff, reduceIte, if_true, if_false, asIx_int, f_add, f_sub, f_lt, f_le, f_gt, f_ge, f_addA, f_subA, f_eqI, f_eqS, f_eqB, f_neI, f_isN, f_ixL, f_ixT, f_neg, f_not, f_min, f_max, f_abs, f_tB, f_lenL, f_lenT, f_list, f_listT, f_tup, f_tupT, f_wSeqL, f_wSeqT, f_cutT, f_cutL, wipeX, List.all_cons, List.all_nil, List.contains_cons, List.elem_nil, Bool.and_true, Bool.true_and, beq_self_eq_true, Bool.or_true, Bool.true_or, Bool.false_eq_true, Option.some.injEq, decide_true, decide_false, Bool.not_true, Bool.not_false, Nat.reduceBEq, Bool.or_false, Bool.false_or, List.append_nil, List.singleton_append, true_and, and_true, and_self]
    refine Lq.up (Lq.bind (n := 11) (m := 4) (runs_le (m := 5) (o := 3) (by decide) (by decide) (by decide) (by decide)) ?_) (by decide)
    rintro _ ⟨w, rfl, hw⟩
    try simp only [DP.run, DP.runB, evS, evE, evA, evT, evP, evI, startE, startX, slot_zero, slot_succ, own_zero, own_succ, box_zero, box_succ, bind_n, Dr.bind_assoc, pur_n, put_nm, put_tp, put_tpL, puts_nil, puts_cons, then_n, then_rt, then_rtO, told_rtO, put2_c, put3_c, evF, evB, flat_i, flat_b, flat_s, asLst_l, f_intI, f_intB, f_odd, f_notN, f_fListL, f_fListT, non_i, non_n, f_neS, then_bk, then_ct, told_rt, evT_qY, andB_t, andB_f, orB_t, orB_f, asInt_i, Dr.opt_some, small, within, List.length_cons, List.length_nil, List.map_cons, List.map_nil, List.cons_append, List.nil_append, List.replicate, List.set_cons_zero, List.set_cons_succ, Tt.vs, Ts.vs, Option.bind_some, Nat.reduceAdd, Nat.reduceSub, Nat.reduceLeDiff, Nat.reduceEqDiff, reduceIte, if_true, if_false, asIx_int, f_add, f_sub, f_lt, f_le, f_gt, f_ge, f_addA, f_subA, f_eqI, f_eqS, f_eqB, f_neI, f_isN, f_ixL, f_ixT, f_neg, f_not, f_min, f_max, f_abs, f_tB, f_lenL, f_lenT, f_list, f_listT, f_tup, f_tupT, f_wSeqL, f_wSeqT, f_cutT, f_cutL, wipeX, List.all_cons, List.all_nil, List.contains_cons, List.elem_nil, Bool.and_true, Bool.true_and, beq_self_eq_true, Bool.or_true, Bool.true_or, Bool.false_eq_true, Option.some.injEq, decide_true, decide_false, Bool.not_true, Bool.not_false, Nat.reduceBEq, Bool.or_false, Bool.false_or, List.append_nil, List.singleton_append, true_and, and_true, and_self]
    refine Lq.up (bindq (n := 4) (m := 0) (wide_lq n1 (by omega) hr hw) ?_) (by decide)
    rintro _ ⟨u, rfl, ul, hu⟩
    try simp only [DP.run, DP.runB, evS, evE, evA, evT, evP, evI, startE, startX, slot_zero, slot_succ, own_zero, own_succ, box_zero, box_succ, bind_n, Dr.bind_assoc, pur_n, put_nm, put_tp, put_tpL, puts_nil, puts_cons, then_n, then_rt, then_rtO, told_rtO, put2_c, put3_c, evF, evB, flat_i, flat_b, flat_s, asLst_l, f_intI, f_intB, f_odd, f_notN, f_fListL, f_fListT, non_i, non_n, f_neS, then_bk, then_ct, told_rt, evT_qY, andB_t, andB_f, orB_t, orB_f, asInt_i, Dr.opt_some, small, within, List.length_cons, List.length_nil, List.map_cons, List.map_nil, List.cons_append, List.nil_append, List.replicate, List.set_cons_zero, List.set_cons_succ, Tt.vs, Ts.vs, Option.bind_some, Nat.reduceAdd, Nat.reduceSub, Nat.reduceLeDiff, Nat.reduceEqDiff, reduceIte, if_true, if_false, asIx_int, f_add, f_sub, f_lt, f_le, f_gt, f_ge, f_addA, f_subA, f_eqI, f_eqS, f_eqB, f_neI, f_isN, f_ixL, f_ixT, f_neg, f_not, f_min, f_max, f_abs, f_tB, f_lenL, f_lenT, f_list, f_listT, f_tup, f_tupT, f_wSeqL, f_wSeqT, f_cutT, f_cutL, wipeX, List.all_cons, List.all_nil, List.contains_cons, List.elem_nil, Bool.and_true, Bool.true_and, beq_self_eq_true, Bool.or_true, Bool.true_or, Bool.false_eq_true, Option.some.injEq, decide_true, decide_false, Bool.not_true, Bool.not_false, Nat.reduceBEq, Bool.or_false, Bool.false_or, List.append_nil, List.singleton_append, true_and, and_true, and_self]
    obtain ⟨y4, y5, y6, e⟩ := tail_eq n1 (by omega) hr ul hu (.dat d) u4 u5 u6 u7
    rw [e]
    exact Lq.ret ⟨_, rfl, _, _, _, _, _, _, _, rfl⟩
  refine Lq.up (bindq (n := 20 * ((List.range 4).map fun (i : Nat) => PyData.int (i : Int)).length) (m := 0) hL ?_) (by decide)
  rintro _ ⟨env', rfl, u1, u2, u3, u4, u5, u6, u7, rfl⟩
  try simp only [DP.run, DP.runB, evS, evE, evA, evT, evP, evI, startE, startX, slot_zero, slot_succ, own_zero, own_succ, box_zero, box_succ, bind_n, Dr.bind_assoc, pur_n, put_nm, put_tp, put_tpL, puts_nil, puts_cons, then_n, then_rt, then_rtO, told_rtO, put2_c, put3_c, evF, evB, flat_i, flat_b, flat_s, asLst_l, f_intI, f_intB, f_odd, f_notN, f_fListL, f_fListT, non_i, non_n, f_neS, then_bk, then_ct, told_rt, evT_qY, andB_t, andB_f, orB_t, orB_f, asInt_i, Dr.opt_some, small, within, List.length_cons, List.length_nil, List.map_cons, List.map_nil, List.cons_append, List.nil_append, List.replicate, List.set_cons_zero, List.set_cons_succ, Tt.vs, Ts.vs, Option.bind_some, Nat.reduceAdd, Nat.reduceSub, Nat.reduceLeDiff, Nat.reduceEqDiff, reduceIte, if_true, if_false, asIx_int, f_add, f_sub, f_lt, f_le, f_gt, f_ge, f_addA, f_subA, f_eqI, f_eqS, f_eqB, f_neI, f_isN, f_ixL, f_ixT, f_neg, f_not, f_min, f_max, f_abs, f_tB, f_lenL, f_lenT, f_list, f_listT, f_tup, f_tupT, f_wSeqL, f_wSeqT, f_cutT, f_cutL, wipeX, List.all_cons, List.all_nil, List.contains_cons, List.elem_nil, Bool.and_true, Bool.true_and, beq_self_eq_true, Bool.or_true, Bool.true_or, Bool.false_eq_true, Option.some.injEq, decide_true, decide_false, Bool.not_true, Bool.not_false, Nat.reduceBEq, Bool.or_false, Bool.false_or, List.append_nil, List.singleton_append, true_and, and_true, and_self]
  exact Lq.ret rfl
theorem holds : (sem_L_right []).ok 1000 fun d _ => d = .bool true := ok_of_le (Lq.up right_le (by decide))
end K31
namespace K31
open PySem PySem.Spec PyProof.Rows L2 ZX DL RT DP
section
variable {P : Program} {w : World} {K : PySem.W.Frag} {mg : Str → Option Value} {base : Heap} {f : Addr} {fd : FuncData}
def Rright : List PyData → Nat → (PyData → Prop) → Prop := fun ds c Φ => ds = [] ∧ c = 1000 ∧ Φ = fun d => d = .bool true
theorem b01 (c : Bool) : 0 ≤ (if c = true then (1 : Int) else 0) ∧ (if c = true then (1 : Int) else 0) ≤ 1 := by
  cases c <;> decide
def spBox (K : PySem.W.Frag) : Sp := fun vs H Q _ => ∃ (a : Addr) (ns : List Int) (k : Int), vs = [.ref a, .int k] ∧ SqL K H a (ns.map V.int) ∧ 0 ≤ k ∧ k ≤ 100 ∧ ∀ p (c0 c1 : Int), H p = none → 0 ≤ c0 → 0 ≤ c1 → c1 < 2 ^ 33 → Q (.ref p) (upd H p (.lst [.int c0, .int c1, .int 0]))
theorem ok_box (B : Bi mg) (F : Fun K "_law_box" "_law_box" s_L_box f fd) : FnOk P w K mg base CX0 1 f fd ["_law_script", "_law_k"] (spBox K) := by
  refine F.ok c_L_box (fun vs H Q E h => ?_) (fun cdv A outer s H vs Q E hr h => ?_)
  · obtain ⟨a, ns, k, rfl, _⟩ := h
    rfl
  · obtain ⟨a, ns, k, rfl, hS, k0, k1, q⟩ := h
    refine ⟨_, (pss_cons (ps_set (i := 2) c_L_box.nd rfl (.inl rfl) (pe_ifExp (pt_cmpR op_lt (pv 1) (pe_callB call_len_seq (by rfl) B.n_len (by decide +kernel) (pa_cons (pv 0) pa_nil)) (nomark _)) (pe_ix ix_list (pv 0) (pv 1) (fun _ _ => rfl)) pe_int))
      (pss_one (ps_ret (pe_lst (pa_cons (pe_op op_mul (pe_callB call_abs (by rfl) B.n_abs (by decide +kernel) (pa_cons (pv 2) pa_nil)) (pe_callTy call_int1 (by rfl) B.n_int (by decide +kernel) (pa_cons (pe_cmpR op_ge (pe_callB call_abs (by rfl) B.n_abs (by decide +kernel) (pa_cons (pv 2) pa_nil)) (pe_op op_pow pe_int pe_int) (nomark _)) pa_nil))) (pa_cons (pe_op op_add (pe_op op_add (pe_op op_modN (pv 2) pe_int) (pe_op op_mul pe_int (pv 1))) pe_int) (pa_cons pe_int pa_nil))))))), ?_⟩
    have fin : ∀ z : Int, ∀ Qr : VK, (∀ p (c0 c1 : Int), H p = none → 0 ≤ c0 → 0 ≤ c1 → c1 < 2 ^ 33 → Qr (.ref p) (upd H p (.lst [.int c0, .int c1, .int 0]))) → ∀ p, H p = none → Qr (.ref p) (upd H p (.lst [.int ((if z < 0 then -z else z) * (if decide (10 ^ (Int.toNat 18) ≤ (if z < 0 then -z else z)) = true then 1 else 0)), .int (z.fmod 2147483629 + 7919 * k + 29), .int 0])) := fun z Qr h p np => by
      have f0 : 0 ≤ z.fmod 2147483629 := by
        rw [Int.fmod_eq_emod_of_nonneg _ (by decide)]
        exact Int.emod_nonneg _ (by decide)
      have f1 : z.fmod 2147483629 < 2147483629 := by
        rw [Int.fmod_eq_emod_of_nonneg _ (by decide)]
        exact Int.emod_lt_of_pos _ (by decide)
      refine h p _ _ np ?_ (by omega) (by omega)
      refine Int.mul_nonneg ?_ ?_
      · split <;> omega
      · exact (b01 _).1
    -- cell = 0; if k < len(script): cell = script[k]
    refine ⟨_, rfl, _, rfl, a, _, rfl, .inl hS, k, _, rfl, rfl, _, rfl, ite2 (fun e => ?_) (fun e => ?_)⟩
    · have hk : k < (ns.map V.int).length := of_decide_eq_true e
      obtain ⟨j, rfl⟩ := Int.eq_ofNat_of_zero_le k0
      have hj : j < ns.length := by
        rw [List.length_map] at hk
        omega
      have hg : (ns.map V.int)[j]? = some (.int ns[j]) := by
        rw [List.getElem?_map, List.getElem?_eq_getElem hj]
        rfl
      refine ⟨_, rfl, _, rfl, a, _, _, _, rfl, rfl, hS, atI_nat hg, ?_⟩
      refine ⟨_, rfl, _, rfl, _, rfl, _, rfl, 10, 18, rfl, rfl, ⟨by decide, by decide, by decide⟩, _, _, rfl, rfl, .inr ⟨_, rfl, _, _, rfl, rfl, .inr ⟨?_, ?_⟩, _, rfl, _, 2147483629, rfl, rfl, (show (2147483629 : Int) ≠ 0 by decide), _, rfl, 7919, _, rfl, rfl, .inl ⟨by decide, by decide⟩, _, _, rfl, rfl, _, 29, rfl, rfl, by show 3 ≤ sizeLine; decide, fun p np => fin ns[j] Q q p np⟩⟩
      · exact Int.lt_of_lt_of_le (by decide) (b01 _).1
      · exact Int.lt_of_le_of_lt (b01 _).2 (by decide)
    · refine ⟨_, rfl, _, rfl, _, rfl, _, rfl, 10, 18, rfl, rfl, ⟨by decide, by decide, by decide⟩, _, _, rfl, rfl, .inr ⟨_, rfl, _, _, rfl, rfl, .inr ⟨?_, ?_⟩, _, rfl, _, 2147483629, rfl, rfl, (show (2147483629 : Int) ≠ 0 by decide), _, rfl, 7919, _, rfl, rfl, .inl ⟨by decide, by decide⟩, _, _, rfl, rfl, _, 29, rfl, rfl, by show 3 ≤ sizeLine; decide, fun p np => fin 0 Q q p np⟩⟩
      · exact Int.lt_of_lt_of_le (by decide) (b01 _).1
      · exact Int.lt_of_le_of_lt (b01 _).2 (by decide)
structure Cw (P : Program) (w : World) (K : PySem.W.Frag) (mg : Str → Option Value) (base : Heap) : Prop where
  L_box : Cl P w K mg base 1 "_law_box" s_L_box ["_law_script", "_law_k"] (spBox K)
  L_right : Cl P w K mg base 6 "_law_right" s_L_right ["_law_box_here"] (spB K Rright)
def spLaw (K : PySem.W.Frag) : Sp := fun vs H Q _ => ∃ (a : Addr) (ns : List Int), vs = [.ref a] ∧ SqL K H a (ns.map V.int) ∧ ns.length ≤ 63 ∧ ∀ H', Q (.bl true) H'
theorem ok_law (B : Bi mg) (C : Cw P w K mg base) (F : Fun K "law" "law" s_law f fd) : FnOk P w K mg base CX0 7 f fd ["_law_script"] (spLaw K) := by
  refine F.ok c_law (fun vs H Q E h => ?_) (fun cdv A outer s H vs Q E hr h => ?_)
  · obtain ⟨a, ns, rfl, _⟩ := h
    rfl
  · obtain ⟨a, ns, rfl, hS, hlen, q⟩ := h
    refine ⟨_, (pss_one (ps_ret (pe_callB (cr_all rfl) (by rfl) B.n_all (by decide +kernel) (pa_cons (pe_lc (own := [("_law_k", 1)]) (g := gName 1) (tt := tYes) rfl c_law.nd (pi_range1 (by rfl) B.n_range (pa_cons (pe_op op_add pe_int (pe_callB (call_min2 rfl) (by rfl) B.n_min (by decide +kernel) (pa_cons pe_int (pa_cons (pe_callB call_len_seq (by rfl) B.n_len (by decide +kernel) (pa_cons (pv 0) pa_nil)) pa_nil)))) pa_nil)) (blkOk_by (N := N_law) (sc := defScope s_law) (by decide +kernel)) (fun _ _ _ _ _ => (pg_name (i := 1) c_law.nd rfl (.inl rfl))) (fun _ _ _ _ _ => pts_nil) (fun _ _ _ _ _ => (pe_cl C.L_right hr (by omega) (by rfl) (pa_cons (pe_cl C.L_box hr (by omega) (by rfl) (pa_cons (pv 0) (pa_cons (pv 1) pa_nil))) pa_nil)))) pa_nil)))), ?_⟩
    have hb : (1 + (if ((ns.map V.int).length : Int) < 3 then ((ns.map V.int).length : Int) else 3)) ≤ 5 ∧ 1 ≤ (1 + (if ((ns.map V.int).length : Int) < 3 then ((ns.map V.int).length : Int) else 3)) := by
      split <;> omega
    refine ⟨.ref a, rfl, a, _, rfl, .inl hS, 3, _, rfl, 1, _, rfl, rfl, _, rfl, ?_, ?_, fun D nD => ?_⟩
    · have := hb.2
      omega
    · have := hb.1
      omega
    refine lc_range (fun i H' => (∀ c o, H c = some o → H' c = some o) ∧ H' D = some (.lst ((List.replicate i true).map V.bl)) ∧ i ≤ 5) ⟨fun c o e => ?_, upd_same, by omega⟩ (fun i H' hi ⟨h1, h2, h3⟩ => ?_) (fun H' ⟨h1, h2, h3⟩ => ?_)
    · rw [upd_ne (ne_of_none e nD)]
      exact e
    · refine ⟨rfl, ?_⟩
      show tCall (spB K Rright) [] E0 (tCons (tCall (spBox K) [] E0 (tCons (tVar 0) (tCons (tVar 1) tNil))) tNil) _ H' _
      have hi4 : i < 5 := by omega
      refine ⟨_, rfl, _, rfl, a, ns, 0 + (i : Int), rfl, Same.seq h1 hS, by omega, by omega, fun p c0 c1 np a0 a1 a2 => ?_⟩
      have nDp : D ≠ p := ne_of_none h2 np
      refine ⟨p, [], fun _ => none, [], 0, 1000, _, rfl, .nil, ⟨(fun _ _ e => by cases e), fun _ _ => rfl, ⟨c0, c1, 0, upd_same, a0, a1, a2, by omega, by decide⟩⟩, ⟨rfl, rfl, rfl⟩, fun v d G2 H2 m w2 dv hd => ?_⟩
      subst hd
      cases dv
      have k2 : ∀ c o, H' c = some o → H2 c = some o := fun c o e => m.kp c o (by
        rw [upd_ne (ne_of_none e np)]
        exact e) (ne_of_none e np)
      refine ⟨_, k2 D _ h2, ?_, fun c o e => ?_, ?_, by omega⟩
      · rw [List.length_map, List.length_replicate]
        exact Nat.lt_of_le_of_lt (show i ≤ 5 by omega) (by decide)
      · rw [upd_ne (ne_of_none e nD)]
        exact k2 c o (h1 c o e)
      · rw [upd_same, List.replicate_succ', List.map_append]
        rfl
    · refine ⟨D, _, rfl, .inl (.inl h2), ?_⟩
      rw [List.all_replicate]
      simp
      exact q _
end
structure DF0 (K : PySem.W.Frag) (w : World) (a : Addr) (es : Array DictEntry) (n : Nat) (u0 u1 u2 u3 : Value) : Prop where
  a1 : PySem.W.nsIn K mainGlobals "HEARD_AT" = some (some (.ref a))
  l : K.lookup a = some ⟨.type "dict", none, .dict es n, #[]⟩
  k : PySem.W.KeysLit w.params es.toList
  n0 : PySem.W.nsIn K a "R+" = some (some u0)
  r0 : RelV (.int 0) u0
  n1 : PySem.W.nsIn K a "R-" = some (some u1)
  r1 : RelV (.int 1) u1
  n2 : PySem.W.nsIn K a "L+" = some (some u2)
  r2 : RelV (.int 2) u2
  n3 : PySem.W.nsIn K a "L-" = some (some u3)
  r3 : RelV (.int 3) u3
structure TF0 (K : PySem.W.Frag) (a : Addr) (its : Array Value) (n : Nat) (od : Option Addr) (sl : Array (Option Value)) : Prop where
  a1 : PySem.W.nsIn K mainGlobals "INS" = some (some (.ref a))
  l : K.lookup a = some ⟨.type "tuple", od, .seq its n, sl⟩
  z : its.size ≤ sizeLine
  v : Vals ((gts 0).map V.str) its.toList
theorem hD_mk {K : PySem.W.Frag} {w : World} {z0 : Addr} {es0 : Array DictEntry} {n0 : Nat} {u00 u01 u02 u03 : Value} (d0 : DF0 K w z0 es0 n0 u00 u01 u02 u03) {zt0 : Addr} {ti0 : Array Value} {tn0 : Nat} {to0 : Option Addr} {ts0 : Array (Option Value)} (u0 : TF0 K zt0 ti0 tn0 to0 ts0) : HD K w (da_ z0 zt0) := by
  refine ⟨fun i a z d h e => ?_, fun i a hi h => ?_, fun C h => (nomatch h), (fun c C hc h => by
    match c, hc with
    | 0, _ => cases h
    | 1, _ => cases h
    | 2, _ => cases h), ?_, ?_⟩
  · match i, h with
    | 0, h =>
      cases h
      rcases gds0_of e with ⟨rfl, rfl⟩ | ⟨rfl, rfl⟩ | ⟨rfl, rfl⟩ | ⟨rfl, rfl⟩
      · exact ⟨_, ⟨_, _, _, d0.l, d0.k, d0.n0, d0.r0⟩, fun G => .int _⟩
      · exact ⟨_, ⟨_, _, _, d0.l, d0.k, d0.n1, d0.r1⟩, fun G => .int _⟩
      · exact ⟨_, ⟨_, _, _, d0.l, d0.k, d0.n2, d0.r2⟩, fun G => .int _⟩
      · exact ⟨_, ⟨_, _, _, d0.l, d0.k, d0.n3, d0.r3⟩, fun G => .int _⟩
    | 1, h => cases h
    | 2, h => cases h
    | n + 3, h => cases e
  · match i, hi, h with
    | 0, _, h =>
      cases h
      exact ⟨_, _, _, u0.l, rfl, rfl, u0.z, u0.v⟩
    | 1, _, h => cases h
    | 2, _, h => cases h
    | 3, _, h => cases h
    | 4, _, h => cases h
    | 5, _, h => cases h
    | 6, _, h => cases h
    | 7, _, h => cases h
    | 8, _, h => cases h
    | 9, _, h => cases h
    | 10, _, h => cases h
    | 11, _, h => cases h
    | 12, _, h => cases h
    | 13, _, h => cases h
    | 14, _, h => cases h
    | 15, _, h => cases h
    | 16, _, h => cases h
    | 17, _, h => cases h
    | 18, _, h => cases h
    | 19, _, h => cases h
    | n + 20, hi, _ => exact absurd hi (by omega)
  · exact fun r D hr h => by
        match r, hr, h with
        | 0, _, h => cases h
        | 1, _, h => cases h
        | 2, _, h => cases h
        | 3, _, h => cases h
        | 4, _, h => cases h
        | 5, _, h => cases h
        | 6, _, h => cases h
        | 7, _, h => cases h
        | 8, _, h => cases h
        | 9, _, h => cases h
        | 10, _, h => cases h
        | 11, _, h => cases h
        | 12, _, h => cases h
        | 13, _, h => cases h
        | 14, _, h => cases h
        | 15, _, h => cases h
        | 16, _, h => cases h
        | 17, _, h => cases h
        | 18, _, h => cases h
        | 19, _, h => cases h
        | n + 20, hr, _ => exact absurd hr (by omega)
  · exact fun r D c C hr hc h1 h2 => by
        match r, hr, h1 with
        | 0, _, h1 => cases h1
        | 1, _, h1 => cases h1
        | 2, _, h1 => cases h1
        | 3, _, h1 => cases h1
        | 4, _, h1 => cases h1
        | 5, _, h1 => cases h1
        | 6, _, h1 => cases h1
        | 7, _, h1 => cases h1
        | 8, _, h1 => cases h1
        | 9, _, h1 => cases h1
        | 10, _, h1 => cases h1
        | 11, _, h1 => cases h1
        | 12, _, h1 => cases h1
        | 13, _, h1 => cases h1
        | 14, _, h1 => cases h1
        | 15, _, h1 => cases h1
        | 16, _, h1 => cases h1
        | 17, _, h1 => cases h1
        | 18, _, h1 => cases h1
        | 19, _, h1 => cases h1
        | n + 20, hr, _ => exact absurd hr (by omega)
structure FT (K : PySem.W.Frag) (x : Str) (st : Stmt) (f : Addr) (oc : Value) (od an : Option Addr) (sl : Array (Option Value)) (kV dc pm cd ct : Value) : Prop where
  a : PySem.W.nsIn K mainGlobals x = some (some (.ref f))
  l : K.lookup f = some ⟨oc, od, .func (PySem.W.fnOf x x (defArgs st) (defBody st) (defScope st) .none kV dc pm an cd ct), sl⟩
  c : PySem.W.codeIn K cd x = true
  k : PySem.W.keepIn K (.ref f) = true
set_option maxHeartbeats 8000000 in
theorem all_mk {q : Program} {w : World} {K : PySem.W.Frag} {h : Heap} {mg : Str → Option Value} {fa : Addr} (X : K.In h) (G : h.Ns mainGlobals mg) (hfa : mg "law" = some (.ref fa))
    {z0 : Addr} {es0 : Array DictEntry} {n0 : Nat} {u00 u01 u02 u03 : Value} (d0 : DF0 K w z0 es0 n0 u00 u01 u02 u03)
    {zt0 : Addr} {ti0 : Array Value} {tn0 : Nat} {to0 : Option Addr} {ts0 : Array (Option Value)} (u0 : TF0 K zt0 ti0 tn0 to0 ts0)
    {f0 : Addr} {oc0 : Value} {od0 an0 : Option Addr} {sl0 : Array (Option Value)} {kV0 dc0 pm0 cd0 ct0 : Value} (t0 : FT K "bare" s_bare f0 oc0 od0 an0 sl0 kV0 dc0 pm0 cd0 ct0)
    {f1 : Addr} {oc1 : Value} {od1 an1 : Option Addr} {sl1 : Array (Option Value)} {kV1 dc1 pm1 cd1 ct1 : Value} (t1 : FT K "full" s_full f1 oc1 od1 an1 sl1 kV1 dc1 pm1 cd1 ct1)
    {f2 : Addr} {oc2 : Value} {od2 an2 : Option Addr} {sl2 : Array (Option Value)} {kV2 dc2 pm2 cd2 ct2 : Value} (t2 : FT K "reached" s_reached f2 oc2 od2 an2 sl2 kV2 dc2 pm2 cd2 ct2)
    {f3 : Addr} {oc3 : Value} {od3 an3 : Option Addr} {sl3 : Array (Option Value)} {kV3 dc3 pm3 cd3 ct3 : Value} (t3 : FT K "run_done" s_run_done f3 oc3 od3 an3 sl3 kV3 dc3 pm3 cd3 ct3)
    {f4 : Addr} {oc4 : Value} {od4 an4 : Option Addr} {sl4 : Array (Option Value)} {kV4 dc4 pm4 cd4 ct4 : Value} (t4 : FT K "word_done" s_word_done f4 oc4 od4 an4 sl4 kV4 dc4 pm4 cd4 ct4)
    {f5 : Addr} {oc5 : Value} {od5 an5 : Option Addr} {sl5 : Array (Option Value)} {kV5 dc5 pm5 cd5 ct5 : Value} (t5 : FT K "breathed" s_breathed f5 oc5 od5 an5 sl5 kV5 dc5 pm5 cd5 ct5)
    {f6 : Addr} {oc6 : Value} {od6 an6 : Option Addr} {sl6 : Array (Option Value)} {kV6 dc6 pm6 cd6 ct6 : Value} (t6 : FT K "made_one" s_made_one f6 oc6 od6 an6 sl6 kV6 dc6 pm6 cd6 ct6)
    {f7 : Addr} {oc7 : Value} {od7 an7 : Option Addr} {sl7 : Array (Option Value)} {kV7 dc7 pm7 cd7 ct7 : Value} (t7 : FT K "_law_box" s_L_box f7 oc7 od7 an7 sl7 kV7 dc7 pm7 cd7 ct7)
    {f8 : Addr} {oc8 : Value} {od8 an8 : Option Addr} {sl8 : Array (Option Value)} {kV8 dc8 pm8 cd8 ct8 : Value} (t8 : FT K "_law_take" s_L_take f8 oc8 od8 an8 sl8 kV8 dc8 pm8 cd8 ct8)
    {f9 : Addr} {oc9 : Value} {od9 an9 : Option Addr} {sl9 : Array (Option Value)} {kV9 dc9 pm9 cd9 ct9 : Value} (t9 : FT K "_law_same" s_L_same f9 oc9 od9 an9 sl9 kV9 dc9 pm9 cd9 ct9)
    {f10 : Addr} {oc10 : Value} {od10 an10 : Option Addr} {sl10 : Array (Option Value)} {kV10 dc10 pm10 cd10 ct10 : Value} (t10 : FT K "_law_sizes" s_L_sizes f10 oc10 od10 an10 sl10 kV10 dc10 pm10 cd10 ct10)
    {f11 : Addr} {oc11 : Value} {od11 an11 : Option Addr} {sl11 : Array (Option Value)} {kV11 dc11 pm11 cd11 ct11 : Value} (t11 : FT K "_law_spot" s_L_spot f11 oc11 od11 an11 sl11 kV11 dc11 pm11 cd11 ct11)
    {f12 : Addr} {oc12 : Value} {od12 an12 : Option Addr} {sl12 : Array (Option Value)} {kV12 dc12 pm12 cd12 ct12 : Value} (t12 : FT K "_law_breathed" s_L_breathed f12 oc12 od12 an12 sl12 kV12 dc12 pm12 cd12 ct12)
    {f13 : Addr} {oc13 : Value} {od13 an13 : Option Addr} {sl13 : Array (Option Value)} {kV13 dc13 pm13 cd13 ct13 : Value} (t13 : FT K "_law_runs" s_L_runs f13 oc13 od13 an13 sl13 kV13 dc13 pm13 cd13 ct13)
    {f14 : Addr} {oc14 : Value} {od14 an14 : Option Addr} {sl14 : Array (Option Value)} {kV14 dc14 pm14 cd14 ct14 : Value} (t14 : FT K "_law_gone" s_L_gone f14 oc14 od14 an14 sl14 kV14 dc14 pm14 cd14 ct14)
    {f15 : Addr} {oc15 : Value} {od15 an15 : Option Addr} {sl15 : Array (Option Value)} {kV15 dc15 pm15 cd15 ct15 : Value} (t15 : FT K "_law_all" s_L_all f15 oc15 od15 an15 sl15 kV15 dc15 pm15 cd15 ct15)
    {f16 : Addr} {oc16 : Value} {od16 an16 : Option Addr} {sl16 : Array (Option Value)} {kV16 dc16 pm16 cd16 ct16 : Value} (t16 : FT K "_law_wide" s_L_wide f16 oc16 od16 an16 sl16 kV16 dc16 pm16 cd16 ct16)
    {f17 : Addr} {oc17 : Value} {od17 an17 : Option Addr} {sl17 : Array (Option Value)} {kV17 dc17 pm17 cd17 ct17 : Value} (t17 : FT K "_law_right" s_L_right f17 oc17 od17 an17 sl17 kV17 dc17 pm17 cd17 ct17)
    {f18 : Addr} {oc18 : Value} {od18 an18 : Option Addr} {sl18 : Array (Option Value)} {kV18 dc18 pm18 cd18 ct18 : Value} (t18 : FT K "law" s_law f18 oc18 od18 an18 sl18 kV18 dc18 pm18 cd18 ct18)
    (z_len : PySem.W.nsIn K mainGlobals "len" = some none)
    (z_isinstance : PySem.W.nsIn K mainGlobals "isinstance" = some none)
    (z_all : PySem.W.nsIn K mainGlobals "all" = some none)
    (z_any : PySem.W.nsIn K mainGlobals "any" = some none)
    (z_zip : PySem.W.nsIn K mainGlobals "zip" = some none)
    (z_range : PySem.W.nsIn K mainGlobals "range" = some none)
    (z_min : PySem.W.nsIn K mainGlobals "min" = some none)
    (z_max : PySem.W.nsIn K mainGlobals "max" = some none)
    (z_abs : PySem.W.nsIn K mainGlobals "abs" = some none)
    (z_int : PySem.W.nsIn K mainGlobals "int" = some none)
    (z_bool : PySem.W.nsIn K mainGlobals "bool" = some none)
    (z_str : PySem.W.nsIn K mainGlobals "str" = some none)
    (z_list : PySem.W.nsIn K mainGlobals "list" = some none)
    (z_tuple : PySem.W.nsIn K mainGlobals "tuple" = some none)
    (z_sum : PySem.W.nsIn K mainGlobals "sum" = some none)
    (z_enumerate : PySem.W.nsIn K mainGlobals "enumerate" = some none)
    (z_reversed : PySem.W.nsIn K mainGlobals "reversed" = some none)
    (z_divmod : PySem.W.nsIn K mainGlobals "divmod" = some none)
    (z_dict : PySem.W.nsIn K mainGlobals "dict" = some none)
    (z_set : PySem.W.nsIn K mainGlobals "set" = some none)
    : ∃ fd : FuncData, (∀ (s : Shared) (v : Value), BindsTo s fd ⟨[v], []⟩ [("_law_script", v)]) ∧ ∀ base : Heap, K.In base → base.Ns mainGlobals mg → FnOk q w K mg base CX0 7 fa fd ["_law_script"] (spLaw K) := by
  have e := hfa.symm.trans (PySem.W.mg_of X G t18.a)
  cases e
  have F0 := fun_mk (st := s_bare) t0.l t0.c t0.k
  have m0 := PySem.W.mg_of X G t0.a
  have F1 := fun_mk (st := s_full) t1.l t1.c t1.k
  have m1 := PySem.W.mg_of X G t1.a
  have F2 := fun_mk (st := s_reached) t2.l t2.c t2.k
  have m2 := PySem.W.mg_of X G t2.a
  have F3 := fun_mk (st := s_run_done) t3.l t3.c t3.k
  have m3 := PySem.W.mg_of X G t3.a
  have F4 := fun_mk (st := s_word_done) t4.l t4.c t4.k
  have m4 := PySem.W.mg_of X G t4.a
  have F5 := fun_mk (st := s_breathed) t5.l t5.c t5.k
  have m5 := PySem.W.mg_of X G t5.a
  have F6 := fun_mk (st := s_made_one) t6.l t6.c t6.k
  have m6 := PySem.W.mg_of X G t6.a
  have F7 := fun_mk (st := s_L_box) t7.l t7.c t7.k
  have m7 := PySem.W.mg_of X G t7.a
  have F8 := fun_mk (st := s_L_take) t8.l t8.c t8.k
  have m8 := PySem.W.mg_of X G t8.a
  have F9 := fun_mk (st := s_L_same) t9.l t9.c t9.k
  have m9 := PySem.W.mg_of X G t9.a
  have F10 := fun_mk (st := s_L_sizes) t10.l t10.c t10.k
  have m10 := PySem.W.mg_of X G t10.a
  have F11 := fun_mk (st := s_L_spot) t11.l t11.c t11.k
  have m11 := PySem.W.mg_of X G t11.a
  have F12 := fun_mk (st := s_L_breathed) t12.l t12.c t12.k
  have m12 := PySem.W.mg_of X G t12.a
  have F13 := fun_mk (st := s_L_runs) t13.l t13.c t13.k
  have m13 := PySem.W.mg_of X G t13.a
  have F14 := fun_mk (st := s_L_gone) t14.l t14.c t14.k
  have m14 := PySem.W.mg_of X G t14.a
  have F15 := fun_mk (st := s_L_all) t15.l t15.c t15.k
  have m15 := PySem.W.mg_of X G t15.a
  have F16 := fun_mk (st := s_L_wide) t16.l t16.c t16.k
  have m16 := PySem.W.mg_of X G t16.a
  have F17 := fun_mk (st := s_L_right) t17.l t17.c t17.k
  have m17 := PySem.W.mg_of X G t17.a
  have F18 := fun_mk (st := s_law) t18.l t18.c t18.k
  have m18 := PySem.W.mg_of X G t18.a
  have B : Bi mg := ⟨PySem.W.mg_none_of X G z_len, PySem.W.mg_none_of X G z_isinstance, PySem.W.mg_none_of X G z_all, PySem.W.mg_none_of X G z_any, PySem.W.mg_none_of X G z_zip, PySem.W.mg_none_of X G z_range, PySem.W.mg_none_of X G z_min, PySem.W.mg_none_of X G z_max, PySem.W.mg_none_of X G z_abs, PySem.W.mg_none_of X G z_int, PySem.W.mg_none_of X G z_bool, PySem.W.mg_none_of X G z_str, PySem.W.mg_none_of X G z_list, PySem.W.mg_none_of X G z_tuple, PySem.W.mg_none_of X G z_sum, PySem.W.mg_none_of X G z_enumerate, PySem.W.mg_none_of X G z_reversed, PySem.W.mg_none_of X G z_divmod, PySem.W.mg_none_of X G z_dict, PySem.W.mg_none_of X G z_set⟩
  have Dc : Dcs K w mg z0 zt0 := ⟨hD_mk d0 u0, PySem.W.mg_of X G d0.a1, PySem.W.mg_of X G u0.a1⟩
  have b0 := F0.binds (ps := ["rooms"]) fun _ _ _ _ _ _ us hl => match us, hl with | [_], _ => rfl
  have b1 := F1.binds (ps := ["rooms"]) fun _ _ _ _ _ _ us hl => match us, hl with | [_], _ => rfl
  have b2 := F2.binds (ps := ["rooms", "breath"]) fun _ _ _ _ _ _ us hl => match us, hl with | [_, _], _ => rfl
  have b3 := F3.binds (ps := ["rooms", "standing", "breath", "many"]) fun _ _ _ _ _ _ us hl => match us, hl with | [_, _, _, _], _ => rfl
  have b4 := F4.binds (ps := ["rooms", "standing", "word"]) fun _ _ _ _ _ _ us hl => match us, hl with | [_, _, _], _ => rfl
  have b5 := F5.binds (ps := ["rooms", "standing", "word"]) fun _ _ _ _ _ _ us hl => match us, hl with | [_, _, _], _ => rfl
  have b6 := F6.binds (ps := ["rooms", "word"]) fun _ _ _ _ _ _ us hl => match us, hl with | [_, _], _ => rfl
  have b7 := F7.binds (ps := ["_law_script", "_law_k"]) fun _ _ _ _ _ _ us hl => match us, hl with | [_, _], _ => rfl
  have b8 := F8.binds (ps := ["_law_box_here", "_law_below"]) fun _ _ _ _ _ _ us hl => match us, hl with | [_, _], _ => rfl
  have b9 := F9.binds (ps := ["_law_found", "_law_due"]) fun _ _ _ _ _ _ us hl => match us, hl with | [_, _], _ => rfl
  have b10 := F10.binds (ps := ["_law_box_here", "_law_most", "_law_high"]) fun _ _ _ _ _ _ us hl => match us, hl with | [_, _, _], _ => rfl
  have b11 := F11.binds (ps := ["_law_sizes_here", "_law_lot", "_law_breath"]) fun _ _ _ _ _ _ us hl => match us, hl with | [_, _, _], _ => rfl
  have b12 := F12.binds (ps := ["_law_sizes_here", "_law_lot", "_law_breath"]) fun _ _ _ _ _ _ us hl => match us, hl with | [_, _, _], _ => rfl
  have b13 := F13.binds (ps := ["_law_box_here", "_law_most", "_law_high"]) fun _ _ _ _ _ _ us hl => match us, hl with | [_, _, _], _ => rfl
  have b14 := F14.binds (ps := ["_law_sizes_here", "_law_lot", "_law_runs_here"]) fun _ _ _ _ _ _ us hl => match us, hl with | [_, _, _], _ => rfl
  have b15 := F15.binds (ps := ["_law_sizes_here"]) fun _ _ _ _ _ _ us hl => match us, hl with | [_], _ => rfl
  have b16 := F16.binds (ps := ["_law_box_here", "_law_sizes_here", "_law_runs_here"]) fun _ _ _ _ _ _ us hl => match us, hl with | [_, _, _], _ => rfl
  have b17 := F17.binds (ps := ["_law_box_here"]) fun _ _ _ _ _ _ us hl => match us, hl with | [_], _ => rfl
  refine ⟨PySem.W.fnOf "law" "law" (defArgs s_law) (defBody s_law) (defScope s_law) .none kV18 dc18 pm18 an18 cd18 ct18, fun s v => .of_eq rfl, fun base _ _ => ?_⟩
  have c_bare_ : Cl q w K mg base 1 "bare" s_bare ["rooms"] (spF K sem_bare) := ⟨f0, _, F0, ok_bare B Dc  F0, m0, b0⟩
  have c_full_ : Cl q w K mg base 1 "full" s_full ["rooms"] (spF K sem_full) := ⟨f1, _, F1, ok_full B Dc  F1, m1, b1⟩
  have c_reached_ : Cl q w K mg base 1 "reached" s_reached ["rooms", "breath"] (spF K sem_reached) := ⟨f2, _, F2, ok_reached B Dc  F2, m2, b2⟩
  have c_run_done_ : Cl q w K mg base 2 "run_done" s_run_done ["rooms", "standing", "breath", "many"] (spF K sem_run_done) := ⟨f3, _, F3, ok_run_done B Dc c_reached_ F3, m3, b3⟩
  have c_word_done_ : Cl q w K mg base 3 "word_done" s_word_done ["rooms", "standing", "word"] (spF K sem_word_done) := ⟨f4, _, F4, ok_word_done B Dc c_run_done_ F4, m4, b4⟩
  have c_breathed_ : Cl q w K mg base 4 "breathed" s_breathed ["rooms", "standing", "word"] (spF K sem_breathed) := ⟨f5, _, F5, ok_breathed B Dc c_word_done_ F5, m5, b5⟩
  have c_made_one_ : Cl q w K mg base 5 "made_one" s_made_one ["rooms", "word"] (spF K sem_made_one) := ⟨f6, _, F6, ok_made_one B Dc c_bare_ c_full_ c_breathed_ F6, m6, b6⟩
  have c_L_take_ : Cl q w K mg base 1 "_law_take" s_L_take ["_law_box_here", "_law_below"] (spD K takeF) := ⟨f8, _, F8, fn_take (ok_take B F8), m8, b8⟩
  have c_L_same0 := (cl_same (P := q) (w := w) (base := base) B F9 m9 b9 5).L_same
  have c_L_same_ : Cl q w K mg base 5 "_law_same" s_L_same ["_law_found", "_law_due"] (spF K sameF) := by
    obtain ⟨g1, g2, h1, h2, h3, h4⟩ := c_L_same0.ex
    exact ⟨g1, g2, h1, fn_same h2, h3, h4⟩
  have c_L_sizes_ : Cl q w K mg base 2 "_law_sizes" s_L_sizes ["_law_box_here", "_law_most", "_law_high"] (spD K sem_L_sizes) := ⟨f10, _, F10, ok_L_sizes B Dc c_L_take_ F10, m10, b10⟩
  have c_L_spot_ : Cl q w K mg base 1 "_law_spot" s_L_spot ["_law_sizes_here", "_law_lot", "_law_breath"] (spF K sem_L_spot) := ⟨f11, _, F11, ok_L_spot B Dc  F11, m11, b11⟩
  have c_L_breathed_ : Cl q w K mg base 2 "_law_breathed" s_L_breathed ["_law_sizes_here", "_law_lot", "_law_breath"] (spF K sem_L_breathed) := ⟨f12, _, F12, ok_L_breathed B Dc c_L_spot_ F12, m12, b12⟩
  have c_L_runs_ : Cl q w K mg base 2 "_law_runs" s_L_runs ["_law_box_here", "_law_most", "_law_high"] (spD K sem_L_runs) := ⟨f13, _, F13, ok_L_runs B Dc c_L_take_ F13, m13, b13⟩
  have c_L_gone_ : Cl q w K mg base 3 "_law_gone" s_L_gone ["_law_sizes_here", "_law_lot", "_law_runs_here"] (spF K sem_L_gone) := ⟨f14, _, F14, ok_L_gone B Dc c_L_breathed_ F14, m14, b14⟩
  have c_L_all_ : Cl q w K mg base 1 "_law_all" s_L_all ["_law_sizes_here"] (spF K sem_L_all) := ⟨f15, _, F15, ok_L_all B Dc  F15, m15, b15⟩
  have c_L_wide_ : Cl q w K mg base 2 "_law_wide" s_L_wide ["_law_box_here", "_law_sizes_here", "_law_runs_here"] (spD K sem_L_wide) := ⟨f16, _, F16, ok_L_wide B Dc c_L_take_ F16, m16, b16⟩
  have c_L_right_ : Cl q w K mg base 6 "_law_right" s_L_right ["_law_box_here"] (spD K sem_L_right) := ⟨f17, _, F17, ok_L_right B Dc c_made_one_ c_L_same_ c_L_sizes_ c_L_runs_ c_L_gone_ c_L_all_ c_L_wide_ F17, m17, b17⟩
  have C5 : Cw q w K mg base := ⟨⟨f7, _, F7, ok_box B F7, m7, b7⟩, ⟨f17, _, F17, fn_holds (ok_L_right B Dc c_made_one_ c_L_same_ c_L_sizes_ c_L_runs_ c_L_gone_ c_L_all_ c_L_wide_ F17) holds, m17, b17⟩⟩
  exact ok_law B C5 F18
end K31
open PySem PySem.W PyProof.Rows
set_option maxHeartbeats 0 in
theorem PySem.Challenge.cw_breathrows_k31_words_that_make_all_one_holds : PySem.Challenge.rw_breathrows_k31_words_that_make_all_one.Holds := by
  w_on
  o_law
  k_head
  (case hw => w_witness2)
  k_fill
  refine L2.walk_of (l := PySem.Challenge.rw_breathrows_k31_words_that_make_all_one) (n := 63) (k := 7) (x := "_law_script") (CX := fun _ => L2.CX0) (sp := fun w => K31.spLaw _) rfl (by decide) rfl ⟨rfl, by decide, by decide⟩ (fun w h Y => PySem.W.kIn_of Y) ?F
    (fun _ _ a ns hl _ hS => ⟨a, ns, rfl, hS, hl, fun _ => rfl⟩) (fun _ _ _ _ _ h => h)
  case F =>
    intro w mg fa h KX G hmg
    refine' K31.all_mk KX G hmg ⟨?da0, ?dl0, ?dk0, ?dn00, ?dr00, ?dn01, ?dr01, ?dn02, ?dr02, ?dn03, ?dr03⟩ ⟨?ta0, ?tl0, ?tz0, ?tv0⟩ ⟨?a0, ?l0, ?c0, ?k0⟩ ⟨?a1, ?l1, ?c1, ?k1⟩ ⟨?a2, ?l2, ?c2, ?k2⟩ ⟨?a3, ?l3, ?c3, ?k3⟩ ⟨?a4, ?l4, ?c4, ?k4⟩ ⟨?a5, ?l5, ?c5, ?k5⟩ ⟨?a6, ?l6, ?c6, ?k6⟩ ⟨?a7, ?l7, ?c7, ?k7⟩ ⟨?a8, ?l8, ?c8, ?k8⟩ ⟨?a9, ?l9, ?c9, ?k9⟩ ⟨?a10, ?l10, ?c10, ?k10⟩ ⟨?a11, ?l11, ?c11, ?k11⟩ ⟨?a12, ?l12, ?c12, ?k12⟩ ⟨?a13, ?l13, ?c13, ?k13⟩ ⟨?a14, ?l14, ?c14, ?k14⟩ ⟨?a15, ?l15, ?c15, ?k15⟩ ⟨?a16, ?l16, ?c16, ?k16⟩ ⟨?a17, ?l17, ?c17, ?k17⟩ ⟨?a18, ?l18, ?c18, ?k18⟩ ?z0 ?z1 ?z2 ?z3 ?z4 ?z5 ?z6 ?z7 ?z8 ?z9 ?z10 ?z11 ?z12 ?z13 ?z14 ?z15 ?z16 ?z17 ?z18 ?z19
    (case da0 => k_is)
    (case dl0 => k_is)
    (case dn00 => k_is)
    (case dr00 => first | exact ⟨_, rfl⟩ | rfl)
    (case dn01 => k_is)
    (case dr01 => first | exact ⟨_, rfl⟩ | rfl)
    (case dn02 => k_is)
    (case dr02 => first | exact ⟨_, rfl⟩ | rfl)
    (case dn03 => k_is)
    (case dr03 => first | exact ⟨_, rfl⟩ | rfl)
    (case dk0 => first | k_is | exact ⟨⟨_, _, rfl, rfl⟩, ⟨_, _, rfl, rfl⟩, ⟨_, _, rfl, rfl⟩, ⟨_, _, rfl, rfl⟩, trivial⟩)
    (case ta0 => k_is)
    (case tl0 => k_is)
    (case tz0 => decide)
    (case tv0 => repeat (first | exact .nil | refine .cons ⟨_, rfl⟩ ?_))
    (case a0 => k_is)
    (case l0 => k_is)
    (case c0 => k_is)
    (case k0 => k_is)
    (case a1 => k_is)
    (case l1 => k_is)
    (case c1 => k_is)
    (case k1 => k_is)
    (case a2 => k_is)
    (case l2 => k_is)
    (case c2 => k_is)
    (case k2 => k_is)
    (case a3 => k_is)
    (case l3 => k_is)
    (case c3 => k_is)
    (case k3 => k_is)
    (case a4 => k_is)
    (case l4 => k_is)
    (case c4 => k_is)
    (case k4 => k_is)
    (case a5 => k_is)
    (case l5 => k_is)
    (case c5 => k_is)
    (case k5 => k_is)
    (case a6 => k_is)
    (case l6 => k_is)
    (case c6 => k_is)
    (case k6 => k_is)
    (case a7 => k_is)
    (case l7 => k_is)
    (case c7 => k_is)
    (case k7 => k_is)
    (case a8 => k_is)
    (case l8 => k_is)
    (case c8 => k_is)
    (case k8 => k_is)
    (case a9 => k_is)
    (case l9 => k_is)
    (case c9 => k_is)
    (case k9 => k_is)
    (case a10 => k_is)
    (case l10 => k_is)
    (case c10 => k_is)
    (case k10 => k_is)
    (case a11 => k_is)
    (case l11 => k_is)
    (case c11 => k_is)
    (case k11 => k_is)
    (case a12 => k_is)
    (case l12 => k_is)
    (case c12 => k_is)
    (case k12 => k_is)
    (case a13 => k_is)
    (case l13 => k_is)
    (case c13 => k_is)
    (case k13 => k_is)
    (case a14 => k_is)
    (case l14 => k_is)
    (case c14 => k_is)
    (case k14 => k_is)
    (case a15 => k_is)
    (case l15 => k_is)
    (case c15 => k_is)
    (case k15 => k_is)
    (case a16 => k_is)
    (case l16 => k_is)
    (case c16 => k_is)
    (case k16 => k_is)
    (case a17 => k_is)
    (case l17 => k_is)
    (case c17 => k_is)
    (case k17 => k_is)
    (case a18 => k_is)
    (case l18 => k_is)
    (case c18 => k_is)
    (case k18 => k_is)
    (case z0 => k_is)
    (case z1 => k_is)
    (case z2 => k_is)
    (case z3 => k_is)
    (case z4 => k_is)
    (case z5 => k_is)
    (case z6 => k_is)
    (case z7 => k_is)
    (case z8 => k_is)
    (case z9 => k_is)
    (case z10 => k_is)
    (case z11 => k_is)
    (case z12 => k_is)
    (case z13 => k_is)
    (case z14 => k_is)
    (case z15 => k_is)
    (case z16 => k_is)
    (case z17 => k_is)
    (case z18 => k_is)
    (case z19 => k_is)
