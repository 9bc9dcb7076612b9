import PyProof.Rows.All
import Wide.All
import OpenK.AllK
import Wide.FinOn
import HandS.ForMost
import HandS.IsInst
import HandS.Walk
import HandS.Wide
import HandS.WideBits
import HandS.Style
import HandS.Zip
import HandS.Flow
import HandS.TupMul
import HandS.Rev
import HandS.EndBits
import HandS.Defaults
import HandS.More
import KE.GoesZip
import KE.GoesMore
import KE.KTurns
import KE.GoesEnum
import PyProof.SliceStr2
import HandS.Conv
import HandS.TupAny
import KE.KRevSl
import HandS.ForExc
import HandS.ExcIs
import HandS.ExcField
import HandS.ExcValue
import KE.KExcInit
import KE.KTryMore
import HandS.List
import HandS.NoneIn
import HandS.WrittenGet
import HandS.RevRange
import KE.KTupSum
import PySem.Challenge.RW_breathrows_k98_whole_from_name_to_name
set_option Elab.async false
set_option linter.all false
set_option maxRecDepth 100000
namespace DL
open PySem PySem.Spec PyProof.Rows L2
/-! ## what a slot or a value is known to be -/
inductive SD where
  | unk
  | dat (d : PyData)
  | ref (b : Addr)
abbrev SD.i (n : Int) : SD := .dat (.int n)
abbrev SD.b (c : Bool) : SD := .dat (.bool c)
/-- G: what is known and stays for ever; H: all that is tracked -/
structure Mv (M : Addr → Prop) (G H G1 H1 : Hp) : Prop where
  gr : ∀ a o, G a = some o → G1 a = some o
  sub : ∀ a o, G1 a = some o → H1 a = some o
  old : ∀ a o, H a = some o → G1 a = G a
  kp : ∀ a o, H a = some o → ¬ M a → H1 a = some o
  dom : ∀ a o, H a = some o → ∃ u, H1 a = some u
/-- what may change, and what holds of it, with fuel -/
structure MS where
  M : Addr → Prop
  inv : Nat → Hp → Hp → Prop
  dom : ∀ {r G H a}, inv r G H → M a → ∃ o, H a = some o
  fr : ∀ {r G H G' H'}, inv r G H → (∀ a o, G a = some o → G' a = some o) → (∀ a o, M a → H a = some o → H' a = some o) → inv r G' H'
  dn : ∀ {r j G H}, inv (r + j) G H → inv r G H
def pu : MS where
  M := fun _ => False
  inv := fun _ _ _ => True
  dom := fun _ h => h.elim
  fr := fun _ _ _ => trivial
  dn := fun _ => trivial
structure Wd (S : MS) (r : Nat) (G H : Hp) : Prop where
  sub : ∀ a o, G a = some o → H a = some o
  no : ∀ a, S.M a → G a = none
  inv : S.inv r G H
section
variable {M : Addr → Prop} {G H G1 H1 G2 H2 : Hp} {S : MS} {r : Nat}
theorem Mv.refl (h : ∀ a o, G a = some o → H a = some o) : Mv M G H G H := ⟨fun _ _ e => e, h, fun _ _ _ => rfl, fun _ _ e _ => e, fun _ o e => ⟨o, e⟩⟩
theorem Mv.trans (x : Mv M G H G1 H1) (y : Mv M G1 H1 G2 H2) : Mv M G H G2 H2 where
  gr := fun a o e => y.gr a o (x.gr a o e)
  sub := y.sub
  old := fun a o e => by
    obtain ⟨u, eu⟩ := x.dom a o e
    rw [y.old a u eu, x.old a o e]
  kp := fun a o e n => y.kp a o (x.kp a o e n) n
  dom := fun a o e => by
    obtain ⟨u, eu⟩ := x.dom a o e
    exact y.dom a u eu
theorem Mv.weak {M' : Addr → Prop} (x : Mv M G H G1 H1) (h : ∀ a, M a → M' a) : Mv M' G H G1 H1 := ⟨x.gr, x.sub, x.old, fun a o e n => x.kp a o e fun z => n (h a z), x.dom⟩
/-- a new thing, known from now on -/
theorem Mv.new {p : Addr} {o : HO} (h : ∀ a o, G a = some o → H a = some o) (np : H p = none) : Mv M G H (upd G p o) (upd H p o) where
  gr := fun a u e => by
    rw [upd_ne (ne_of_none (h a u e) np)]
    exact e
  sub := fun a u e => by
    by_cases ea : a = p
    · subst ea
      rw [upd_same] at e ⊢
      exact e
    · rw [upd_ne ea] at e ⊢
      exact h a u e
  old := fun a u e => upd_ne (ne_of_none e np)
  kp := fun a u e _ => by
    rw [upd_ne (ne_of_none e np)]
    exact e
  dom := fun a u e => ⟨u, by
    rw [upd_ne (ne_of_none e np)]
    exact e⟩
theorem Wd.refl (x : Wd S r G H) : Mv S.M G H G H := Mv.refl x.sub
theorem Wd.new {p : Addr} {o : HO} (x : Wd S r G H) (np : H p = none) : Wd S r (upd G p o) (upd H p o) where
  sub := (Mv.new (M := S.M) (o := o) x.sub np).sub
  no := fun a m => by
    obtain ⟨u, e⟩ := S.dom x.inv m
    rw [upd_ne (ne_of_none e np)]
    exact x.no a m
  inv := S.fr x.inv (Mv.new (M := S.M) (o := o) x.sub np).gr fun a u _ e => by
    rw [upd_ne (ne_of_none e np)]
    exact e
theorem Wd.dn {j : Nat} (x : Wd S (r + j) G H) : Wd S r G H := ⟨x.sub, x.no, S.dn x.inv⟩
theorem Wd.eq {r' : Nat} (x : Wd S r G H) (e : r = r') : Wd S r' G H := e ▸ x
/-- behind what changes nothing that was tracked -/
theorem Wd.pure (x : Wd S r G H) (m : Mv (fun _ => False) G H G1 H1) : Wd S r G1 H1 where
  sub := m.sub
  no := fun a ha => by
    obtain ⟨u, e⟩ := S.dom x.inv ha
    rw [m.old a u e]
    exact x.no a ha
  inv := S.fr x.inv m.gr fun a o _ e => m.kp a o e fun z => z
end
/-! data that stands in G -/
mutual
inductive DD (K : PySem.W.Frag) (G : Hp) : V → PyData → Prop
  | non : DD K G .non .none
  | bl (c : Bool) : DD K G (.bl c) (.bool c)
  | int (i : Int) : DD K G (.int i) (.int i)
  | str (x : Str) : DD K G (.str x) (.str x)
  | lst {a : Addr} {xs : List V} {ds : List PyData} (h : G a = some (.lst xs)) (t : DDs K G xs ds) : DD K G (.ref a) (.list ds)
  | tup {a : Addr} {xs : List V} {ds : List PyData} (h : G a = some (.tup xs)) (t : DDs K G xs ds) : DD K G (.ref a) (.tuple ds)
inductive DDs (K : PySem.W.Frag) (G : Hp) : List V → List PyData → Prop
  | nil : DDs K G [] []
  | cons {v : V} {d : PyData} {vs : List V} {ds : List PyData} (h : DD K G v d) (t : DDs K G vs ds) : DDs K G (v :: vs) (d :: ds)
end
section
variable {K : PySem.W.Frag} {G G1 H : Hp}
mutual
theorem DD.mono (h : ∀ a o, G a = some o → G1 a = some o) : ∀ {d : PyData} {v : V}, DD K G v d → DD K G1 v d
  | _, _, .non => .non
  | _, _, .bl b => .bl b
  | _, _, .int i => .int i
  | _, _, .str x => .str x
  | _, _, .lst s a => .lst (h _ _ s) (DDs.mono h a)
  | _, _, .tup s a => .tup (h _ _ s) (DDs.mono h a)
theorem DDs.mono (h : ∀ a o, G a = some o → G1 a = some o) : ∀ {ds : List PyData} {vs : List V}, DDs K G vs ds → DDs K G1 vs ds
  | _, _, .nil => .nil
  | _, _, .cons d a => .cons (DD.mono h d) (DDs.mono h a)
end
mutual
theorem DD.dp : ∀ {d : PyData} {v : V}, DD K G v d → Dp K G v d
  | _, _, .non => .non
  | _, _, .bl b => .bl b
  | _, _, .int i => .int i
  | _, _, .str x => .str x
  | _, _, .lst s a => .lst (.inl (.inl s)) (DDs.dp a)
  | _, _, .tup s a => .tup (.inl (.inl s)) (DDs.dp a)
theorem DDs.dp : ∀ {ds : List PyData} {vs : List V}, DDs K G vs ds → DpAll K G vs ds
  | _, _, .nil => .nil
  | _, _, .cons d a => .cons (DD.dp d) (DDs.dp a)
end
theorem DDs.len : ∀ {ds : List PyData} {vs : List V}, DDs K G vs ds → vs.length = ds.length
  | _, _, .nil => rfl
  | _, _, .cons _ a => congrArg Nat.succ (DDs.len a)
theorem DDs.get : ∀ {ds : List PyData} {vs : List V} {i : Nat} {v : V}, DDs K G vs ds → vs[i]? = some v → ∃ d, ds[i]? = some d ∧ DD K G v d
  | _, _, _, _, .nil, e => by simp at e
  | _, _, 0, _, .cons h _, e => by
    simp at e
    subst e
    exact ⟨_, rfl, h⟩
  | _, _, i + 1, v, .cons _ t, e => by
    obtain ⟨d, h1, h2⟩ := DDs.get (i := i) (v := v) t (by simpa using e)
    exact ⟨d, by simpa using h1, h2⟩
theorem DDs.got : ∀ {ds : List PyData} {vs : List V} {i : Nat} {d : PyData}, DDs K G vs ds → ds[i]? = some d → ∃ v, vs[i]? = some v ∧ DD K G v d
  | _, _, _, _, .nil, e => by simp at e
  | _, _, 0, _, .cons h _, e => by
    simp at e
    subst e
    exact ⟨_, rfl, h⟩
  | _, _, i + 1, d, .cons _ t, e => by
    obtain ⟨v, h1, h2⟩ := DDs.got (i := i) (d := d) t (by simpa using e)
    exact ⟨v, by simpa using h1, h2⟩
theorem DDs.append : ∀ {ds es : List PyData} {vs us : List V}, DDs K G vs ds → DDs K G us es → DDs K G (vs ++ us) (ds ++ es)
  | _, _, _, _, .nil, s => s
  | _, _, _, _, .cons r t, s => .cons r (DDs.append t s)
theorem DDs.snoc {ds : List PyData} {vs : List V} {v : V} {d : PyData} (a : DDs K G vs ds) (b : DD K G v d) : DDs K G (vs ++ [v]) (ds ++ [d]) := a.append (.cons b .nil)
theorem DDs.reverse : ∀ {ds : List PyData} {vs : List V}, DDs K G vs ds → DDs K G vs.reverse ds.reverse
  | _, _, .nil => .nil
  | _, _, .cons r t => by
    rw [List.reverse_cons, List.reverse_cons]
    exact (DDs.reverse t).snoc r
theorem DDs.ints : ∀ {ns : List Int} {vs : List V}, DDs K G vs (ns.map .int) → vs = ns.map V.int
  | [], _, .nil => rfl
  | n :: ns, _, .cons h t => by
    cases h
    rw [DDs.ints t]
    rfl
theorem DDs.ofInts : ∀ (ns : List Int), DDs K G (ns.map V.int) (ns.map .int)
  | [] => .nil
  | n :: ns => .cons (.int n) (DDs.ofInts ns)
theorem DDs.bls : ∀ {ns : List Bool} {vs : List V}, DDs K G vs (ns.map .bool) → vs = ns.map V.bl
  | [], _, .nil => rfl
  | n :: ns, _, .cons h t => by
    cases h
    rw [DDs.bls t]
    rfl
theorem DDs.take : ∀ {ds : List PyData} {vs : List V} (n : Nat), DDs K G vs ds → DDs K G (vs.take n) (ds.take n)
  | _, _, 0, _ => .nil
  | _, _, _ + 1, .nil => .nil
  | _, _, n + 1, .cons r t => .cons r (DDs.take n t)
theorem DDs.drop : ∀ {ds : List PyData} {vs : List V} (n : Nat), DDs K G vs ds → DDs K G (vs.drop n) (ds.drop n)
  | _, _, 0, r => r
  | _, _, _ + 1, .nil => .nil
  | _, _, n + 1, .cons _ t => DDs.drop n t
end
def VD (K : PySem.W.Frag) (G : Hp) (v : V) : SD → Prop
  | .unk => True
  | .dat d => DD K G v d
  | .ref b => v = .ref b
section
variable {K : PySem.W.Frag} {G G1 H : Hp} {v : V} {s : SD}
theorem VD.mono (h : ∀ a o, G a = some o → G1 a = some o) (q : VD K G v s) : VD K G1 v s := by
  cases s with
  | unk => trivial
  | dat d => exact DD.mono h (show DD K G v d from q)
  | ref b => exact q
end
/-- slots and what is known of them -/
def SlD (K : PySem.W.Frag) (G : Hp) (σ : L2.St) (δ : List SD) : Prop := σ.length = δ.length ∧ ∀ (i : Nat) (s : SD), δ[i]? = some s → s = .unk ∨ ∃ v, σ[i]? = some (some v) ∧ VD K G v s
section
variable {K : PySem.W.Frag} {G G1 H : Hp} {v : V} {s : SD} {σ : L2.St} {δ : List SD}
theorem SlD.mono (h : ∀ a o, G a = some o → G1 a = some o) (q : SlD K G σ δ) : SlD K G1 σ δ := ⟨q.1, fun i s e => (q.2 i s e).imp (fun z => z) fun ⟨v, a, b⟩ => ⟨v, a, b.mono h⟩⟩
theorem SlD.set (q : SlD K G σ δ) (hv : VD K G v s) (i : Nat) : SlD K G (σ.set i (some v)) (δ.set i s) := by
  refine ⟨by rw [List.length_set, List.length_set]; exact q.1, fun j t e => ?_⟩
  by_cases hj : i = j
  · subst hj
    by_cases hi : i < δ.length
    · rw [List.getElem?_set_self hi] at e
      cases e
      exact .inr ⟨v, List.getElem?_set_self (by rw [q.1]; exact hi), hv⟩
    · rw [List.getElem?_eq_none (by rw [List.length_set]; omega)] at e
      cases e
  · rw [List.getElem?_set_ne hj] at e
    rcases q.2 j t e with z | ⟨w, a, b⟩
    · exact .inl z
    · exact .inr ⟨w, by rw [List.getElem?_set_ne hj]; exact a, b⟩
theorem SlD.none (q : SlD K G σ δ) (i : Nat) : SlD K G (σ.set i none) (δ.set i .unk) := by
  refine ⟨by rw [List.length_set, List.length_set]; exact q.1, fun j t e => ?_⟩
  by_cases hj : i = j
  · subst hj
    by_cases hi : i < δ.length
    · rw [List.getElem?_set_self hi] at e
      cases e
      exact .inl rfl
    · rw [List.getElem?_eq_none (by rw [List.length_set]; omega)] at e
      cases e
  · rw [List.getElem?_set_ne hj] at e
    rcases q.2 j t e with z | ⟨w, a, b⟩
    · exact .inl z
    · exact .inr ⟨w, by rw [List.getElem?_set_ne hj]; exact a, b⟩
def wipeD (δ : List SD) : List Nat → List SD
  | [] => δ
  | v :: vs => (wipeD δ vs).set v .unk
theorem SlD.wipe (q : SlD K G σ δ) : ∀ vs : List Nat, SlD K G (wipe σ vs) (wipeD δ vs)
  | [] => q
  | v :: vs => (SlD.wipe q vs).none v
end
/-! ## judgements -/
def Ev (K : PySem.W.Frag) (S : MS) (te : TE) (δ : List SD) (k : Nat) (Φ : SD → Prop) : Prop :=
  ∀ r σ G H, SlD K G σ δ → Wd S (r + k) G H → ∀ Q : VK, (∀ v s G2 H2, Mv S.M G H G2 H2 → Wd S r G2 H2 → VD K G2 v s → Φ s → Q v H2) → te σ H Q
def EvT (K : PySem.W.Frag) (S : MS) (tt : TT) (δ : List SD) (k : Nat) (Φ : Bool → Prop) : Prop :=
  ∀ r σ G H, SlD K G σ δ → Wd S (r + k) G H → ∀ Q : Bool → Hp → Prop, (∀ c G2 H2, Mv S.M G H G2 H2 → Wd S r G2 H2 → Φ c → Q c H2) → tt σ H Q
inductive VDs (K : PySem.W.Frag) (G : Hp) : List V → List SD → Prop
  | nil : VDs K G [] []
  | cons {v : V} {s : SD} {vs : List V} {ss : List SD} : VD K G v s → VDs K G vs ss → VDs K G (v :: vs) (s :: ss)
theorem VDs.mono {K : PySem.W.Frag} {G G1 : Hp} (h : ∀ a o, G a = some o → G1 a = some o) : ∀ {vs : List V} {ss : List SD}, VDs K G vs ss → VDs K G1 vs ss
  | _, _, .nil => .nil
  | _, _, .cons a b => .cons (a.mono h) (b.mono h)
def EvA (K : PySem.W.Frag) (S : MS) (ta : TA) (δ : List SD) (k : Nat) (Φ : List SD → Prop) : Prop :=
  ∀ r σ G H, SlD K G σ δ → Wd S (r + k) G H → ∀ Q : List V → Hp → Prop, (∀ vs ss G2 H2, Mv S.M G H G2 H2 → Wd S r G2 H2 → VDs K G2 vs ss → Φ ss → Q vs H2) → ta σ H Q
abbrev Dt (K : PySem.W.Frag) (S : MS) (te : TE) (δ : List SD) (s : SD) : Prop := Ev K S te δ 0 (fun x => x = s)
structure Out where
  nx : List SD → Prop := fun _ => False
  rt : SD → Prop := fun _ => False
  bk : List SD → Prop := fun _ => False
  ct : List SD → Prop := fun _ => False
def EvS (K : PySem.W.Frag) (S : MS) (t : TS) (δ : List SD) (k : Nat) (O : Out) : Prop :=
  ∀ r σ G H, SlD K G σ δ → Wd S (r + k) G H → ∀ D : Ends,
    (∀ σ' δ' G2 H2, Mv S.M G H G2 H2 → Wd S r G2 H2 → SlD K G2 σ' δ' → O.nx δ' → D.nx σ' H2) →
    (∀ v s G2 H2, Mv S.M G H G2 H2 → Wd S r G2 H2 → VD K G2 v s → O.rt s → D.rt v H2) →
    (∀ σ' δ' G2 H2, Mv S.M G H G2 H2 → Wd S r G2 H2 → SlD K G2 σ' δ' → O.bk δ' → D.bk σ' H2) →
    (∀ σ' δ' G2 H2, Mv S.M G H G2 H2 → Wd S r G2 H2 → SlD K G2 σ' δ' → O.ct δ' → D.ct σ' H2) → t D σ H
section
variable {K : PySem.W.Frag} {S : MS} {te ta tb tc : TE} {tt tu : TT} {δ : List SD} {k k' j : Nat} {Φ Ψ : SD → Prop} {s s' : SD}
theorem Ev.mono (h : Ev K S te δ k Φ) (i : ∀ s, Φ s → Ψ s) : Ev K S te δ k Ψ := fun r σ G H q w Q hQ => h r σ G H q w Q fun v s G2 H2 m w2 a b => hQ v s G2 H2 m w2 a (i s b)
theorem Ev.up (h : Ev K S te δ k Φ) (hk : k ≤ k') : Ev K S te δ k' Φ := fun r σ G H q w Q hQ => h r σ G H q (Wd.dn (j := k' - k) (w.eq (by omega))) Q hQ
theorem EvT.mono {Φ Ψ : Bool → Prop} (h : EvT K S tt δ k Φ) (i : ∀ s, Φ s → Ψ s) : EvT K S tt δ k Ψ := fun r σ G H q w Q hQ => h r σ G H q w Q fun c G2 H2 m w2 b => hQ c G2 H2 m w2 (i c b)
theorem EvT.up {Φ : Bool → Prop} (h : EvT K S tt δ k Φ) (hk : k ≤ k') : EvT K S tt δ k' Φ := fun r σ G H q w Q hQ => h r σ G H q (Wd.dn (j := k' - k) (w.eq (by omega))) Q hQ
theorem EvS.mono {t : TS} {O O' : Out} (h : EvS K S t δ k O) (h1 : ∀ x, O.nx x → O'.nx x) (h2 : ∀ x, O.rt x → O'.rt x) (h3 : ∀ x, O.bk x → O'.bk x) (h4 : ∀ x, O.ct x → O'.ct x) : EvS K S t δ k O' :=
  fun r σ G H q w D a b c d => h r σ G H q w D (fun x y z u m w2 s o => a x y z u m w2 s (h1 _ o)) (fun x y z u m w2 s o => b x y z u m w2 s (h2 _ o)) (fun x y z u m w2 s o => c x y z u m w2 s (h3 _ o)) (fun x y z u m w2 s o => d x y z u m w2 s (h4 _ o))
theorem EvS.up {t : TS} {O : Out} (h : EvS K S t δ k O) (hk : k ≤ k') : EvS K S t δ k' O := fun r σ G H q w D => h r σ G H q (Wd.dn (j := k' - k) (w.eq (by omega))) D
/-! ### values -/
theorem e_var {i : Nat} (h : δ[i]? = some s) (hs : s ≠ .unk) : Dt K S (tVar i) δ s := fun r σ G H q w Q hQ => by
  rcases q.2 i s h with z | ⟨v, e, hv⟩
  · exact absurd z hs
  · exact ⟨v, e, hQ v s G H w.refl w hv rfl⟩
theorem e_vd {i : Nat} {d : PyData} (h : δ[i]? = some (.dat d)) : Dt K S (tVar i) δ (.dat d) := e_var h (fun z => nomatch z)
theorem e_vr {i : Nat} {b : Addr} (h : δ[i]? = some (.ref b)) : Dt K S (tVar i) δ (.ref b) := e_var h (fun z => nomatch z)
theorem e_c {v : V} {d : PyData} (h : ∀ G, DD K G v d) : Dt K S (tC v) δ (.dat d) := fun r σ G H q w Q hQ => hQ v (.dat d) G H w.refl w (h G) rfl
theorem e_int {n : Int} : Dt K S (tC (.int n)) δ (.dat (.int n)) := e_c fun _ => .int n
theorem e_str {x : Str} : Dt K S (tC (.str x)) δ (.dat (.str x)) := e_c fun _ => .str x
theorem e_bl {c : Bool} : Dt K S (tC (.bl c)) δ (.dat (.bool c)) := e_c fun _ => .bl c
theorem e_non : Dt K S (tC .non) δ (.dat .none) := e_c fun _ => .non
/-! ### operations on values -/
def RV (K : PySem.W.Frag) (r : R2) (s s' : SD) (Ψ : SD → Prop) : Prop := ∀ x y G H, VD K G x s → VD K G y s' → (∀ a o, G a = some o → H a = some o) → ∀ Q : VK, (∀ v z G2 H2, Mv (fun _ => False) G H G2 H2 → VD K G2 v z → Ψ z → Q v H2) → r x y H Q
theorem e_op {r : R2} {Φ' : SD → SD → Prop} (ha : Ev K S ta δ k Φ) (hb : ∀ s, Φ s → Ev K S tb δ k' (Φ' s)) (hr : ∀ s s', Φ s → Φ' s s' → RV K r s s' Ψ) : Ev K S (tOp r ta tb) δ (k + k') Ψ :=
  fun r σ G H q w Q hQ => ha (r + k') σ G H q (w.eq (by omega)) _ fun v s G2 H2 m w2 hv hs =>
    hb s hs r σ G2 H2 (q.mono m.gr) w2 _ fun u s' G3 H3 m3 w3 hu hs' =>
      hr s s' hs hs' v u G3 H3 (hv.mono m3.gr) hu w3.sub Q fun y z G4 H4 m4 hy hz => hQ y z G4 H4 ((m.trans m3).trans (m4.weak fun _ f => f.elim)) (w3.pure m4) hy hz
theorem d_op {r : R2} (ha : Dt K S ta δ s) (hb : Dt K S tb δ s') (hr : RV K r s s' Ψ) : Ev K S (tOp r ta tb) δ 0 Ψ :=
  e_op (Φ' := fun _ x => x = s') (k' := 0) ha (fun _ _ => hb) fun x y hx hy => by
    subst hx hy
    exact hr
theorem rv_I0 {g : Int → Int → V} {i j : Int} {d : PyData} (h : ∀ G, DD K G (g i j) d) : RV K (rI0 g) (.dat (.int i)) (.dat (.int j)) (fun z => z = .dat d) := fun x y G H hx hy hs Q hQ => by
  cases hx
  cases hy
  exact ⟨i, j, rfl, rfl, hQ _ (.dat d) G H (Mv.refl hs) (h G) rfl⟩
theorem rv_I {C : Int → Int → Prop} {g : Int → Int → V} {i j : Int} {d : PyData} (hc : C i j) (h : ∀ G, DD K G (g i j) d) : RV K (rI C g) (.dat (.int i)) (.dat (.int j)) (fun z => z = .dat d) := fun x y G H hx hy hs Q hQ => by
  cases hx
  cases hy
  exact ⟨i, j, rfl, rfl, hc, hQ _ (.dat d) G H (Mv.refl hs) (h G) rfl⟩
/-! ### arguments, calls of built-ins -/
theorem a_nil : EvA K S tNil δ 0 (fun ss => ss = []) := fun r σ G H q w Q hQ => hQ [] [] G H w.refl w .nil rfl
theorem a_cons {tr : TA} {Φ' : SD → List SD → Prop} (ha : Ev K S ta δ k Φ) (hr : ∀ s, Φ s → EvA K S tr δ k' (Φ' s)) : EvA K S (tCons ta tr) δ (k + k') (fun ss => ∃ s l, ss = s :: l ∧ Φ s ∧ Φ' s l) :=
  fun r σ G H q w Q hQ => ha (r + k') σ G H q (w.eq (by omega)) _ fun v s G2 H2 m w2 hv hs =>
    hr s hs r σ G2 H2 (q.mono m.gr) w2 _ fun vs ss G3 H3 m3 w3 hvs hss => hQ _ (s :: ss) G3 H3 (m.trans m3) w3 (.cons (hv.mono m3.gr) hvs) ⟨s, ss, rfl, hs, hss⟩
theorem da_cons {tr : TA} {ss : List SD} (ha : Dt K S ta δ s) (hr : EvA K S tr δ 0 (fun l => l = ss)) : EvA K S (tCons ta tr) δ 0 (fun l => l = s :: ss) :=
  fun r σ G H q w Q hQ => a_cons (k' := 0) (Φ' := fun _ l => l = ss) ha (fun _ _ => hr) r σ G H q w Q fun vs l G2 H2 m w2 hv ⟨x, y, e, ex, ey⟩ => hQ vs l G2 H2 m w2 hv (by rw [e, ex, ey])
def RC (K : PySem.W.Frag) (r : List V → Hp → VK → Prop) (ss : List SD) (Ψ : SD → Prop) : Prop := ∀ vs G H, VDs K G vs ss → (∀ a o, G a = some o → H a = some o) → ∀ Q : VK, (∀ v z G2 H2, Mv (fun _ => False) G H G2 H2 → VD K G2 v z → Ψ z → Q v H2) → r vs H Q
theorem e_cb {r : List V → Hp → VK → Prop} {t : TA} {Φ : List SD → Prop} (ha : EvA K S t δ k Φ) (hr : ∀ ss, Φ ss → RC K r ss Ψ) : Ev K S (tCB r t) δ k Ψ :=
  fun r σ G H q w Q hQ => ha r σ G H q w _ fun vs ss G2 H2 m w2 hv hs => hr ss hs vs G2 H2 hv w2.sub Q fun y z G3 H3 m3 hy hz => hQ y z G3 H3 (m.trans (m3.weak fun _ f => f.elim)) (w2.pure m3) hy hz
theorem d_cb {r : List V → Hp → VK → Prop} {t : TA} {ss : List SD} (ha : EvA K S t δ 0 (fun l => l = ss)) (hr : RC K r ss Ψ) : Ev K S (tCB r t) δ 0 Ψ := e_cb ha fun l hl => by
  subst hl
  exact hr
/-! ### displays -/
def dats : List SD → List PyData → Prop
  | [], [] => True
  | .dat d :: r, e :: l => d = e ∧ dats r l
  | _, _ => False
theorem dats_dd {G : Hp} : ∀ {ss : List SD} {ds : List PyData} {vs : List V}, VDs K G vs ss → dats ss ds → DDs K G vs ds
  | _, [], _, .nil, _ => .nil
  | _, _ :: _, _, .nil, h => h.elim
  | .dat d :: r, e :: l, _, .cons a b, h => by
    obtain ⟨rfl, h⟩ := h
    exact .cons a (dats_dd b h)
  | .dat _ :: _, [], _, .cons _ _, h => h.elim
  | .unk :: _, [], _, .cons _ _, h => h.elim
  | .unk :: _, _ :: _, _, .cons _ _, h => h.elim
  | .ref _ :: _, [], _, .cons _ _, h => h.elim
  | .ref _ :: _, _ :: _, _, .cons _ _, h => h.elim
theorem e_lst {t : TA} {Φ : List SD → Prop} (ha : EvA K S t δ k Φ) (h : ∀ ss, Φ ss → ∃ ds, dats ss ds ∧ ds.length ≤ 100000 ∧ Ψ (.dat (.list ds))) : Ev K S (tLst t) δ k Ψ :=
  fun r σ G H q w Q hQ => ha r σ G H q w _ fun vs ss G2 H2 m w2 hv hs => by
    obtain ⟨ds, hd, hl, hy⟩ := h ss hs
    have dd := dats_dd hv hd
    exact ⟨Nat.le_trans (by rw [dd.len]; exact hl) (by decide), fun p np => hQ _ (.dat (.list ds)) _ _ (m.trans (Mv.new w2.sub np)) (w2.new np) (DD.lst upd_same (dd.mono (Mv.new (M := S.M) w2.sub np).gr)) hy⟩
theorem e_tup {t : TA} {Φ : List SD → Prop} (ha : EvA K S t δ k Φ) (h : ∀ ss, Φ ss → ∃ ds, dats ss ds ∧ ds.length ≤ 100000 ∧ Ψ (.dat (.tuple ds))) : Ev K S (tTup t) δ k Ψ :=
  fun r σ G H q w Q hQ => ha r σ G H q w _ fun vs ss G2 H2 m w2 hv hs => by
    obtain ⟨ds, hd, hl, hy⟩ := h ss hs
    have dd := dats_dd hv hd
    exact ⟨Nat.le_trans (by rw [dd.len]; exact hl) (by decide), fun p np => hQ _ (.dat (.tuple ds)) _ _ (m.trans (Mv.new w2.sub np)) (w2.new np) (DD.tup upd_same (dd.mono (Mv.new (M := S.M) w2.sub np).gr)) hy⟩
theorem d_lst {t : TA} {ds : List PyData} (ha : EvA K S t δ 0 (fun l => l = ds.map SD.dat)) (hl : ds.length ≤ 100000 := by simp) : Dt K S (tLst t) δ (.dat (.list ds)) := e_lst ha fun ss e => ⟨ds, by
  subst e
  clear ha hl
  induction ds with
  | nil => trivial
  | cons x l ih => exact ⟨rfl, ih⟩, hl, rfl⟩
theorem d_tup {t : TA} {ds : List PyData} (ha : EvA K S t δ 0 (fun l => l = ds.map SD.dat)) (hl : ds.length ≤ 100000 := by simp) : Dt K S (tTup t) δ (.dat (.tuple ds)) := e_tup ha fun ss e => ⟨ds, by
  subst e
  clear ha hl
  induction ds with
  | nil => trivial
  | cons x l ih => exact ⟨rfl, ih⟩, hl, rfl⟩
/-! ### tests -/
theorem t_test {c : Bool} (h : Dt K S te δ (.b c)) : EvT K S (tTest te) δ 0 (fun x => x = c) := fun r σ G H q w Q hQ => h r σ G H q w _ fun v s G2 H2 m w2 hv hs => by
  subst hs
  cases hv
  exact ⟨c, rfl, hQ c G2 H2 m w2 rfl⟩
theorem t_testE {Φ : Bool → Prop} (h : Ev K S te δ k (fun s => ∃ c, s = .b c ∧ Φ c)) : EvT K S (tTest te) δ k Φ := fun r σ G H q w Q hQ => h r σ G H q w _ fun v s G2 H2 m w2 hv hs => by
  obtain ⟨c, rfl, hc⟩ := hs
  cases hv
  exact ⟨c, rfl, hQ c G2 H2 m w2 hc⟩
theorem t_val {c : Bool} (h : Dt K S te δ (.b c)) : EvT K S (tB te) δ 0 (fun x => x = c) := fun r σ G H q w Q hQ => h r σ G H q w _ fun v s G2 H2 m w2 hv hs => by
  subst hs
  cases hv
  exact ⟨c, rfl, hQ c G2 H2 m w2 rfl⟩
theorem t_not {c : Bool} (h : EvT K S tt δ 0 (fun x => x = c)) : EvT K S (tNot tt) δ 0 (fun x => x = !c) := fun r σ G H q w Q hQ => h r σ G H q w _ fun d G2 H2 m w2 hs => hQ (!d) G2 H2 m w2 (by rw [hs])
theorem t_and {c d : Bool} (h1 : EvT K S tt δ 0 (fun x => x = c)) (h2 : c = true → EvT K S tu δ 0 (fun x => x = d)) : EvT K S (tAnd tt tu) δ 0 (fun x => x = (c && d)) :=
  fun r σ G H q w Q hQ => h1 r σ G H q w _ fun e G2 H2 m w2 hs => by
    subst hs
    cases e with
    | true => exact iteT (h2 rfl r σ G2 H2 (q.mono m.gr) w2 Q fun f G3 H3 m3 w3 hf => hQ f G3 H3 (m.trans m3) w3 hf)
    | false => exact iteF (hQ false G2 H2 m w2 rfl)
theorem t_or {c d : Bool} (h1 : EvT K S tt δ 0 (fun x => x = c)) (h2 : c = false → EvT K S tu δ 0 (fun x => x = d)) : EvT K S (tOr tt tu) δ 0 (fun x => x = (c || d)) :=
  fun r σ G H q w Q hQ => h1 r σ G H q w _ fun e G2 H2 m w2 hs => by
    subst hs
    cases e with
    | false => exact iteF (h2 rfl r σ G2 H2 (q.mono m.gr) w2 Q fun f G3 H3 m3 w3 hf => hQ f G3 H3 (m.trans m3) w3 hf)
    | true => exact iteT (hQ true G2 H2 m w2 rfl)
theorem e_andV {c d : Bool} (h1 : Dt K S ta δ (.b c)) (h2 : c = true → Dt K S tb δ (.b d)) : Dt K S (tAndV ta tb) δ (.b (c && d)) :=
  fun r σ G H q w Q hQ => h1 r σ G H q w _ fun v s G2 H2 m w2 hv hs => by
    subst hs
    cases hv
    refine ⟨c, rfl, ?_⟩
    cases c with
    | true => exact iteT (h2 rfl r σ G2 H2 (q.mono m.gr) w2 Q fun u f G3 H3 m3 w3 hu hf => hQ u f G3 H3 (m.trans m3) w3 hu hf)
    | false => exact iteF (hQ _ (.b false) G2 H2 m w2 (.bl false) rfl)
theorem e_orV {c d : Bool} (h1 : Dt K S ta δ (.b c)) (h2 : c = false → Dt K S tb δ (.b d)) : Dt K S (tOrV ta tb) δ (.b (c || d)) :=
  fun r σ G H q w Q hQ => h1 r σ G H q w _ fun v s G2 H2 m w2 hv hs => by
    subst hs
    cases hv
    refine ⟨c, rfl, ?_⟩
    cases c with
    | false => exact iteF (h2 rfl r σ G2 H2 (q.mono m.gr) w2 Q fun u f G3 H3 m3 w3 hu hf => hQ u f G3 H3 (m.trans m3) w3 hu hf)
    | true => exact iteT (hQ _ (.b true) G2 H2 m w2 (.bl true) rfl)
theorem e_notV {c : Bool} (h1 : Dt K S ta δ (.b c)) : Dt K S (tNotV ta) δ (.b (!c)) := fun r σ G H q w Q hQ => h1 r σ G H q w _ fun v s G2 H2 m w2 hv hs => by
  subst hs
  cases hv
  exact ⟨c, rfl, hQ _ (.b (!c)) G2 H2 m w2 (.bl _) rfl⟩
theorem e_if {c : Bool} (h : EvT K S tt δ 0 (fun x => x = c)) (h1 : c = true → Ev K S ta δ k Ψ) (h2 : c = false → Ev K S tb δ k Ψ) : Ev K S (tIf tt ta tb) δ k Ψ :=
  fun r σ G H q w Q hQ => h (r + k) σ G H q w _ fun e G2 H2 m w2 hs => by
    subst hs
    cases e with
    | true => exact iteT (h1 rfl r σ G2 H2 (q.mono m.gr) w2 Q fun u f G3 H3 m3 w3 hu hf => hQ u f G3 H3 (m.trans m3) w3 hu hf)
    | false => exact iteF (h2 rfl r σ G2 H2 (q.mono m.gr) w2 Q fun u f G3 H3 m3 w3 hu hf => hQ u f G3 H3 (m.trans m3) w3 hu hf)
/-! ### statements -/
variable {t u : TS} {O : Out}
theorem s_next (h : O.nx δ) : EvS K S tNext δ 0 O := fun r σ G H q w D a _ _ _ => a σ δ G H w.refl w q h
theorem s_ret (h : Ev K S te δ k O.rt) : EvS K S (tRet te) δ k O := fun r σ G H q w D _ b _ _ => h r σ G H q w _ fun v s G2 H2 m w2 hv hs => b v s G2 H2 m w2 hv hs
theorem s_seq {N : List SD → Prop} (h1 : EvS K S t δ k { O with nx := N }) (h2 : ∀ δ', N δ' → EvS K S u δ' k' O) : EvS K S (tSeq t u) δ (k + k') O :=
  fun r σ G H q w D a b c d => h1 (r + k') σ G H q (w.eq (by omega)) _
    (fun σ' δ' G2 H2 m w2 q2 n => h2 δ' n r σ' G2 H2 q2 w2 D (fun x y z f m3 => a x y z f (m.trans m3)) (fun x y z f m3 => b x y z f (m.trans m3)) (fun x y z f m3 => c x y z f (m.trans m3)) (fun x y z f m3 => d x y z f (m.trans m3)))
    (fun v s G2 H2 m w2 => b v s G2 H2 m (Wd.dn (j := k') w2)) (fun v s G2 H2 m w2 => c v s G2 H2 m (Wd.dn (j := k') w2)) (fun v s G2 H2 m w2 => d v s G2 H2 m (Wd.dn (j := k') w2))
theorem s_asg {i : Nat} (h : Ev K S te δ k Φ) (hn : ∀ s, Φ s → O.nx (δ.set i s)) : EvS K S (tAsg te (gName i)) δ k O :=
  fun r σ G H q w D a _ _ _ => h r σ G H q w _ fun v s G2 H2 m w2 hv hs => a _ (δ.set i s) G2 H2 m w2 ((q.mono m.gr).set hv i) (hn s hs)
/-- x = e; rest -/
theorem s_set {i : Nat} (h : Ev K S te δ k Φ) (hu : ∀ s, Φ s → EvS K S u (δ.set i s) k' O) : EvS K S (tSeq (tAsg te (gName i)) u) δ (k + k') O :=
  s_seq (N := fun δ' => ∃ s, Φ s ∧ δ' = δ.set i s) (s_asg h fun s hs => ⟨s, hs, rfl⟩) fun δ' ⟨s, hs, e⟩ => by
    subst e
    exact hu s hs
theorem sd_set {i : Nat} (h : Dt K S te δ s) (hu : EvS K S u (δ.set i s) k O) : EvS K S (tSeq (tAsg te (gName i)) u) δ k O := (s_set (k' := k) h fun z hz => by
  subst hz
  exact hu).up (by omega)
theorem s_if {c : Bool} (h : EvT K S tt δ 0 (fun x => x = c)) (h1 : c = true → EvS K S t δ k O) (h2 : c = false → EvS K S u δ k O) : EvS K S (tIfS tt t u) δ k O :=
  fun r σ G H q w D a b e f => h (r + k) σ G H q w _ fun x G2 H2 m w2 hs => by
    subst hs
    cases x with
    | true => exact iteT (h1 rfl r σ G2 H2 (q.mono m.gr) w2 D (fun x y z f m3 => a x y z f (m.trans m3)) (fun x y z f m3 => b x y z f (m.trans m3)) (fun x y z f m3 => e x y z f (m.trans m3)) (fun x y z g m3 => f x y z g (m.trans m3)))
    | false => exact iteF (h2 rfl r σ G2 H2 (q.mono m.gr) w2 D (fun x y z f m3 => a x y z f (m.trans m3)) (fun x y z f m3 => b x y z f (m.trans m3)) (fun x y z f m3 => e x y z f (m.trans m3)) (fun x y z g m3 => f x y z g (m.trans m3)))
theorem s_ifE {Φ : Bool → Prop} (h : EvT K S tt δ k Φ) (h1 : Φ true → EvS K S t δ k' O) (h2 : Φ false → EvS K S u δ k' O) : EvS K S (tIfS tt t u) δ (k + k') O :=
  fun r σ G H q w D a b e f => h (r + k') σ G H q (w.eq (by omega)) _ fun x G2 H2 m w2 hs => by
    cases x with
    | true => exact iteT (h1 hs r σ G2 H2 (q.mono m.gr) w2 D (fun x y z f m3 => a x y z f (m.trans m3)) (fun x y z f m3 => b x y z f (m.trans m3)) (fun x y z f m3 => e x y z f (m.trans m3)) (fun x y z g m3 => f x y z g (m.trans m3)))
    | false => exact iteF (h2 hs r σ G2 H2 (q.mono m.gr) w2 D (fun x y z f m3 => a x y z f (m.trans m3)) (fun x y z f m3 => b x y z f (m.trans m3)) (fun x y z f m3 => e x y z f (m.trans m3)) (fun x y z g m3 => f x y z g (m.trans m3)))
/-- an if without else, then the rest -/
theorem s_if0 {c : Bool} (h : EvT K S tt δ 0 (fun x => x = c)) (h1 : c = true → EvS K S (tSeq t u) δ k O) (h2 : c = false → EvS K S u δ k O) : EvS K S (tSeq (tIfS tt t tNext) u) δ k O :=
  fun r σ G H q w D a b e f => h (r + k) σ G H q w _ fun x G2 H2 m w2 hs => by
    subst hs
    cases x with
    | true => exact iteT (h1 rfl r σ G2 H2 (q.mono m.gr) w2 D (fun x y z f m3 => a x y z f (m.trans m3)) (fun x y z f m3 => b x y z f (m.trans m3)) (fun x y z f m3 => e x y z f (m.trans m3)) (fun x y z g m3 => f x y z g (m.trans m3)))
    | false => exact iteF (h2 rfl r σ G2 H2 (q.mono m.gr) w2 D (fun x y z f m3 => a x y z f (m.trans m3)) (fun x y z f m3 => b x y z f (m.trans m3)) (fun x y z f m3 => e x y z f (m.trans m3)) (fun x y z g m3 => f x y z g (m.trans m3)))
/-- a return ends what follows -/
theorem s_retSeq (h : Ev K S te δ k O.rt) : EvS K S (tSeq (tRet te) u) δ k O := fun r σ G H q w D _ b _ _ => h r σ G H q w _ fun v s G2 H2 m w2 hv hs => b v s G2 H2 m w2 hv hs
end
/-! ## what is walked -/
/-- the items that a walk yields, one by one -/
def EvI (K : PySem.W.Frag) (S : MS) (wi : TI) (δ : List SD) (k : Nat) (its : List PyData) : Prop :=
  ∀ r σ G H, SlD K G σ δ → Wd S (r + k) G H → ∀ R : It → Hp → Prop,
    (∀ J G2 H2, Mv S.M G H G2 H2 → Wd S r G2 H2 → (∃ (A : Hp → Prop) (Y : Nat → Hp → V → Hp → Prop), Walk J its.length A Y ∧ (∀ G3 H3, Mv S.M G2 H2 G3 H3 → A H3) ∧
      ∀ i d q G3 H3 x H4, its[i]? = some d → Mv S.M G2 H2 G3 H3 → Wd S q G3 H3 → Y i H3 x H4 → ∃ G4, Mv S.M G3 H3 G4 H4 ∧ Wd S q G4 H4 ∧ DD K G4 x d) → R J H2) → wi σ H R
section
variable {K : PySem.W.Frag} {S : MS} {te tl : TE} {δ : List SD} {k k' : Nat}
theorem i_list {ds : List PyData} (h : Dt K S tl δ (.dat (.list ds))) : EvI K S (iList K tl) δ 0 ds := fun r σ G H q w R hR => h r σ G H q w _ fun v s G2 H2 m w2 hv hs => by
  subst hs
  cases hv with
  | @lst a xs _ hx ht =>
    refine ⟨a, rfl, ⟨xs, .inl (.inl (w2.sub _ _ hx))⟩, hR _ G2 H2 m w2 ⟨fun H => SqL K H a xs, _, by rw [← ht.len]; exact walk_list (xs := xs), fun G3 H3 m3 => .inl (.inl (m3.sub _ _ (m3.gr _ _ hx))), fun i d q G3 H3 x H4 hd m3 w3 y => ?_⟩⟩
    obtain ⟨rfl, hy⟩ := y
    obtain ⟨d', h1, h2⟩ := ht.get hy
    cases h1.symm.trans hd
    exact ⟨G3, w3.refl, w3, h2.mono m3.gr⟩
theorem i_tup {ds : List PyData} (h : Dt K S tl δ (.dat (.tuple ds))) : EvI K S (iTup K tl) δ 0 ds := fun r σ G H q w R hR => h r σ G H q w _ fun v s G2 H2 m w2 hv hs => by
  subst hs
  cases hv with
  | @tup a xs _ hx ht =>
    refine ⟨a, rfl, ⟨xs, .inl (.inl (w2.sub _ _ hx))⟩, hR _ G2 H2 m w2 ⟨fun H => SqT K H a xs, _, by rw [← ht.len]; exact walk_tup (xs := xs), fun G3 H3 m3 => .inl (.inl (m3.sub _ _ (m3.gr _ _ hx))), fun i d q G3 H3 x H4 hd m3 w3 y => ?_⟩⟩
    obtain ⟨rfl, hy⟩ := y
    obtain ⟨d', h1, h2⟩ := ht.get hy
    cases h1.symm.trans hd
    exact ⟨G3, w3.refl, w3, h2.mono m3.gr⟩
def rangeD (lo : Int) (n : Nat) : List PyData := (List.range n).map fun (i : Nat) => PyData.int (lo + (i : Int))
theorem rangeD_len (lo : Int) (n : Nat) : (rangeD lo n).length = n := by simp [rangeD]
theorem rangeD_get {lo : Int} {n i : Nat} {d : PyData} (h : (rangeD lo n)[i]? = some d) : i < n ∧ d = .int (lo + (i : Int)) := by
  unfold rangeD at h
  rw [List.getElem?_map] at h
  by_cases hi : i < n
  · rw [List.getElem?_range hi] at h
    exact ⟨hi, (Option.some.inj h).symm⟩
  · rw [List.getElem?_eq_none (by simpa using hi)] at h
    cases h
theorem i_rngE {ta : TA} {n : Int} (h : EvA K S ta δ 0 (fun l => l = [.i n])) (h1 : n < 2 ^ 62) (h0 : -(2 ^ 62) ≤ n) : EvI K S (iRng1 ta) δ 0 (rangeD 0 n.toNat) := fun r σ G H q w R hR => h r σ G H q w _ fun vs ss G2 H2 m w2 hv hs => by
  subst hs
  cases hv with
  | cons a b =>
    cases b
    cases a
    refine ⟨n, rfl, h0, h1, hR _ G2 H2 m w2 ⟨_, _, by rw [rangeD_len]; exact walk_range, fun _ _ _ => trivial, fun i d q G3 H3 x H4 hd m3 w3 y => ?_⟩⟩
    obtain ⟨rfl, rfl⟩ := y
    obtain ⟨_, rfl⟩ := rangeD_get hd
    exact ⟨G3, w3.refl, w3, .int _⟩
theorem i_rng2 {ta : TA} {lo n : Int} (h : EvA K S ta δ 0 (fun l => l = [.i lo, .i n])) (h1 : -(2 ^ 62) ≤ lo ∧ lo < 2 ^ 62 ∧ -(2 ^ 62) ≤ n ∧ n < 2 ^ 62) : EvI K S (iRng2 ta) δ 0 (rangeD lo (n - lo).toNat) := fun r σ G H q w R hR => h r σ G H q w _ fun vs ss G2 H2 m w2 hv hs => by
  subst hs
  cases hv with
  | cons a b =>
    cases b with
    | cons a2 b =>
      cases b
      cases a
      cases a2
      refine ⟨lo, n, rfl, h1, hR _ G2 H2 m w2 ⟨_, _, by rw [rangeD_len]; exact walk_range, fun _ _ _ => trivial, fun i d q G3 H3 x H4 hd m3 w3 y => ?_⟩⟩
      obtain ⟨rfl, rfl⟩ := y
      obtain ⟨_, rfl⟩ := rangeD_get hd
      exact ⟨G3, w3.refl, w3, .int _⟩
/-! ## targets -/
def Tg (K : PySem.W.Frag) (g : TG) (d : PyData) (δ δ' : List SD) (vs : List Nat) : Prop :=
  ∀ x σ G H, SlD K G σ δ → DD K G x d → (∀ a o, G a = some o → H a = some o) → ∀ Q : L2.St → Hp → Prop, (∀ σ2, SlD K G σ2 δ' → wipe σ2 vs = wipe σ vs → Q σ2 H) → g x σ H Q
theorem wipe1 (σ : L2.St) (i : Nat) (o : Option V) : wipe (σ.set i o) [i] = wipe σ [i] := by
  unfold wipe
  unfold wipe
  rw [List.set_set]
theorem wipe2 (σ : L2.St) (i j : Nat) (o u : Option V) : wipe ((σ.set i o).set j u) [i, j] = wipe σ [i, j] := by
  unfold wipe
  unfold wipe
  unfold wipe
  rw [List.set_set]
  by_cases h : i = j
  · subst h
    rw [List.set_set, List.set_set, List.set_set]
  · rw [List.set_comm _ _ h, List.set_set, List.set_comm _ _ (Ne.symm h)]
theorem tg_name {i : Nat} {d : PyData} : Tg K (gName i) d δ (δ.set i (.dat d)) [i] := fun x σ G H q hx hs Q hQ => hQ _ (q.set (s := .dat d) hx i) (wipe1 σ i _)
theorem tg_pair {i j : Nat} {d e : PyData} : Tg K (gTup K 2 (gCons (gName i) (gCons (gName j) gNil))) (.tuple [d, e]) δ ((δ.set i (.dat d)).set j (.dat e)) [i, j] := fun x σ G H q hx hs Q hQ => by
  cases hx with
  | @tup a xs _ h t =>
    cases t with
    | cons t1 t =>
      cases t with
      | cons t2 t =>
        cases t
        exact ⟨_, _, rfl, .inl (.inl (hs _ _ h)), rfl, _, _, rfl, _, _, rfl, rfl, hQ _ ((q.set (s := .dat d) t1 i).set (s := .dat e) t2 j) (wipe2 σ i j _ _)⟩
theorem Tg.wiped {g : TG} {d : PyData} {δ δ' : List SD} {vs : List Nat} (h : Tg K g d (wipeD δ vs) δ' vs) {x : V} {σ : L2.St} {G H : Hp} (q : SlD K G σ δ) (hx : DD K G x d) (hs : ∀ a o, G a = some o → H a = some o) {Q : L2.St → Hp → Prop}
    (ww : wipe (wipe σ vs) vs = wipe σ vs) (hQ : ∀ σ2, SlD K G σ2 δ' → wipe σ2 vs = wipe σ vs → Q σ2 H) : g x (wipe σ vs) H Q :=
  h x (wipe σ vs) G H (q.wipe vs) hx hs Q fun σ2 a b => hQ σ2 a (b.trans ww)
theorem wipe_get (σ : L2.St) : ∀ (vs : List Nat) (i : Nat), i < σ.length → i ∈ vs → (wipe σ vs)[i]? = some none
  | [], _, _, h => by cases h
  | v :: vs, i, hi, h => by
    unfold wipe
    by_cases e : v = i
    · subst e
      exact List.getElem?_set_self (by rw [wipe_length]; exact hi)
    · rw [List.getElem?_set_ne e]
      rcases List.mem_cons.mp h with z | z
      · exact absurd z.symm e
      · exact wipe_get σ vs i hi z
theorem wipe_idem (σ : L2.St) (vs : List Nat) : wipe (wipe σ vs) vs = wipe σ vs := by
  refine List.ext_getElem? fun i => ?_
  by_cases hi : i < σ.length
  · by_cases h : i ∈ vs
    · rw [wipe_get (wipe σ vs) vs i (by rw [wipe_length]; exact hi) h, wipe_get σ vs i hi h]
    · rw [wipe_out h]
  · rw [List.getElem?_eq_none (by rw [wipe_length, wipe_length]; omega), List.getElem?_eq_none (by rw [wipe_length]; omega)]
/-! ## list comprehensions -/
theorem Mv.loc {M : Addr → Prop} {G H G1 H1 : Hp} {D : Addr} {o : HO} (m : Mv M G H G1 H1) (n0 : H D = none) (n1 : G1 D = none) : Mv M G H G1 (upd H1 D o) where
  gr := m.gr
  sub := fun a u e => by
    by_cases ea : a = D
    · rw [ea, n1] at e
      cases e
    · rw [upd_ne ea]
      exact m.sub a u e
  old := m.old
  kp := fun a u e n => by
    rw [upd_ne (ne_of_none e n0)]
    exact m.kp a u e n
  dom := fun a u e => by
    rw [upd_ne (ne_of_none e n0)]
    exact m.dom a u e
theorem Wd.loc {r : Nat} {G H : Hp} {D : Addr} {o : HO} (w : Wd S r G H) (n1 : G D = none) (nm : ¬ S.M D) : Wd S r G (upd H D o) where
  sub := fun a u e => by
    by_cases ea : a = D
    · rw [ea, n1] at e
      cases e
    · rw [upd_ne ea]
      exact w.sub a u e
  no := w.no
  inv := S.fr w.inv (fun _ _ e => e) fun a u ma e => by
    rw [upd_ne (show a ≠ D from fun z => nm (z ▸ ma))]
    exact e
/-- what stands at D is known from now on -/
theorem Mv.know {M : Addr → Prop} {G H G1 H1 : Hp} {D : Addr} {o : HO} (m : Mv M G H G1 H1) (n0 : H D = none) (n1 : G1 D = none) (h : H1 D = some o) : Mv M G H (upd G1 D o) H1 where
  gr := fun a u e => by
    have e1 := m.gr a u e
    rw [upd_ne (ne_of_none e1 n1)]
    exact e1
  sub := fun a u e => by
    by_cases ea : a = D
    · rw [ea, upd_same] at e
      rw [ea, ← e]
      exact h
    · rw [upd_ne ea] at e
      exact m.sub a u e
  old := fun a u e => by
    rw [upd_ne (ne_of_none e n0)]
    exact m.old a u e
  kp := m.kp
  dom := m.dom
theorem Wd.know {r : Nat} {G H : Hp} {D : Addr} {o : HO} (w : Wd S r G H) (h : H D = some o) (nm : ¬ S.M D) (n1 : G D = none := by assumption) : Wd S r (upd G D o) H where
  sub := fun a u e => by
    by_cases ea : a = D
    · rw [ea, upd_same] at e
      rw [ea, ← e]
      exact h
    · rw [upd_ne ea] at e
      exact w.sub a u e
  no := fun a ma => by
    rw [upd_ne (show a ≠ D from fun z => nm (z ▸ ma))]
    exact w.no a ma
  inv := S.fr w.inv (fun a u e => by rw [upd_ne (ne_of_none e n1)]; exact e) fun _ _ _ e => e
theorem e_lc {wi : TI} {g : TG} {vs : List Nat} {its : List PyData} {δg : PyData → List SD} {Ψ : Nat → PyData → Prop} (hi : EvI K S wi δ k its) (hg : ∀ (j : Nat) (d : PyData), its[j]? = some d → Tg K g d (wipeD δ vs) (δg d) vs)
    (he : ∀ (j : Nat) (d : PyData), its[j]? = some d → Ev K S te (δg d) k' (fun s => ∃ e, s = .dat e ∧ Ψ j e)) (hn : its.length ≤ 100000) :
    Ev K S (tLc wi g tYes te vs) δ (k + k' * its.length) (fun s => ∃ ds, s = .dat (.list ds) ∧ ds.length = its.length ∧ ∀ (j : Nat) (d : PyData), ds[j]? = some d → Ψ j d) :=
  fun r σ G H q w Q hQ => hi (r + k' * its.length) σ G H q (w.eq (by omega)) _ fun J G2 H2 m w2 ⟨A, Y, wk, hA, hY⟩ D nD => by
    have nG : G2 D = none := by
      cases e : G2 D with
      | none => rfl
      | some o =>
        rw [w2.sub D o e] at nD
        cases nD
    have nM : ¬ S.M D := fun z => by
      obtain ⟨o, e⟩ := S.dom w2.inv z
      rw [e] at nD
      cases nD
    refine lc_it wk (fun i H3 => ∃ G3 acc ds, Mv S.M G2 H2 G3 H3 ∧ G3 D = none ∧ H3 D = some (.lst acc) ∧ Wd S (r + k' * (its.length - i)) G3 H3 ∧ DDs K G3 acc ds ∧ ds.length = i ∧ ∀ (j : Nat) (d : PyData), ds[j]? = some d → Ψ j d)
      ⟨G2, [], [], w2.refl.loc nD nG, nG, upd_same, w2.loc nG nM, .nil, rfl, fun j d e => by simp at e⟩ (fun i H3 _ ⟨G3, acc, ds, m3, _⟩ => hA G3 H3 m3) ?_ ?_
    · rintro i x H3 H4 hi ⟨G3, acc, ds, m3, n3, h3, w3, dd, el, hp⟩ y
      have hd : its[i]? = some its[i] := List.getElem?_eq_getElem hi
      obtain ⟨G4, m4, w4, dx⟩ := hY i its[i] _ G3 H3 x H4 hd m3 w3 y
      have n4 : G4 D = none := (m4.old D _ h3).trans n3
      have h4 : H4 D = some (.lst acc) := m4.kp D _ h3 nM
      refine Tg.wiped (hg i _ hd) (q.mono fun a o e => m4.gr a o (m3.gr a o (m.gr a o e))) dx w4.sub (wipe_idem σ vs) fun σ2 q2 e2 => ⟨e2, ?_⟩
      show te σ2 H4 _
      refine he i _ hd (r + k' * (its.length - (i + 1))) σ2 G4 H4 q2 (w4.eq ?_) _ fun v s G5 H5 m5 w5 hv hs => ?_
      · have e : its.length - i = (its.length - (i + 1)) + 1 := by omega
        rw [e, Nat.mul_add, Nat.mul_one, Nat.add_assoc]
      · obtain ⟨e, rfl, pe⟩ := hs
        have n5 : G5 D = none := (m5.old D _ h4).trans n4
        have h5 : H5 D = some (.lst acc) := m5.kp D _ h4 nM
        have da := dd.len
        refine ⟨acc, h5, Nat.lt_of_lt_of_le (show acc.length < 100001 by omega) (by decide), G5, acc ++ [v], ds ++ [e], (m3.trans (m4.trans m5)).loc nD n5, n5, upd_same, w5.loc n5 nM, (dd.mono fun a o z => m5.gr a o (m4.gr a o z)).snoc hv, by rw [List.length_append, el]; rfl, fun j d' hj => ?_⟩
        by_cases hj2 : j < ds.length
        · rw [List.getElem?_append_left hj2] at hj
          exact hp j d' hj
        · rw [List.getElem?_append_right (by omega)] at hj
          have : j - ds.length = 0 := by
            cases h : j - ds.length with
            | zero => rfl
            | succ n =>
              rw [h] at hj
              simp at hj
          rw [this] at hj
          cases hj
          have ej : j = i := by omega
          rw [ej]
          exact pe
    · rintro H3 ⟨G3, acc, ds, m3, n3, h3, w3, dd, el, hp⟩
      exact hQ (.ref D) (.dat (.list ds)) (upd G3 D (.lst acc)) H3 (m.trans (m3.know nD n3 h3)) ((w3.know h3 nM).eq (by rw [Nat.sub_self]; rfl)) (DD.lst upd_same (dd.mono fun a o e => by
        rw [upd_ne (ne_of_none e n3)]
        exact e)) ⟨ds, rfl, el, hp⟩
theorem d_lc {wi : TI} {g : TG} {vs : List Nat} {its : List PyData} {δg : PyData → List SD} {f : PyData → PyData} (hi : EvI K S wi δ 0 its) (hg : ∀ (j : Nat) (d : PyData), its[j]? = some d → Tg K g d (wipeD δ vs) (δg d) vs)
    (he : ∀ (j : Nat) (d : PyData), its[j]? = some d → Dt K S te (δg d) (.dat (f d))) (hn : its.length ≤ 100000) : Dt K S (tLc wi g tYes te vs) δ (.dat (.list (its.map f))) :=
  ((e_lc (k' := 0) (Ψ := fun j e => ∃ d, its[j]? = some d ∧ e = f d) hi hg (fun j d hd => (he j d hd).mono fun s hs => ⟨f d, hs, d, hd, rfl⟩) hn).mono fun s ⟨ds, e, el, hp⟩ => by
    rw [e]
    congr 2
    refine List.ext_getElem? fun j => ?_
    rw [List.getElem?_map]
    by_cases hj : j < ds.length
    · obtain ⟨d, h1, h2⟩ := hp j _ (List.getElem?_eq_getElem hj)
      rw [List.getElem?_eq_getElem hj, h1, h2]
      rfl
    · rw [List.getElem?_eq_none (by omega), List.getElem?_eq_none (by omega)]
      rfl).up (by omega)
/-! ## for loops -/
theorem s_for {wi : TI} {g : TG} {tb : TS} {vs : List Nat} {its : List PyData} {O : Out} (I : Nat → List SD → Prop) (hi : EvI K S wi δ k its) (h0 : I 0 δ)
    (hs : ∀ (j : Nat) (d : PyData) δ', its[j]? = some d → I j δ' → ∃ δ2, Tg K g d δ' δ2 vs ∧ EvS K S tb δ2 k' { nx := I (j + 1), rt := O.rt, bk := O.nx, ct := I (j + 1) }) (hd : ∀ δ', I its.length δ' → O.nx δ') :
    EvS K S (tFor wi g tb) δ (k + k' * its.length) O :=
  fun r σ G H q w D a b _ _ => hi (r + k' * its.length) σ G H q (w.eq (by omega)) _ fun J G2 H2 m w2 ⟨A, Y, wk, hA, hY⟩ =>
    for_it wk (fun i σ' H3 => ∃ G3 δ', Mv S.M G2 H2 G3 H3 ∧ Wd S (r + k' * (its.length - i)) G3 H3 ∧ SlD K G3 σ' δ' ∧ I i δ') ⟨G2, δ, w2.refl, w2, q.mono m.gr, h0⟩ (fun i σ' H3 _ ⟨G3, _, m3, _⟩ => hA G3 H3 m3) (by
      rintro i x σ' H3 H4 hlt ⟨G3, δ', m3, w3, q3, hI⟩ y
      have hd' : its[i]? = some its[i] := List.getElem?_eq_getElem hlt
      obtain ⟨G4, m4, w4, dx⟩ := hY i its[i] _ G3 H3 x H4 hd' m3 w3 y
      obtain ⟨δ2, tg, hb⟩ := hs i its[i] δ' hd' hI
      refine tg x σ' G4 H4 (q3.mono m4.gr) dx w4.sub _ fun σ2 q2 _ => ?_
      refine hb (r + k' * (its.length - (i + 1))) σ2 G4 H4 q2 (w4.eq ?_) _ ?_ ?_ ?_ ?_
      · have e : its.length - i = (its.length - (i + 1)) + 1 := by omega
        rw [e, Nat.mul_add, Nat.mul_one, Nat.add_assoc]
      · intro σ5 δ5 G5 H5 m5 w5 q5 hI5
        exact ⟨G5, δ5, m3.trans (m4.trans m5), w5, q5, hI5⟩
      · intro v s G5 H5 m5 w5 hv hr
        exact b v s G5 H5 (m.trans (m3.trans (m4.trans m5))) (Wd.dn (j := k' * (its.length - (i + 1))) w5) hv hr
      · intro σ5 δ5 G5 H5 m5 w5 q5 hn
        exact a σ5 δ5 G5 H5 (m.trans (m3.trans (m4.trans m5))) (Wd.dn (j := k' * (its.length - (i + 1))) w5) q5 hn
      · intro σ5 δ5 G5 H5 m5 w5 q5 hI5
        exact ⟨G5, δ5, m3.trans (m4.trans m5), w5, q5, hI5⟩) (by
      rintro σ' H3 ⟨G3, δ', m3, w3, q3, hI⟩
      exact a σ' δ' G3 H3 (m.trans m3) (w3.eq (by rw [Nat.sub_self]; rfl)) q3 (hd δ' hI))
end
/-! ## operations, one by one -/
section
variable {K : PySem.W.Frag} {S : MS} {δ : List SD}
theorem atI_dd {G : Hp} {ds : List PyData} {vs : List V} {i : Int} {d : PyData} (t : DDs K G vs ds) (h : atI ds i = some d) : ∃ v, atI vs i = some v ∧ DD K G v d := by
  unfold atI at h ⊢
  rw [t.len]
  cases e : ixN ds.length i with
  | none =>
    rw [e] at h
    cases h
  | some j =>
    rw [e] at h
    exact t.got h
theorem rv_ixL {ds : List PyData} {i : Int} {d : PyData} (h : atI ds i = some d) : RV K (rIxL K) (.dat (.list ds)) (.i i) (fun z => z = .dat d) := fun x y G H hx hy hs Q hQ => by
  cases hy
  cases hx with
  | @lst a xs _ hl t =>
    obtain ⟨v, hv, dv⟩ := atI_dd t h
    exact ⟨a, xs, i, v, rfl, rfl, .inl (.inl (hs _ _ hl)), hv, hQ v (.dat d) G H (Mv.refl hs) dv rfl⟩
theorem rv_ixT {ds : List PyData} {i : Int} {d : PyData} (h : atI ds i = some d) : RV K (rIxT K) (.dat (.tuple ds)) (.i i) (fun z => z = .dat d) := fun x y G H hx hy hs Q hQ => by
  cases hy
  cases hx with
  | @tup a xs _ hl t =>
    obtain ⟨v, hv, dv⟩ := atI_dd t h
    exact ⟨a, xs, i, v, rfl, rfl, .inl (.inl (hs _ _ hl)), hv, hQ v (.dat d) G H (Mv.refl hs) dv rfl⟩
theorem rv_cat {ds es : List PyData} (h : ds.length + es.length ≤ 100000) : RV K rCat (.dat (.list ds)) (.dat (.list es)) (fun z => z = .dat (.list (ds ++ es))) := fun x y G H hx hy hs Q hQ => by
  cases hx with
  | @lst a xs _ hl t =>
    cases hy with
    | @lst b ys _ hl2 t2 =>
      refine ⟨a, b, xs, ys, rfl, rfl, hs _ _ hl, hs _ _ hl2, Nat.le_trans (by rw [t.len, t2.len]; exact h) (by decide), fun p np => hQ _ (.dat (.list (ds ++ es))) _ _ (Mv.new hs np) (DD.lst upd_same ((t.append t2).mono (Mv.new (M := fun _ => False) hs np).gr)) rfl⟩
theorem rv_catT {ds es : List PyData} (h : ds.length + es.length ≤ 100000) (hn : ds ≠ []) : RV K (rCatT K) (.dat (.tuple ds)) (.dat (.tuple es)) (fun z => z = .dat (.tuple (ds ++ es))) := fun x y G H hx hy hs Q hQ => by
  cases hx with
  | @tup a xs _ hl t =>
    cases hy with
    | @tup b ys _ hl2 t2 =>
      have e1 := t.len
      have e2 := t2.len
      refine ⟨a, b, xs, ys, rfl, rfl, .inl (.inl (hs _ _ hl)), .inl (.inl (hs _ _ hl2)), fun z => hn ?_, Nat.le_trans (by rw [e1, e2]; exact h) (by decide), fun z => ?_, fun _ p np => hQ _ (.dat (.tuple (ds ++ es))) _ _ (Mv.new hs np) (DD.tup upd_same ((t.append t2).mono (Mv.new (M := fun _ => False) hs np).gr)) rfl⟩
      · subst z
        exact List.eq_nil_of_length_eq_zero e1.symm
      · subst z
        have : es = [] := List.eq_nil_of_length_eq_zero e2.symm
        subst this
        exact hQ _ (.dat (.tuple ds)) G H (Mv.refl hs) (.tup hl t) (by rw [List.append_nil])
theorem rv_eqD {d e : PyData} (h1 : SeqAt.shaped d = true) (h2 : SeqAt.shaped e = true) : RV K (rEqD K) (.dat d) (.dat e) (fun z => z = .b (PyData.eqv d e)) := fun x y G H hx hy hs Q hQ =>
  ⟨d, e, ((show DD K G x d from hx).mono hs).dp, ((show DD K G y e from hy).mono hs).dp, h1, h2, hQ _ (.b _) G H (Mv.refl hs) (DD.bl _) rfl⟩
theorem rv_neD {d e : PyData} (h1 : SeqAt.shaped d = true) (h2 : SeqAt.shaped e = true) : RV K (rNeD K) (.dat d) (.dat e) (fun z => z = .b (!PyData.eqv d e)) := fun x y G H hx hy hs Q hQ =>
  ⟨d, e, ((show DD K G x d from hx).mono hs).dp, ((show DD K G y e from hy).mono hs).dp, h1, h2, hQ _ (.b _) G H (Mv.refl hs) (DD.bl _) rfl⟩
theorem rv_eqI {i j : Int} : RV K rEq (.i i) (.i j) (fun z => z = .b (decide (i = j))) := fun x y G H hx hy hs Q hQ => by
  cases hx
  cases hy
  refine ⟨rfl, hQ _ (.b (decide (i = j))) G H (Mv.refl hs) ?_ rfl⟩
  rw [show decide (V.int i = V.int j) = decide (i = j) from by
    by_cases h : i = j
    · subst h
      simp
    · rw [decide_eq_false h, decide_eq_false fun z => h (V.int.inj z)]]
  exact DD.bl _
theorem rv_neI {i j : Int} : RV K rNe (.i i) (.i j) (fun z => z = .b (!decide (i = j))) := fun x y G H hx hy hs Q hQ => by
  cases hx
  cases hy
  refine ⟨rfl, hQ _ (.b (!decide (i = j))) G H (Mv.refl hs) ?_ rfl⟩
  rw [show decide (V.int i = V.int j) = decide (i = j) from by
    by_cases h : i = j
    · subst h
      simp
    · rw [decide_eq_false h, decide_eq_false fun z => h (V.int.inj z)]]
  exact DD.bl _
theorem rv_eqB {i j : Bool} : RV K rEq (.b i) (.b j) (fun z => z = .b (i == j)) := fun x y G H hx hy hs Q hQ => by
  cases hx
  cases hy
  refine ⟨rfl, hQ _ (.b (i == j)) G H (Mv.refl hs) ?_ rfl⟩
  rw [dec_bl]
  exact DD.bl _
theorem rv_neB {i j : Bool} : RV K rNe (.b i) (.b j) (fun z => z = .b (!(i == j))) := fun x y G H hx hy hs Q hQ => by
  cases hx
  cases hy
  refine ⟨rfl, hQ _ (.b (!(i == j))) G H (Mv.refl hs) ?_ rfl⟩
  rw [dec_bl]
  exact DD.bl _
/-! built-ins -/
theorem vds1 {G : Hp} {vs : List V} {s : SD} (h : VDs K G vs [s]) : ∃ v, vs = [v] ∧ VD K G v s := by
  cases h with
  | cons a b =>
    cases b
    exact ⟨_, rfl, a⟩
theorem vds2 {G : Hp} {vs : List V} {s t : SD} (h : VDs K G vs [s, t]) : ∃ v u, vs = [v, u] ∧ VD K G v s ∧ VD K G u t := by
  cases h with
  | cons a b =>
    cases b with
    | cons c d =>
      cases d
      exact ⟨_, _, rfl, a, c⟩
theorem rc_lenL {ds : List PyData} : RC K (fun xs H Q => ∃ p ys, xs = [.ref p] ∧ (SqL K H p ys ∨ SqT K H p ys) ∧ Q (.int ys.length) H) [.dat (.list ds)] (fun z => z = .i ds.length) := fun vs G H hv hs Q hQ => by
  obtain ⟨v, rfl, hx⟩ := vds1 hv
  cases hx with
  | @lst a xs _ hl t => exact ⟨a, xs, rfl, .inl (.inl (.inl (hs _ _ hl))), hQ _ (.i ds.length) G H (Mv.refl hs) (by rw [t.len]; exact DD.int _) rfl⟩
theorem rc_lenT {ds : List PyData} : RC K (fun xs H Q => ∃ p ys, xs = [.ref p] ∧ (SqL K H p ys ∨ SqT K H p ys) ∧ Q (.int ys.length) H) [.dat (.tuple ds)] (fun z => z = .i ds.length) := fun vs G H hv hs Q hQ => by
  obtain ⟨v, rfl, hx⟩ := vds1 hv
  cases hx with
  | @tup a xs _ hl t => exact ⟨a, xs, rfl, .inr (.inl (.inl (hs _ _ hl))), hQ _ (.i ds.length) G H (Mv.refl hs) (by rw [t.len]; exact DD.int _) rfl⟩
theorem rc_listL {ds : List PyData} : RC K (fun xs H Q => ∃ p ys, xs = [.ref p] ∧ (SqL K H p ys ∨ SqT K H p ys) ∧ ∀ l, H l = none → Q (.ref l) (upd H l (.lst ys))) [.dat (.list ds)] (fun z => z = .dat (.list ds)) := fun vs G H hv hs Q hQ => by
  obtain ⟨v, rfl, hx⟩ := vds1 hv
  cases hx with
  | @lst a xs _ hl t => exact ⟨a, xs, rfl, .inl (.inl (.inl (hs _ _ hl))), fun l hn => hQ _ (.dat (.list ds)) _ _ (Mv.new hs hn) (DD.lst upd_same (t.mono (Mv.new (M := fun _ => False) hs hn).gr)) rfl⟩
theorem rc_listT {ds : List PyData} : RC K (fun xs H Q => ∃ p ys, xs = [.ref p] ∧ (SqL K H p ys ∨ SqT K H p ys) ∧ ∀ l, H l = none → Q (.ref l) (upd H l (.lst ys))) [.dat (.tuple ds)] (fun z => z = .dat (.list ds)) := fun vs G H hv hs Q hQ => by
  obtain ⟨v, rfl, hx⟩ := vds1 hv
  cases hx with
  | @tup a xs _ hl t => exact ⟨a, xs, rfl, .inr (.inl (.inl (hs _ _ hl))), fun l hn => hQ _ (.dat (.list ds)) _ _ (Mv.new hs hn) (DD.lst upd_same (t.mono (Mv.new (M := fun _ => False) hs hn).gr)) rfl⟩
theorem rc_tupL {ds : List PyData} : RC K (fun xs H Q => ∃ p ys, xs = [.ref p] ∧ ((SqL K H p ys ∧ ∀ l, H l = none → Q (.ref l) (upd H l (.tup ys))) ∨ (SqT K H p ys ∧ Q (.ref p) H))) [.dat (.list ds)] (fun z => z = .dat (.tuple ds)) := fun vs G H hv hs Q hQ => by
  obtain ⟨v, rfl, hx⟩ := vds1 hv
  cases hx with
  | @lst a xs _ hl t => exact ⟨a, xs, rfl, .inl ⟨.inl (.inl (hs _ _ hl)), fun l hn => hQ _ (.dat (.tuple ds)) _ _ (Mv.new hs hn) (DD.tup upd_same (t.mono (Mv.new (M := fun _ => False) hs hn).gr)) rfl⟩⟩
theorem rc_tupT {ds : List PyData} : RC K (fun xs H Q => ∃ p ys, xs = [.ref p] ∧ ((SqL K H p ys ∧ ∀ l, H l = none → Q (.ref l) (upd H l (.tup ys))) ∨ (SqT K H p ys ∧ Q (.ref p) H))) [.dat (.tuple ds)] (fun z => z = .dat (.tuple ds)) := fun vs G H hv hs Q hQ => by
  obtain ⟨v, rfl, hx⟩ := vds1 hv
  cases hx with
  | @tup a xs _ hl t => exact ⟨a, xs, rfl, .inr ⟨.inl (.inl (hs _ _ hl)), hQ _ (.dat (.tuple ds)) G H (Mv.refl hs) (.tup hl t) rfl⟩⟩
theorem rc_abs {i : Int} : RC K (fun xs H Q => ∃ i, xs = [.int i] ∧ Q (.int (if i < 0 then -i else i)) H) [.i i] (fun z => z = .i (if i < 0 then -i else i)) := fun vs G H hv hs Q hQ => by
  obtain ⟨v, rfl, hx⟩ := vds1 hv
  cases hx
  exact ⟨i, rfl, hQ _ (.i _) G H (Mv.refl hs) (DD.int _) rfl⟩
theorem rc_max {i j : Int} : RC K (fun xs H Q => ∃ i j, xs = [.int i, .int j] ∧ Q (.int (if j > i then j else i)) H) [.i i, .i j] (fun z => z = .i (if j > i then j else i)) := fun vs G H hv hs Q hQ => by
  obtain ⟨v, u, rfl, hx, hy⟩ := vds2 hv
  cases hx
  cases hy
  exact ⟨i, j, rfl, hQ _ (.i _) G H (Mv.refl hs) (DD.int _) rfl⟩
theorem rc_min {i j : Int} : RC K (fun xs H Q => ∃ i j, xs = [.int i, .int j] ∧ Q (.int (if j < i then j else i)) H) [.i i, .i j] (fun z => z = .i (if j < i then j else i)) := fun vs G H hv hs Q hQ => by
  obtain ⟨v, u, rfl, hx, hy⟩ := vds2 hv
  cases hx
  cases hy
  exact ⟨i, j, rfl, hQ _ (.i _) G H (Mv.refl hs) (DD.int _) rfl⟩
theorem rc_intB {c : Bool} : RC K (fun xs H Q => (∃ i, xs = [.int i] ∧ Q (.int i) H) ∨ ∃ k, xs = [.bl k] ∧ Q (.int (if k then 1 else 0)) H) [.b c] (fun z => z = .i (if c then 1 else 0)) := fun vs G H hv hs Q hQ => by
  obtain ⟨v, rfl, hx⟩ := vds1 hv
  cases hx
  exact .inr ⟨c, rfl, hQ _ (.i _) G H (Mv.refl hs) (DD.int _) rfl⟩
theorem rc_all {bs : List Bool} : RC K (rAll K) [.dat (.list (bs.map .bool))] (fun z => z = .b (bs.all id)) := fun vs G H hv hs Q hQ => by
  obtain ⟨v, rfl, hx⟩ := vds1 hv
  cases hx with
  | @lst a xs _ hl t =>
    have e := t.bls
    subst e
    exact ⟨a, bs, rfl, .inl (.inl (hs _ _ hl)), hQ _ (.b _) G H (Mv.refl hs) (DD.bl _) rfl⟩
def tyD : PyData → String
  | .none => "NoneType"
  | .bool _ => "bool"
  | .int _ => "int"
  | .str _ => "str"
  | .list _ => "list"
  | .tuple _ => "tuple"
  | .dict _ => "dict"
theorem tyX {G H : Hp} {v : V} {d : PyData} (h : DD K G v d) (hs : ∀ a o, G a = some o → H a = some o) : TyX K H v (.type (tyD d)) := by
  cases h with
  | non => exact .base .non
  | bl c => exact .base (.bl c)
  | int i => exact .base (.int i)
  | str x => exact .base (.str x)
  | lst h t => exact .base (.lst (hs _ _ h))
  | tup h t => exact .base (.tup (hs _ _ h))
end
end DL

namespace ZX
open PySem PySem.Spec PyProof.Rows L2
/-! zip of two things, each a list or a tuple -/
def SqX (K : PySem.W.Frag) (c : Bool) (H : Hp) (a : Addr) (xs : List V) : Prop := if c = true then SqT K H a xs else SqL K H a xs
def IterX (h : Heap) (c : Bool) (it l : Addr) (i : Nat) : Prop := if c = true then h.IsTupleIter it l i else h.IsListIter it l i
def HasX (h : Heap) (c : Bool) (l : Addr) (items : Array Value) : Prop := if c = true then h.IsTuple l items else h.IsList l items
def nmX (c : Bool) : String := if c = true then "tuple_iterator" else "list_iterator"
theorem drawsX {prog : Program} {w : World} {A : Around} (hh : A.handled = none) (c : Bool) (it l : Addr) (hne : l ≠ it) (items : Array Value) :
    Draws prog w A it [it, l] items.size (fun i v => items[i]? = some v) (fun i h => IterX h c it l i ∧ HasX h c l items) := by
  cases c
  · exact Draws.list hh it l hne items
  · exact Draws.tuple hh it l hne items
theorem IterX.obj {h : Heap} {c : Bool} {it l : Addr} {i : Nat} (x : IterX h c it l i) : ∃ o, h.get? it = some o ∧ ∀ v, o.data ≠ .cell v := by
  cases c
  · obtain ⟨o, e, _, d⟩ := (show h.IsListIter it l i from x)
    exact ⟨o, e, fun v q => by rw [d] at q; cases q⟩
  · obtain ⟨o, e, _, d⟩ := (show h.IsTupleIter it l i from x)
    exact ⟨o, e, fun v q => by rw [d] at q; cases q⟩
theorem IterX.keep {h h' : Heap} {c : Bool} {it l : Addr} {i : Nat} (x : IterX h c it l i) (k : ∀ o, h.get? it = some o → h'.get? it = some o) : IterX h' c it l i := by
  cases c
  · exact (show h.IsListIter it l i from x).at k
  · exact (show h.IsTupleIter it l i from x).at k
theorem hasX {X : Cx} {pins : List (Addr × Obj)} {σ : L2.St} {H : Hp} {s : Shared} {c : Bool} {a : Addr} {xs : List V} (I : Inv X pins σ H s) (h : SqX X.K c H a xs) : ∃ its : List Value, Vals xs its ∧ HasX s.heap c a its.toArray ∧ a < s.heap.objs.size := by
  cases c
  · obtain ⟨its, r, p, _⟩ := I.list (show SqL X.K H a xs from h)
    exact ⟨its, r, p.isList, p.lt⟩
  · obtain ⟨its, r, p, _⟩ := I.tuple (show SqT X.K H a xs from h)
    have p' := p
    obtain ⟨o, ho, _⟩ := p'
    exact ⟨its, r, p, Heap.lt_size ho⟩
theorem injX {X : Cx} {pins : List (Addr × Obj)} {σ : L2.St} {H : Hp} {s : Shared} {c : Bool} {a : Addr} {xs ys : List V} (I : Inv X pins σ H s) (h : SqX X.K c H a xs) (h' : SqX X.K c H a ys) : xs = ys := by
  cases c
  · exact I.list_inj h h'
  · exact I.tuple_inj h h'
theorem HasX.push {h : Heap} {c : Bool} {l : Addr} {its : Array Value} (x : HasX h c l its) (o : Obj) : HasX (h.push o) c l its := by
  cases c
  · exact Heap.IsList.push (show h.IsList l its from x) o
  · exact Heap.IsTuple.push (show h.IsTuple l its from x) o
theorem iterX {prog : Program} {w : World} {A : Around} {E : Value → Shared → Prop} {s : Shared} {c : Bool} {l : Addr} {items : Array Value} {Q : Value → Shared → Prop} (hl : HasX s.heap c l items)
    (hQ : Q (.ref s.heap.objs.size) { s with heap := s.heap.push { cls := .type (nmX c), data := .fields #[.ref l, .int 0 0] } }) : wpAny (model prog w) A (pyIter (.ref l)) Q E s := by
  cases c
  · exact wpAny_pyIter_list (show s.heap.IsList l items from hl) hQ
  · exact wpAny_pyIter_tuple (show s.heap.IsTuple l items from hl) hQ
abbrev hA (h : Heap) (c : Bool) (l : Addr) : Heap := h.push { cls := .type (nmX c), data := .fields #[.ref l, .int 0 0] }
abbrev hB (h : Heap) (c e : Bool) (l m : Addr) : Heap := hA (hA h c l) e m
abbrev hC (h : Heap) (c e : Bool) (l m : Addr) : Heap := (hB h c e l m).push { cls := .type "tuple", data := .seq #[.ref h.objs.size, .ref (hA h c l).objs.size] }
abbrev hD (h : Heap) (c e : Bool) (l m : Addr) : Heap := (hC h c e l m).push { cls := .type "tuple", data := .seq #[.none, .none] }
abbrev hE (h : Heap) (c e : Bool) (l m : Addr) : Heap := (hD h c e l m).push { cls := .type "zip", data := .fields #[.none, .bool false, .bool false, .ref (hB h c e l m).objs.size, .ref (hC h c e l m).objs.size] }
theorem meetsX (c e : Bool) (l m : Addr) (xs ys : Array Value) :
    Meets (Builtin.«zip.__new__» ⟨[.type "zip", .ref l, .ref m], []⟩) (fun _ R s => HasX s.heap c l xs ∧ HasX s.heap e m ys ∧ R (.ok (.ret (.ref (hD s.heap c e l m).objs.size))) { s with heap := hE s.heap c e l m }) :=
  .of_wp fun prog w A R s hy => by
    obtain ⟨hp, g, d, tk, os⟩ := s
    obtain ⟨h1, h2, hy⟩ := hy
    have sub := sub_zip
    have L1 : HasX (Shared.heap ⟨hp, g, d, tk, os⟩) c l xs := h1
    have L2 : HasX (Shared.heap ⟨hA hp c l, g, d, tk, os⟩) e m ys := HasX.push h2 _
    wp_walk using iterX L1, iterX L2
    exact ⟨_, rfl, hy⟩
theorem iter0 {h : Heap} {c : Bool} {it l : Addr} (e : h.get? it = some { cls := .type (nmX c), data := .fields #[.ref l, .int 0 0] }) : IterX h c it l 0 := by
  cases c
  · exact ⟨_, e, rfl, rfl⟩
  · exact ⟨_, e, rfl, rfl⟩
section
variable {prog : Program} {w : World} {A : Around} {E : Value → Shared → Prop} {s : Shared}
theorem callX {c e : Bool} {l m : Addr} {xs ys : Array Value} {Q : Value → Shared → Prop} (h1 : HasX s.heap c l xs) (h2 : HasX s.heap e m ys)
    (h : ∀ g, IsZip g (s.heap.objs.size + 4) (s.heap.objs.size + 2) (s.heap.objs.size + 3) .none → IsPair g (s.heap.objs.size + 2) (.ref s.heap.objs.size) (.ref (s.heap.objs.size + 1)) →
      IsPair g (s.heap.objs.size + 3) .none .none → IterX g c s.heap.objs.size l 0 → IterX g e (s.heap.objs.size + 1) m 0 → (∀ b o, s.heap.get? b = some o → g.get? b = some o) → Q (.ref (s.heap.objs.size + 4)) { s with heap := g }) :
    wpAny (model prog w) A (call (.type "zip") [.ref l, .ref m]) Q E s := by
  refine callType_new F.called_zip (by decide) (F.typeCall_zip_2 _ _) (F.newCall_zip_2 _ _) (fun o => F.args_object_init_3 o _ _) F.entry_zip_new (meetsX c e l m xs ys) ⟨h1, h2, ?_⟩
  have n1 : (hA s.heap c l).objs.size = s.heap.objs.size + 1 := Heap.size_push ..
  have n2 : (hB s.heap c e l m).objs.size = s.heap.objs.size + 2 := by rw [Heap.size_push, n1]
  have n3 : (hC s.heap c e l m).objs.size = s.heap.objs.size + 3 := by rw [Heap.size_push, n2]
  have n4 : (hD s.heap c e l m).objs.size = s.heap.objs.size + 4 := by rw [Heap.size_push, n3]
  have q5 : (hE s.heap c e l m).get? (hD s.heap c e l m).objs.size = some _ := Heap.get?_push_size _ rfl
  have q4 : (hE s.heap c e l m).get? (hC s.heap c e l m).objs.size = some _ := Heap.get?_push_of_some _ (Heap.get?_push_size _ rfl)
  have q3 : (hE s.heap c e l m).get? (hB s.heap c e l m).objs.size = some _ := Heap.get?_push_of_some _ (Heap.get?_push_of_some _ (Heap.get?_push_size _ rfl))
  have q2 : (hE s.heap c e l m).get? (hA s.heap c l).objs.size = some _ := Heap.get?_push_of_some _ (Heap.get?_push_of_some _ (Heap.get?_push_of_some _ (Heap.get?_push_size _ rfl)))
  have q1 : (hE s.heap c e l m).get? s.heap.objs.size = some _ := Heap.get?_push_of_some _ (Heap.get?_push_of_some _ (Heap.get?_push_of_some _ (Heap.get?_push_of_some _ (Heap.get?_push_size _ rfl))))
  show _ ∧ _
  rw [n2, n3, n4] at q5
  rw [n1, n2] at q3
  rw [n3] at q4
  rw [n1] at q2
  rw [n4]
  exact ⟨⟨_, q5, rfl⟩, h _ q5 q3 q4 (iter0 q1) (iter0 q2) fun b o x => Heap.get?_push_of_some _ (Heap.get?_push_of_some _ (Heap.get?_push_of_some _ (Heap.get?_push_of_some _ (Heap.get?_push_of_some _ x))))⟩
end
def ItX (K : PySem.W.Frag) (c e : Bool) (a b : Addr) : It :=
  ⟨fun i H => ∃ (xs ys : List V) (x y : V), SqX K c H a xs ∧ SqX K e H b ys ∧ xs[i]? = some x ∧ ys[i]? = some y,
    fun i H v H' => ∃ T x y, v = .ref T ∧ H T = none ∧ H' = upd H T (.tup [x, y]) ∧ (∀ xs, SqX K c H a xs → xs[i]? = some x) ∧ ∀ ys, SqX K e H b ys → ys[i]? = some y,
    fun i H => ∃ xs ys : List V, SqX K c H a xs ∧ SqX K e H b ys ∧ i ≤ xs.length ∧ i ≤ ys.length ∧ (xs.length = i ∨ ys.length = i)⟩
theorem sep {z TI TO i1 i2 a b : Addr} (D : ZipApart z TI TO i1 i2 a b) (h1 : b ≠ i1) (h2 : a ≠ i2) : ZipSep2 z TI TO i1 i2 [i1, a] [i2, b] where
  TIz := D.TIz
  TOz := D.TOz
  TITO := D.TITO
  TIi1 := D.TIi1
  mem1 := by simp
  zf1 := by simp [D.i1z.symm, D.l1z.symm]
  Tf1 := by simp [D.TOi1, D.l1TO.symm]
  TIi2 := D.TIi2
  mem2 := by simp
  zf2 := by simp [D.i2z.symm, D.l2z.symm]
  Tf2 := by simp [D.TOi2, D.l2TO.symm]
  sep1_2 := by simp [D.i12, h1.symm]
  sep2_1 := by simp [D.i12.symm, h2.symm]
theorem turnX {P : Program} {w : World} {K : PySem.W.Frag} {elts : List Expr} {kk : Nat} {tpos : Pos} {c e : Bool} {a b z TI TO i1 i2 : Addr} (D : ZipApart z TI TO i1 i2 a b) :
    Turn P w K (.Tuple elts kk tpos) (ItX K c e a b) [z, TI, TO, i1, i2] z (fun i h => IsZip h z TI TO .none ∧ IsPair h TI (.ref i1) (.ref i2) ∧ (∃ x y, IsPair h TO x y) ∧ IterX h c i1 a i ∧ IterX h e i2 b i) where
  mem := by simp
  obj := fun i h st k hk => by
    obtain ⟨hz, hTI, ⟨x, y, hTO⟩, h1, h2⟩ := st
    have cs : k = z ∨ k = TI ∨ k = TO ∨ k = i1 ∨ k = i2 := by simpa using hk
    rcases cs with rfl | rfl | rfl | rfl | rfl
    · exact ⟨_, hz, fun v q => nomatch q⟩
    · exact ⟨_, hTI, fun v q => nomatch q⟩
    · exact ⟨_, hTO, fun v q => nomatch q⟩
    · exact h1.obj
    · exact h2.obj
  keep := fun i h h' st k => by
    obtain ⟨hz, hTI, ⟨x, y, hTO⟩, h1, h2⟩ := st
    exact ⟨k z (by simp) _ hz, k TI (by simp) _ hTI, ⟨x, y, k TO (by simp) _ hTO⟩, h1.keep fun o q => k i1 (by simp) o q, h2.keep fun o q => k i2 (by simp) o q⟩
  item := by
    intro X hP hw hK hc i pins s σ H E I hf st hg
    subst hP hw hK
    obtain ⟨hz, hTI, ⟨x0, y0, hTO⟩, h1, h2⟩ := st
    obtain ⟨xs, ys, x, y, hqx, hqy, hx, hy⟩ := hg
    obtain ⟨its, rv, p, _⟩ := hasX I hqx
    obtain ⟨jts, rv2, p2, _⟩ := hasX I hqy
    have lx : i < xs.length := (List.getElem?_eq_some_iff.mp hx).1
    have ly : i < ys.length := (List.getElem?_eq_some_iff.mp hy).1
    have hh : X.A.in1.handled = none := I.ok.hd hc
    have hzl : z < s.heap.objs.size := Heap.lt_size hz
    refine wpAny_pyNext_zipD2_item (sep D D.l2i1 D.l1i2) (drawsX hh c i1 a D.l1i1 its.toArray) (drawsX hh e i2 b D.l2i2 jts.toArray) hz hTI hTO ⟨h1, p⟩ ⟨h2, p2⟩ (by rw [List.size_toArray, ← rv.length]; exact lx) (by rw [List.size_toArray, ← rv2.length]; exact ly)
      fun u u2 h' tk hu hu2 z' TO' n1 n2 hT hsz hk => ?_
    obtain ⟨v1, e1, r1⟩ := rv.get hx
    obtain ⟨v2, e2, r2⟩ := rv2.get hy
    have eu : v1 = u := Option.some.inj (e1.symm.trans (by simpa using hu))
    have eu2 : v2 = u2 := Option.some.inj (e2.symm.trans (by simpa using hu2))
    subst eu eu2
    refine ⟨_, rfl, wpAny_letOwnedTupleGo_zip (s := { s with heap := h', toks := tk }) z' fun h'' z'' sb => ?_⟩
    have hT2 : h''.get? s.heap.objs.size = some { cls := .type "tuple", data := .seq #[v1, v2] } := (sb.2 _ (Nat.ne_of_gt hzl)).trans hT
    have new : ObjOk X.prog X.w (upd H s.heap.objs.size (.tup [x, y])) h'' s.heap.objs.size (.tup [x, y]) := ⟨by show 2 ≤ sizeLine; decide, [v1, v2], .cons r1 (.cons r2 .nil), ⟨_, hT2, rfl, _, rfl⟩⟩
    have I1 : Inv X pins σ (upd H s.heap.objs.size (.tup [x, y])) { s with heap := h'', toks := tk } :=
      I.turnedNew (t' := tk) (ch := [z, TI, TO, i1, i2]) (fun k o hb q => (sb.2 k (fun n => hb (by simp [n]))).trans (hk k o (fun n => hb (by simp [n])) (fun n => hb (by simp [n])) (fun n => hb (by simp [n])) (fun n => hb (by simp [n])) q)) hf (Nat.le_refl _) new
    refine ⟨.ref s.heap.objs.size, _, I1, rfl, ⟨_, x, y, rfl, I.hok.fresh (Nat.le_refl _), rfl, fun l hl => by rw [injX I hl hqx]; exact hx, fun l hl => by rw [injX I hl hqy]; exact hy⟩, ⟨z'', ?_, ⟨v1, v2, ?_⟩, ?_, ?_⟩, fun k hkm => ?_⟩
    · exact (sb.2 _ D.TIz).trans (hk _ _ D.TIz D.TITO D.TIi1 D.TIi2 hTI)
    · exact (sb.2 _ D.TOz).trans TO'
    · exact n1.1.keep fun o q => (sb.2 _ D.i1z).trans q
    · exact n2.1.keep fun o q => (sb.2 _ D.i2z).trans q
    · have lt : k < s.heap.objs.size := by
        have cs : k = z ∨ k = TI ∨ k = TO ∨ k = i1 ∨ k = i2 := by simpa using hkm
        rcases cs with rfl | rfl | rfl | rfl | rfl
        · exact hzl
        · exact Heap.lt_size hTI
        · exact Heap.lt_size hTO
        · obtain ⟨_, q, _⟩ := h1.obj
          exact Heap.lt_size q
        · obtain ⟨_, q, _⟩ := h2.obj
          exact Heap.lt_size q
      rw [upd_ne (Nat.ne_of_lt lt)]
      exact (hf k hkm).1
  done := by
    intro X hP hw hK hc i pins s σ H E I hf st hg
    subst hP hw hK
    obtain ⟨hz, hTI, ⟨x0, y0, hTO⟩, h1, h2⟩ := st
    obtain ⟨xs, ys, hqx, hqy, l1, l2, hend⟩ := hg
    obtain ⟨its, rv, p, _⟩ := hasX I hqx
    obtain ⟨jts, rv2, p2, _⟩ := hasX I hqy
    have hh : X.A.in1.handled = none := I.ok.hd hc
    have m1 : its.toArray.size = xs.length := by rw [List.size_toArray, rv.length]
    have m2 : jts.toArray.size = ys.length := by rw [List.size_toArray, rv2.length]
    exact wpAny_pyNext_zipD2_end (sep D D.l2i1 D.l1i2) (drawsX hh c i1 a D.l1i1 its.toArray) (drawsX hh e i2 b D.l2i2 jts.toArray) hz hTI hTO ⟨h1, p⟩ ⟨h2, p2⟩ (by omega) (by omega) (by omega)
      fun h' tk hk => ⟨rfl, I.turnedL (t' := tk) (ch := [z, TI, TO, i1, i2]) (fun k o hb q => hk k o (fun n => hb (by simp [n])) (fun n => hb (by simp [n])) (fun n => hb (by simp [n])) (fun n => hb (by simp [n])) q) hf⟩
  self := fun A i s Q E st h => wpAny_pyIter_zip st.1 h
def iZipX (K : PySem.W.Frag) (ta : TA) : TI := fun σ H R => ta σ H fun vs H1 => ∃ c e a b xs ys, vs = [.ref a, .ref b] ∧ SqX K c H1 a xs ∧ SqX K e H1 b ys ∧ R (ItX K c e a b) H1
theorem pi_zipX {X : Cx} {e e2 : Expr} {ta : TA} {p pos tpos : Pos} {elts : List Expr} {kk : Nat} (hg : Gl X "zip") (hm : X.mg "zip" = none) (ha : PA X [e, e2] ta)
    (hs : starEach [e, e2] X.env = (false, eval e X.env) :: starEach [e2] X.env := by rfl) (hpl : (backTo pos (starEach [e2] X.env)).any (·.1) = false := by rfl) :
    PI X (.Tuple elts kk tpos) (.Call (.Name "zip" p) [e, e2] [] pos) (iZipX X.K ta) := by
  refine ⟨fun pins s σ H R I h => ?_⟩
  refine Call_ (ld_blt I hg hm PyProof.Rows.boot_zip (PyProof.Rows.callWith_type1 (thn (ha.run pos pins s σ H _ I h) fun us s1 ⟨vs, H1, I1, r1, q1⟩ => ?_) hs hpl))
  obtain ⟨c, d, a, b, xs, ys, rfl, hqx, hqy, q⟩ := q1
  obtain ⟨u1, u2, rfl, r1, r2⟩ := vals2 r1
  cases (show u1 = Value.ref a from r1)
  cases (show u2 = Value.ref b from r2)
  obtain ⟨its, rv, p1, la⟩ := hasX I1 hqx
  obtain ⟨jts, rv2, p2, lb⟩ := hasX I1 hqy
  refine callX p1 p2 fun h' hz hTI hTO h1 h2 hk => wpAny_pyIter_zip hz ?_
  have I2 : Inv X pins σ H1 { s1 with heap := h' } := I1.kept (t' := s1.toks) hk
  refine ⟨s1.heap.objs.size + 4, [s1.heap.objs.size + 4, s1.heap.objs.size + 2, s1.heap.objs.size + 3, s1.heap.objs.size, s1.heap.objs.size + 1], _, _, H1, rfl, I2, turnX (PySem.W.ktu_apart s1.heap.objs.size a b la lb), ⟨hz, hTI, ⟨_, _, hTO⟩, h1, h2⟩, fun k hkm => ?_, q⟩
  have cs : k = s1.heap.objs.size + 4 ∨ k = s1.heap.objs.size + 2 ∨ k = s1.heap.objs.size + 3 ∨ k = s1.heap.objs.size ∨ k = s1.heap.objs.size + 1 := by simpa using hkm
  have hle : s1.heap.objs.size ≤ k := by
    rcases cs with z | z | z | z | z
    · rw [z]; exact Nat.le_add_right _ _
    · rw [z]; exact Nat.le_add_right _ _
    · rw [z]; exact Nat.le_add_right _ _
    · rw [z]; exact Nat.le_refl _
    · rw [z]; exact Nat.le_add_right _ _
  exact I1.fpOk hle (I1.hok.fresh hle)
theorem walkX {K : PySem.W.Frag} {c e : Bool} {a b : Addr} {xs ys : List V} {n : Nat} (hn : n = min xs.length ys.length) : Walk (ItX K c e a b) n (fun H => SqX K c H a xs ∧ SqX K e H b ys) (YPair (fun i => xs[i]?) (fun i => ys[i]?)) := by
  subst hn
  refine ⟨fun i _ hi q => ?_, fun _ q => ⟨xs, ys, q.1, q.2, by omega, by omega, by omega⟩, fun i H v H' _ q y => ?_⟩
  · have h1 : i < xs.length := by omega
    have h2 : i < ys.length := by omega
    exact ⟨xs, ys, xs[i], ys[i], q.1, q.2, List.getElem?_eq_getElem h1, List.getElem?_eq_getElem h2⟩
  · obtain ⟨T, x, z, h1, h2, h3, h4, h5⟩ := y
    exact ⟨T, x, z, h1, h2, h3, h4 xs q.1, h5 ys q.2⟩
end ZX

namespace ZX
open PySem PySem.Spec PyProof.Rows L2
/-! enumerate of a list or a tuple -/
abbrev enO (n : Addr) : Obj := { cls := .type "enumerate", data := .fields #[.none, .bool false, .ref n, rawInt 0, .none, .none] }
set_option maxHeartbeats 1000000 in
theorem meetsE (c : Bool) (l : Addr) (xs : Array Value) :
    Meets (Builtin.«enumerate.__new__» ⟨[.type "enumerate", .ref l], []⟩) (fun _ R s => HasX s.heap c l xs ∧ R (.ok (.ret (.ref (hA s.heap c l).objs.size))) { s with heap := (hA s.heap c l).push (enO s.heap.objs.size) }) :=
  .of_wp fun prog w A R s hy => by
    obtain ⟨hp, g, d, tk, os⟩ := s
    obtain ⟨h1, hy⟩ := hy
    have sub := sub_enumerate
    have L1 : HasX (Shared.heap ⟨hp, g, d, tk, os⟩) c l xs := h1
    wp_walk using iterX L1
    refine wpAny_stack_any fun st => wpAny_pure ?_
    split
    · rename_i q _ _ _ _ _
      cases (q == Value.type "enumerate")
      · wp_walk using iterX L1
        exact ⟨_, rfl, hy⟩
      · wp_walk using iterX L1
        exact ⟨_, rfl, hy⟩
    · wp_walk using iterX L1
      exact ⟨_, rfl, hy⟩
section
variable {prog : Program} {w : World} {A : Around} {E : Value → Shared → Prop} {s : Shared}
theorem callE {c : Bool} {l : Addr} {xs : Array Value} {Q : Value → Shared → Prop} (h1 : HasX s.heap c l xs)
    (h : ∀ g, IsEnum g (s.heap.objs.size + 1) s.heap.objs.size 0 .none → IterX g c s.heap.objs.size l 0 → (∀ b o, s.heap.get? b = some o → g.get? b = some o) → Q (.ref (s.heap.objs.size + 1)) { s with heap := g }) :
    wpAny (model prog w) A (call (.type "enumerate") [.ref l]) Q E s := by
  refine callType_new F.called_enumerate (by decide) (F.typeCall_enumerate_1 _) (F.newCall_enumerate_1 _) (fun o => F.args_object_init_2 o _) F.entry_enumerate_new (meetsE c l xs) ⟨h1, ?_⟩
  have n1 : (hA s.heap c l).objs.size = s.heap.objs.size + 1 := Heap.size_push ..
  have q2 : ((hA s.heap c l).push (enO s.heap.objs.size)).get? (hA s.heap c l).objs.size = some _ := Heap.get?_push_size _ rfl
  have q1 : ((hA s.heap c l).push (enO s.heap.objs.size)).get? s.heap.objs.size = some _ := Heap.get?_push_of_some _ (Heap.get?_push_size _ rfl)
  show _ ∧ _
  rw [n1] at q2 ⊢
  exact ⟨⟨_, q2, rfl⟩, h _ q2 (iter0 q1) fun b o x => Heap.get?_push_of_some _ (Heap.get?_push_of_some _ x)⟩
end
def ItE (K : PySem.W.Frag) (c : Bool) (a : Addr) : It :=
  ⟨fun i H => ∃ (xs : List V) (x : V), SqX K c H a xs ∧ xs[i]? = some x, fun i H v H' => ∃ T x, v = .ref T ∧ H T = none ∧ H' = upd H T (.tup [.int (i : Nat), x]) ∧ ∀ xs, SqX K c H a xs → xs[i]? = some x,
    fun i H => ∃ xs : List V, SqX K c H a xs ∧ xs.length = i⟩
theorem turnE {P : Program} {w : World} {K : PySem.W.Frag} {elts : List Expr} {kk : Nat} {tpos : Pos} {c : Bool} {a e it : Addr} (hai : a ≠ it) (hae : a ≠ e) :
    Turn P w K (.Tuple elts kk tpos) (ItE K c a) [e, it] e (fun i h => (∃ old, IsEnum h e it ((i : Nat) : Int) old) ∧ IterX h c it a i ∧ e ≠ it) where
  mem := by simp
  obj := fun i h st k hk => by
    obtain ⟨⟨old, he⟩, h1, _⟩ := st
    have cs : k = e ∨ k = it := by simpa using hk
    rcases cs with rfl | rfl
    · exact ⟨_, he, fun v q => nomatch q⟩
    · exact h1.obj
  keep := fun i h h' st k => by
    obtain ⟨⟨old, he⟩, h1, hne⟩ := st
    exact ⟨⟨old, k e (by simp) _ he⟩, h1.keep fun o q => k it (by simp) o q, hne⟩
  item := by
    intro X hP hw hK hc i pins s σ H E I hf st hg
    subst hP hw hK
    obtain ⟨⟨old, he⟩, h1, hne⟩ := st
    obtain ⟨xs, x, hqx, hx⟩ := hg
    obtain ⟨its, rv, p, _⟩ := hasX I hqx
    have lx : i < xs.length := (List.getElem?_eq_some_iff.mp hx).1
    have hh : X.A.in1.handled = none := I.ok.hd hc
    have hel : e < s.heap.objs.size := Heap.lt_size he
    have hil : it < s.heap.objs.size := by
      obtain ⟨_, q, _⟩ := h1.obj
      exact Heap.lt_size q
    refine wpAny_pyNext_enum_itemC (drawsX hh c it a hai its.toArray) he ⟨h1, p⟩ (by rw [List.size_toArray, ← rv.length]; exact lx) hne (by simp [hne, Ne.symm hae]) fun u h' tk hu ho st' hT hsz hk => ?_
    obtain ⟨v1, e1, r1⟩ := rv.get hx
    have eu : v1 = u := Option.some.inj (e1.symm.trans (by simpa using hu))
    subst eu
    refine ⟨_, rfl, wpAny_letOwnedTupleGo_enum (s := { s with heap := h', toks := tk + 1 }) ho fun h'' he' sb => ?_⟩
    have hT2 : h''.get? s.heap.objs.size = some { cls := .type "tuple", data := .seq #[.int i tk, v1] } := (sb.2 _ (Nat.ne_of_gt hel)).trans hT
    have nw : ObjOk X.prog X.w (upd H s.heap.objs.size (.tup [.int (i : Nat), x])) h'' s.heap.objs.size (.tup [.int (i : Nat), x]) :=
      ⟨by show 2 ≤ sizeLine; decide, [.int i tk, v1], .cons ⟨_, rfl⟩ (.cons r1 .nil), ⟨_, hT2, rfl, _, rfl⟩⟩
    have I1 : Inv X pins σ (upd H s.heap.objs.size (.tup [.int (i : Nat), x])) { s with heap := h'', toks := tk + 1 } :=
      I.turnedNew (t' := tk + 1) (ch := [e, it]) (fun b ob hb q => (sb.2 b (fun z => hb (by simp [z]))).trans (hk b ob (fun z => hb (by simp [z])) (fun z => hb (by simp [z])) q)) hf (Nat.le_refl _) nw
    refine ⟨.ref s.heap.objs.size, _, I1, rfl, ⟨_, x, rfl, I.hok.fresh (Nat.le_refl _), rfl, fun l hl => by rw [injX I hl hqx]; exact hx⟩, ⟨⟨v1, ?_⟩, st'.1.keep fun o q => (sb.2 it (Ne.symm hne)).trans q, hne⟩, fun b hb => ?_⟩
    · have e2 : ((i + 1 : Nat) : Int) = (i : Int) + 1 := by omega
      rw [e2]
      exact he'
    · have hb' : b < s.heap.objs.size := by
        have cs : b = e ∨ b = it := by simpa using hb
        rcases cs with rfl | rfl
        · exact hel
        · exact hil
      rw [upd_ne (Nat.ne_of_lt hb')]
      exact (hf b hb).1
  done := by
    intro X hP hw hK hc i pins s σ H E I hf st hg
    subst hP hw hK
    obtain ⟨⟨old, he⟩, h1, hne⟩ := st
    obtain ⟨xs, hqx, rfl⟩ := hg
    obtain ⟨its, rv, p, _⟩ := hasX I hqx
    obtain ⟨f0, f1, f2, f3, f4, f5⟩ := hf it (by simp)
    have hh : X.A.in1.handled = none := I.ok.hd hc
    have m1 : its.toArray.size = xs.length := by rw [List.size_toArray, rv.length]
    refine wpAny_pyNext_enum_endD (drawsX hh c it a hai its.toArray) he (by rw [m1]; exact ⟨h1, p⟩) fun h' eb => ⟨rfl, I.turned (t' := s.toks) (fun b o hb q => eb b o hb q) f0 f1 f3 f4 f5⟩
  self := fun A i s Q E st h => by
    obtain ⟨⟨old, he⟩, _⟩ := st
    exact wpAny_pyIter_enum he h
def iEnumX (K : PySem.W.Frag) (ta : TA) : TI := fun σ H R => ta σ H fun vs H1 => ∃ c a xs, vs = [.ref a] ∧ SqX K c H1 a xs ∧ R (ItE K c a) H1
theorem pi_enumX {X : Cx} {e : Expr} {ta : TA} {p pos tpos : Pos} {elts : List Expr} {kk : Nat} (hg : Gl X "enumerate") (hm : X.mg "enumerate" = none) (ha : PA X [e] ta) (hs : starEach [e] X.env = [(false, eval e X.env)] := by rfl) :
    PI X (.Tuple elts kk tpos) (.Call (.Name "enumerate" p) [e] [] pos) (iEnumX X.K ta) := by
  refine ⟨fun pins s σ H R I h => ?_⟩
  refine Call_ (ld_blt I hg hm boot_enumerate (PyProof.Rows.callWith_type1 (thn (ha.run pos pins s σ H _ I h) fun us s1 ⟨vs, H1, I1, r1, q1⟩ => ?_) hs rfl))
  obtain ⟨c, a, xs, rfl, hqx, q⟩ := q1
  cases r1 with
  | cons r rr =>
    cases rr
    cases r
    obtain ⟨its, rv, p1, la⟩ := hasX I1 hqx
    refine callE p1 fun h' he h1 hk => wpAny_pyIter_enum he ?_
    have I2 : Inv X pins σ H1 { s1 with heap := h' } := I1.kept (t' := s1.toks) hk
    refine ⟨s1.heap.objs.size + 1, [s1.heap.objs.size + 1, s1.heap.objs.size], _, _, H1, rfl, I2, turnE (c := c) (Nat.ne_of_lt la) (Nat.ne_of_lt (Nat.lt_succ_of_lt la)), ⟨⟨.none, he⟩, h1, Nat.succ_ne_self _⟩, fun b hb => ?_, q⟩
    have cs : b = s1.heap.objs.size + 1 ∨ b = s1.heap.objs.size := by simpa using hb
    have hle : s1.heap.objs.size ≤ b := by
      rcases cs with z | z
      · rw [z]; exact Nat.le_add_right _ _
      · rw [z]; exact Nat.le_refl _
    exact I1.fpOk hle (I1.hok.fresh hle)
theorem walkE {K : PySem.W.Frag} {c : Bool} {a : Addr} {xs : List V} : Walk (ItE K c a) xs.length (fun H => SqX K c H a xs) (fun i H v H' => ∃ T x, v = .ref T ∧ H T = none ∧ H' = upd H T (.tup [.int (i : Nat), x]) ∧ xs[i]? = some x) :=
  ⟨fun i _ hi q => ⟨xs, xs[i], q, List.getElem?_eq_getElem hi⟩, fun _ q => ⟨xs, q, rfl⟩, fun i H v H' _ q y => by
    obtain ⟨T, x, e1, e2, e3, e4⟩ := y
    exact ⟨T, x, e1, e2, e3, e4 xs q⟩⟩
end ZX


namespace ZX
open PySem PySem.Spec PyProof.Rows L2
theorem mulOne (l : Addr) (its : Array Value) (n : Nat) (dd : Option Addr) (sl : Array (Option Value)) (u : Tok) :
    Meets (Builtin.«tuple.__mul__» ⟨[.ref l, .int 1 u], []⟩) (fun _ R s => s.heap.get? l = some { cls := .type "tuple", dict := dd, data := .seq its n, slots := sl } ∧ R (.ok (.ret (Value.ref l))) s) :=
  .of_wp fun prog w A R s hy => by
    obtain ⟨hp, g, d, tk, os⟩ := s
    obtain ⟨hl, hy⟩ := hy
    have f1 := AutoSeq1.idx_int
    have c1 : (its.isEmpty || (1 : Int) == 1) = true := by simp
    wp_walk using wpAny_loadPart' hl
    all_goals first
      | exact ⟨_, rfl, hy⟩
      | (refine wpAny_ite_true (decide_eq_true c1) ?_; wp_walk using wpAny_loadPart' hl; exact ⟨_, rfl, hy⟩)
def rRepX (K : PySem.W.Frag) : R2 := fun x y H Q => ∃ l k xs, x = .ref l ∧ y = .int k ∧ SqT K H l xs ∧ xs ≠ [] ∧ 1 ≤ k ∧ k ≤ 1000 ∧ xs.length ≤ 1000 ∧ (k = 1 → Q (.ref l) H) ∧ (2 ≤ k → ∀ p, H p = none → Q (.ref p) (upd H p (.tup (List.replicate k.toNat xs).flatten)))
theorem op_repX {X : Cx} : OpR X (binaryOp .Mult) (rRepX X.K) := by
  intro pins s σ H x y v u Q I rx ry h
  obtain ⟨l, k, xs, rfl, rfl, hT, hne, h1, h2, hz, q1, q2⟩ := h
  by_cases hk : k = 1
  · subst hk
    cases rx
    obtain ⟨t, rfl⟩ := ry
    obtain ⟨its, r, ⟨⟨cls, dd, data, sl⟩, ho, hc, n, hd⟩, hs⟩ := I.tuple hT
    simp only at hc hd
    subst hc hd
    refine wpAny_binaryOp_repeat_ref (T := "tuple") (U := "int") (by decide) ⟨_, ho, rfl⟩ (fun s' => typeIs_int s' 1 t) noFill_tuple_mul F.fills_int_mul F.slot_int_rmul repeat_tuple F.slot_int_index.lookup
      (call_meets F.slot_int_rmul (typeIs_int s 1 t) F.entry_int_rmul (F.args_int_rmul_2 _ _) (int_rmul_tuple 1 t l its.toArray n dd sl)
        ⟨ho, rfl, ⟨_, ho, rfl⟩, call_meets F.slot_tuple_mul ⟨_, ho, rfl⟩ F.entry_tuple_mul (F.args_tuple_mul_2 _ _) (mulOne l its.toArray n dd sl t) ⟨ho, ?_⟩⟩)
    exact ⟨.ref l, H, I, rfl, q1 rfl⟩
  · exact op_repT pins s σ H _ _ v u Q I rx ry ⟨l, k, xs, rfl, rfl, hT, hne, by omega, h2, hz, q2 (by omega)⟩
end ZX

namespace ZX
open PySem PySem.Spec PyProof.Rows L2
theorem mulZero (l : Addr) (its : Array Value) (n : Nat) (dd : Option Addr) (sl : Array (Option Value)) (u : Tok) (hi : its.isEmpty = false) :
    Meets (Builtin.«tuple.__mul__» ⟨[.ref l, .int 0 u], []⟩) (fun _ R s => s.heap.get? l = some { cls := .type "tuple", dict := dd, data := .seq its n, slots := sl } ∧ R (.ok (.ret (Value.ref s.heap.objs.size))) { s with heap := s.heap.push { cls := Value.type "tuple", data := Data.seq #[] }, toks := s.toks }) :=
  .of_wp fun prog w A R s hy => by
    obtain ⟨hp, g, d, tk, os⟩ := s
    obtain ⟨hl, hy⟩ := hy
    have f1 := AutoSeq1.idx_int
    have c1 : (its.isEmpty || (0 : Int) == 1) = false := by rw [hi]; rfl
    have c2 : (decide ((0 : Int) ≤ 0) || its.isEmpty) = true := by rw [hi]; rfl
    wp_walk using wpAny_loadPart' hl
    repeat (first
      | (refine wpAny_ite_false (decide_eq_false (by rw [c1]; exact Bool.false_ne_true)) ?_; wp_walk using wpAny_loadPart' hl)
      | (refine wpAny_ite_true (decide_eq_true c2) ?_; wp_walk using wpAny_loadPart' hl))
    exact ⟨_, rfl, hy⟩
def rRepZ (K : PySem.W.Frag) : R2 := fun x y H Q => ∃ l k xs, x = .ref l ∧ y = .int k ∧ SqT K H l xs ∧ xs ≠ [] ∧ 0 ≤ k ∧ k ≤ 1000 ∧ xs.length ≤ 1000 ∧ (k = 1 → Q (.ref l) H) ∧ (k ≠ 1 → ∀ p, H p = none → Q (.ref p) (upd H p (.tup (List.replicate k.toNat xs).flatten)))
theorem op_repZ {X : Cx} : OpR X (binaryOp .Mult) (rRepZ X.K) := by
  intro pins s σ H x y v u Q I rx ry h
  obtain ⟨l, k, xs, rfl, rfl, hT, hne, h1, h2, hz, q1, q2⟩ := h
  by_cases hk : k = 0
  · subst hk
    cases rx
    obtain ⟨t, rfl⟩ := ry
    obtain ⟨its, r, ⟨⟨cls, dd, data, sl⟩, ho, hc, n, hd⟩, hs⟩ := I.tuple hT
    simp only at hc hd
    subst hc hd
    have hle : its.length = xs.length := r.length.symm
    have hi : its.toArray.isEmpty = false := by
      cases its with
      | nil => exact absurd (List.eq_nil_of_length_eq_zero hle.symm) hne
      | cons a b => rfl
    refine wpAny_binaryOp_repeat_ref (T := "tuple") (U := "int") (by decide) ⟨_, ho, rfl⟩ (fun s' => typeIs_int s' 0 t) noFill_tuple_mul F.fills_int_mul F.slot_int_rmul repeat_tuple F.slot_int_index.lookup
      (call_meets F.slot_int_rmul (typeIs_int s 0 t) F.entry_int_rmul (F.args_int_rmul_2 _ _) (int_rmul_tuple 0 t l its.toArray n dd sl)
        ⟨ho, rfl, ⟨_, ho, rfl⟩, call_meets F.slot_tuple_mul ⟨_, ho, rfl⟩ F.entry_tuple_mul (F.args_tuple_mul_2 _ _) (mulZero l its.toArray n dd sl t hi) ⟨ho, ?_⟩⟩)
    refine ⟨.ref s.heap.objs.size, _, I.laid (t' := s.toks) (o := .tup (List.replicate (0 : Int).toNat xs).flatten) (fun b ob q => Heap.get?_push_of_some _ q) (Nat.le_refl _) ?_, rfl, q2 (by decide) _ (I.hok.fresh (Nat.le_refl _))⟩
    exact ⟨by rw [PyProof.Rows.lm_len_rep_flat, sizeLine_eq]; simp, _, r.rep (0 : Int).toNat, IsTup.new _ _⟩
  · exact op_repX pins s σ H _ _ v u Q I rx ry ⟨l, k, xs, rfl, rfl, hT, hne, by omega, h2, hz, q1, fun h => q2 (by omega)⟩
theorem ki_repZ {X : Cx} {K : PySem.W.Frag} (h : X.K = K) : OpR X (binaryOp .Mult) (rRepZ K) := by
  subst h
  exact op_repZ
end ZX

namespace ZX
open PySem PySem.Spec PyProof.Rows L2
/-! text[::-1]: some text, no longer -/
def tRevS (te : TE) : TE := fun σ H Q => te σ H fun x H1 => ∃ z : Str, x = .str z ∧ z.length ≤ sizeLine ∧ ∀ y : Str, y.length ≤ z.length → Q (.str y) H1
theorem fm_len {α β : Type} (f : α → Option β) : ∀ l : List α, (l.filterMap f).length ≤ l.length
  | [] => Nat.le_refl _
  | a :: l => by
    rw [List.filterMap_cons]
    cases f a with
    | none => exact Nat.le_succ_of_le (fm_len f l)
    | some b => exact Nat.succ_le_succ (fm_len f l)
theorem pe_revS {X : Cx} {e : Expr} {te : TE} {k : Nat} {p1 p2 p3 pos : Pos} (he : PE X e te) : PE X (.Subscript e (.Slice none none (some (.UnaryOp .USub (.Constant (.int 1) k p1) p2)) p3) pos) (tRevS te) := by
  refine ⟨fun pins s σ H Q I h => ?_⟩
  refine Subscript_ (thn (he.run pins s σ H _ I h) fun v s1 ⟨x, H1, I1, r1, q1⟩ => ?_)
  obtain ⟨z, rfl, hz, q⟩ := q1
  obtain ⟨t, rfl⟩ := r1
  have hst : PO X (some (.UnaryOp .USub (.Constant (.int 1) k p1) p2)) (tPart (tUn (rU fun i => .int (-i)) (tC (.int 1)))) := po_some (pe_un un_neg pe_int)
  refine wpAny_Slice (thn (po_none.run pins s1 σ H1 (fun o H2 => o = none ∧ H2 = H1) I1 ⟨rfl, rfl⟩) fun vl s2 ⟨l, H2, I2, pl, el, e2⟩ => ?_)
  subst el e2
  refine thn (po_none.run pins s2 σ H2 (fun o H3 => o = none ∧ H3 = H2) I2 ⟨rfl, rfl⟩) fun vu s3 ⟨u, H3, I3, pu, eu, e3⟩ => ?_
  subst eu e3
  refine thn (hst.run pins s3 σ H3 (fun o H4 => o = some (-1) ∧ H4 = H3) I3 ⟨1, rfl, -1, rfl, rfl, rfl⟩) fun vs s4 ⟨o, H4, I4, ps, eo, e4⟩ => ?_
  subst eo e4
  have I5 : Inv X pins σ H4 { s4 with heap := s4.heap.push { cls := .type "slice", data := .fields #[vl, vu, vs] } } := I4.kept (t' := s4.toks) fun b ob q => Heap.get?_push_of_some _ q
  obtain ⟨l', rfl, hl'⟩ := IsPart.raw pl
  obtain ⟨u', rfl, hu'⟩ := IsPart.raw pu
  obtain ⟨w', rfl, hw'⟩ := IsPart.raw ps
  show wpAny (model X.prog X.w) X.A (subscriptTail e (.Slice none none (some (.UnaryOp .USub (.Constant (.int 1) k p1) p2)) p3) (.str z t) (.ref s4.heap.objs.size)) (EP X pins σ Q) X.xe { s4 with heap := s4.heap.push { cls := .type "slice", data := .fields #[partValue l', partValue u', partValue w'] } }
  refine tail_any (ops := [.str z t, .ref s4.heap.objs.size]) (typeIs_str _ _ _) F.slot_str_getitem.lookup ?_ (by with_unfolding_all rfl)
  have h1 : (w'.map (·.1)).getD 1 = -1 := by rw [hw']; rfl
  refine wpAny_getItem_str_slice (l := l') (u := u') (st := w') ⟨_, Heap.get?_push_size _ rfl, rfl, rfl⟩ (by rw [h1]; rfl) ?_
  unfold sliceMade
  rw [if_neg (by rw [h1]; simp)]
  have hlen : (((slicePicked z l' u' w').filterMap (z.cps[·]?)).toArray).size ≤ z.length := by
    rw [List.size_toArray]
    refine Nat.le_trans (fm_len _ _) ?_
    unfold slicePicked
    rw [h1, hl', hu']
    exact sliceRange_length_le _ _ _ _ (fun h => absurd h (by decide)) fun _ => ⟨by simp, by simp⟩
  exact ⟨Nat.le_trans hlen hz, .str _, H4, I5.tok _, ⟨_, rfl⟩, q _ hlen⟩
end ZX

namespace DL
open PySem PySem.Spec PyProof.Rows L2 ZX
section
variable {K : PySem.W.Frag} {S : MS} {te ta tb : TE} {δ : List SD} {k k' : Nat} {Φ Ψ : SD → Prop} {d : PyData}
/-! ### isinstance -/
theorem e_isi {n : String} {r : Bool} (h : Dt K S te δ (.dat d)) (hk : kitB (tyD d) n = some r) : Dt K S (tCB (rIsi K) (tCons te (tCons (tC (.ty n)) tNil))) δ (.b r) := fun q σ G H hq w Q hQ => h q σ G H hq w _ fun v s G2 H2 m w2 hv hs => by
  subst hs
  exact ⟨v, .ty n, _, _, r, rfl, .ty n, tyX (show DD K G2 v d from hv) w2.sub, kit_ty hk, hQ _ (.b r) G2 H2 m w2 (DD.bl r) rfl⟩
theorem e_isiT {n1 n2 : String} {r1 r2 : Bool} (h : Dt K S te δ (.dat d)) (h1 : kitB (tyD d) n1 = some r1) (h2 : kitB (tyD d) n2 = some r2) :
    Dt K S (tCB (rIsiT K) (tCons te (tCons (tTup (tCons (tC (.ty n1)) (tCons (tC (.ty n2)) tNil))) tNil))) δ (.b (r1 || r2)) := fun q σ G H hq w Q hQ => h q σ G H hq w _ fun v s G2 H2 m w2 hv hs => by
  subst hs
  refine ⟨by show 2 ≤ sizeLine; decide, fun p np => ?_⟩
  have nG : G2 p = none := by
    cases e : G2 p with
    | none => rfl
    | some o =>
      rw [w2.sub p o e] at np
      cases np
  have nM : ¬ S.M p := fun z => by
    obtain ⟨o, e⟩ := S.dom w2.inv z
    rw [e] at np
    cases np
  have w3 := Wd.loc (o := .tup [V.ty n1, V.ty n2]) w2 nG nM
  refine ⟨v, p, [.ty n1, .ty n2], _, [.type n1, .type n2], r1 || r2, rfl, upd_same, .cons (.ty n1) (.cons (.ty n2) .nil), tyX (show DD K G2 v d from hv) w3.sub, ?_, hQ _ (.b _) G2 _ (m.trans (w2.refl.loc np nG)) w3 (DD.bl _) rfl⟩
  refine kitAny_cons (kit_ty h1) (fun e => ?_) fun e => by rw [e]; rfl
  subst e
  refine kitAny_cons (r := false || r2) (kit_ty h2) (fun e => ?_) fun e => by rw [e]; rfl
  subst e
  rfl
def isI : PyData → Bool
  | .int _ => true
  | .bool _ => true
  | _ => false
def isB : PyData → Bool
  | .bool _ => true
  | _ => false
def isT : PyData → Bool
  | .tuple _ => true
  | _ => false
def isL : PyData → Bool
  | .list _ => true
  | _ => false
def isS : PyData → Bool
  | .str _ => true
  | _ => false
theorem kb_int : ∀ d : PyData, kitB (tyD d) "int" = some (isI d)
  | .none  => show kitB "NoneType" "int" = some false by decide +kernel
  | .bool _ => show kitB "bool" "int" = some true by decide +kernel
  | .int _ => show kitB "int" "int" = some true by decide +kernel
  | .str _ => show kitB "str" "int" = some false by decide +kernel
  | .list _ => show kitB "list" "int" = some false by decide +kernel
  | .tuple _ => show kitB "tuple" "int" = some false by decide +kernel
  | .dict _ => show kitB "dict" "int" = some false by decide +kernel
theorem kb_bool : ∀ d : PyData, kitB (tyD d) "bool" = some (isB d)
  | .none  => show kitB "NoneType" "bool" = some false by decide +kernel
  | .bool _ => show kitB "bool" "bool" = some true by decide +kernel
  | .int _ => show kitB "int" "bool" = some false by decide +kernel
  | .str _ => show kitB "str" "bool" = some false by decide +kernel
  | .list _ => show kitB "list" "bool" = some false by decide +kernel
  | .tuple _ => show kitB "tuple" "bool" = some false by decide +kernel
  | .dict _ => show kitB "dict" "bool" = some false by decide +kernel
theorem kb_tup : ∀ d : PyData, kitB (tyD d) "tuple" = some (isT d)
  | .none  => show kitB "NoneType" "tuple" = some false by decide +kernel
  | .bool _ => show kitB "bool" "tuple" = some false by decide +kernel
  | .int _ => show kitB "int" "tuple" = some false by decide +kernel
  | .str _ => show kitB "str" "tuple" = some false by decide +kernel
  | .list _ => show kitB "list" "tuple" = some false by decide +kernel
  | .tuple _ => show kitB "tuple" "tuple" = some true by decide +kernel
  | .dict _ => show kitB "dict" "tuple" = some false by decide +kernel
theorem kb_list : ∀ d : PyData, kitB (tyD d) "list" = some (isL d)
  | .none  => show kitB "NoneType" "list" = some false by decide +kernel
  | .bool _ => show kitB "bool" "list" = some false by decide +kernel
  | .int _ => show kitB "int" "list" = some false by decide +kernel
  | .str _ => show kitB "str" "list" = some false by decide +kernel
  | .list _ => show kitB "list" "list" = some true by decide +kernel
  | .tuple _ => show kitB "tuple" "list" = some false by decide +kernel
  | .dict _ => show kitB "dict" "list" = some false by decide +kernel
theorem kb_str : ∀ d : PyData, kitB (tyD d) "str" = some (isS d)
  | .none  => show kitB "NoneType" "str" = some false by decide +kernel
  | .bool _ => show kitB "bool" "str" = some false by decide +kernel
  | .int _ => show kitB "int" "str" = some false by decide +kernel
  | .str _ => show kitB "str" "str" = some true by decide +kernel
  | .list _ => show kitB "list" "str" = some false by decide +kernel
  | .tuple _ => show kitB "tuple" "str" = some false by decide +kernel
  | .dict _ => show kitB "dict" "str" = some false by decide +kernel
/-! ### is None -/
theorem rv_isN {s : SD} {dd : PyData} : RV K (fun x y H Q => y = .non ∧ Q (.bl (decide (x = .non))) H) (.dat dd) (.dat .none) (fun z => z = .b (match dd with | .none => true | _ => false)) := fun x y G H hx hy hs Q hQ => by
  cases hy
  refine ⟨rfl, hQ _ (.b _) G H (Mv.refl hs) ?_ rfl⟩
  cases hx <;> exact DD.bl _
/-! ### defs without an effect -/
def spP (K : PySem.W.Frag) (P : List PyData → PyData → Prop) : Sp := fun vs H Q _ => ∃ G ds d, (∀ a o, G a = some o → H a = some o) ∧ DDs K G vs ds ∧ P ds d ∧ ∀ v G2 H2, Mv (fun _ => False) G H G2 H2 → DD K G2 v d → Q v H2
theorem dats_map : ∀ ds : List PyData, dats (ds.map SD.dat) ds
  | [] => trivial
  | _ :: l => ⟨rfl, dats_map l⟩
theorem e_call {P : List PyData → PyData → Prop} {t : TA} {Φ : List SD → Prop} {E : XK} (ha : EvA K S t δ k Φ) (h : ∀ ss, Φ ss → ∃ ds d, dats ss ds ∧ P ds d ∧ Ψ (.dat d)) : Ev K S (tCall (spP K P) [] E t) δ k Ψ :=
  fun r σ G H q w Q hQ => ha r σ G H q w _ fun vs ss G2 H2 m w2 hv hs => by
    obtain ⟨ds, d, hd, hp, hy⟩ := h ss hs
    rw [List.append_nil]
    exact ⟨G2, ds, d, w2.sub, dats_dd hv hd, hp, fun v G3 H3 m3 dv => hQ v (.dat d) G3 H3 (m.trans (m3.weak fun _ f => f.elim)) (w2.pure m3) dv hy⟩
theorem d_call {P : List PyData → PyData → Prop} {t : TA} {ds : List PyData} {E : XK} (ha : EvA K S t δ 0 (fun l => l = ds.map SD.dat)) (h : P ds d) : Dt K S (tCall (spP K P) [] E t) δ (.dat d) :=
  e_call ha fun ss e => ⟨ds, d, e ▸ dats_map ds, h, rfl⟩
theorem VDs.len {G : Hp} : ∀ {vs : List V} {ss : List SD}, VDs K G vs ss → vs.length = ss.length
  | _, _, .nil => rfl
  | _, _, .cons _ b => congrArg Nat.succ (VDs.len b)
theorem dats_len : ∀ {ss : List SD} {ds : List PyData}, dats ss ds → ss.length = ds.length
  | [], [], _ => rfl
  | .dat _ :: r, _ :: l, h => congrArg Nat.succ (dats_len h.2)
  | [], _ :: _, h => h.elim
  | .dat _ :: _, [], h => h.elim
  | .unk :: _, [], h => h.elim
  | .unk :: _, _ :: _, h => h.elim
  | .ref _ :: _, [], h => h.elim
  | .ref _ :: _, _ :: _, h => h.elim
/-- with keywords: gV puts positional and keyword values in order, gD the same of data -/
theorem d_callN {P : List PyData → PyData → Prop} {t tk : TA} {ds es : List PyData} {E : XK} {gV : List V → List V → List V} {gD : List PyData} (ha : EvA K S t δ 0 (fun l => l = ds.map SD.dat)) (hk : EvA K S tk δ 0 (fun l => l = es.map SD.dat))
    (hg : ∀ G vs us, DDs K G vs ds → DDs K G us es → DDs K G (gV vs us) gD) (h : P gD d) : Dt K S (tCallN ds.length es.length (spP K P) gV E t tk) δ (.dat d) :=
  fun r σ G H q w Q hQ => ha r σ G H q w _ fun vs ss G2 H2 m w2 hv hs => hk r σ G2 H2 (q.mono m.gr) w2 _ fun us s2 G3 H3 m3 w3 hu hs2 => by
    subst hs hs2
    have d1 := dats_dd (hv.mono m3.gr) (dats_map ds)
    have d2 := dats_dd hu (dats_map es)
    exact ⟨d1.len, d2.len, G3, gD, d, w3.sub, hg G3 _ _ d1 d2, h, fun v G4 H4 m4 dv => hQ v (.dat d) G4 H4 ((m.trans m3).trans (m4.weak fun _ f => f.elim)) (w3.pure m4) dv rfl⟩
/-! ### zip -/
def zipD (ds es : List PyData) : List PyData := List.zipWith (fun a b => .tuple [a, b]) ds es
def IsSeq (d : PyData) (ds : List PyData) : Prop := d = .list ds ∨ d = .tuple ds
theorem sqX_of {G H : Hp} {v : V} {ds : List PyData} (h : DD K G v d) (hs : IsSeq d ds) : ∃ c a xs, v = .ref a ∧ DDs K G xs ds ∧ ∀ H : Hp, (∀ a o, G a = some o → H a = some o) → SqX K c H a xs := by
  rcases hs with rfl | rfl
  · cases h with
    | @lst a xs _ hl t => exact ⟨false, a, xs, rfl, t, fun H hs => .inl (.inl (hs _ _ hl))⟩
  · cases h with
    | @tup a xs _ hl t => exact ⟨true, a, xs, rfl, t, fun H hs => .inl (.inl (hs _ _ hl))⟩
theorem i_zip {t : TA} {d1 d2 : PyData} {ds es : List PyData} (ha : EvA K S t δ 0 (fun l => l = [.dat d1, .dat d2])) (h1 : IsSeq d1 ds) (h2 : IsSeq d2 es) : EvI K S (iZipX K t) δ 0 (zipD ds es) := fun r σ G H q w R hR => ha r σ G H q w _ fun vs ss G2 H2 m w2 hv hs => by
  subst hs
  obtain ⟨v, u, rfl, hx, hy⟩ := vds2 hv
  obtain ⟨c, a, xs, rfl, t1, q1⟩ := sqX_of (H := H2) (show DD K G2 v d1 from hx) h1
  obtain ⟨e, b, ys, rfl, t2, q2⟩ := sqX_of (H := H2) (show DD K G2 u d2 from hy) h2
  refine ⟨c, e, a, b, xs, ys, rfl, q1 H2 w2.sub, q2 H2 w2.sub, hR _ G2 H2 m w2 ⟨fun H => SqX K c H a xs ∧ SqX K e H b ys, _, walkX (by rw [t1.len, t2.len]; simp [zipD]), fun G3 H3 m3 => ⟨q1 H3 fun a o z => m3.sub _ _ (m3.gr _ _ z), q2 H3 fun a o z => m3.sub _ _ (m3.gr _ _ z)⟩, fun i d' n G3 H3 x H4 hd m3 w3 y => ?_⟩⟩
  obtain ⟨T, x1, x2, rfl, nT, rfl, e1, e2⟩ := y
  obtain ⟨f1, g1, k1⟩ := t1.get e1
  obtain ⟨f2, g2, k2⟩ := t2.get e2
  have ed : d' = .tuple [f1, f2] := by
    unfold zipD at hd
    rw [List.getElem?_zipWith, g1, g2] at hd
    exact (Option.some.inj hd).symm
  subst ed
  have mm : Mv S.M G3 H3 (upd G3 T (.tup [x1, x2])) (upd H3 T (.tup [x1, x2])) := Mv.new w3.sub nT
  exact ⟨_, mm, w3.new nT, DD.tup upd_same (.cons (k1.mono fun a o z => mm.gr _ _ (m3.gr _ _ z)) (.cons (k2.mono fun a o z => mm.gr _ _ (m3.gr _ _ z)) .nil))⟩
end
/-! ## from a body to a promise -/
def startD (N : List Str) (ds : List PyData) : List SD := ds.map SD.dat ++ List.replicate (N.length - ds.length) SD.unk
theorem start_slots {K : PySem.W.Frag} {G : Hp} {N : List Str} {ds : List PyData} {vs : List V} (h : DDs K G vs ds) : SlD K G (L2.start N vs) (startD N ds) := by
  have e := h.len
  refine ⟨by simp [L2.start, startD, e], fun i s hs => ?_⟩
  by_cases hi : i < ds.length
  · unfold startD at hs
    rw [List.getElem?_append_left (by simpa using hi), List.getElem?_map] at hs
    obtain ⟨d, hd, rfl⟩ := Option.map_eq_some_iff.mp hs
    obtain ⟨v, hv, dv⟩ := h.got hd
    refine .inr ⟨v, ?_, dv⟩
    unfold L2.start
    rw [List.getElem?_append_left (by rw [List.length_map]; omega), List.getElem?_map, hv]
    rfl
  · unfold startD at hs
    rw [List.getElem?_append_right (by simpa using Nat.not_lt.mp hi)] at hs
    rw [List.getElem?_replicate] at hs
    split at hs
    · exact .inl (Option.some.inj hs).symm
    · cases hs
theorem wd_pu {G H : Hp} (h : ∀ a o, G a = some o → H a = some o) : Wd pu 0 G H := ⟨h, fun _ z => z.elim, trivial⟩
section
variable {P : Program} {w : World} {K : PySem.W.Frag} {mg : Str → Option Value} {base : Heap}
theorem fn_pure {x qual : Str} {st : Stmt} {f : Addr} {fd : FuncData} {N ps : List Str} {k : Nat} {R : List PyData → PyData → Prop} (F : Fun K x qual st f fd) (Sc : FnScope N ps (defScope st)) (len : ∀ ds d, R ds d → ds.length = ps.length)
    (body : ∀ (cdv : Value) (A : Around) (outer : List Env) (s : Shared) (H : Hp) (E : XK), Room k (A.deeper (envOfC qual (defScope st) s.heap.objs.size f cdv)) →
      ∃ t, PSs (cxOf CX0 P w K mg base N qual (defScope st) f cdv A outer s H E).nox (defBody st) t ∧ ∀ ds d, R ds d → EvS K pu t (startD N ds) 0 { rt := fun z => z = .dat d }) : FnOk P w K mg base CX0 (k + 1) f fd ps (spP K R) := by
  refine F.ok Sc (fun vs H Q E h => ?_) (fun cdv A outer s H vs Q E hr h => ?_)
  · obtain ⟨G, ds, d, _, dd, hp, _⟩ := h
    rw [dd.len]
    exact len ds d hp
  · obtain ⟨G, ds, d, hs, dd, hp, q⟩ := h
    obtain ⟨t, ht, hb⟩ := body cdv A outer s H E hr
    refine ⟨t, ht, hb ds d hp 0 _ G H (start_slots dd) (wd_pu hs) _ (fun _ _ _ _ _ _ _ z => z.elim) (fun v z G2 H2 m _ hv hz => ?_) (fun _ _ _ _ _ _ _ z => z.elim) (fun _ _ _ _ _ _ _ z => z.elim)⟩
    subst hz
    exact q v G2 H2 m hv
end
/-! ## calls by keywords alone -/
section
variable {X : Cx} {CX : CXT} {k n : Nat} {f : Addr} {fd : FuncData} {ps ks : List Str} {sp : Sp} {E : XK} {x : Str} {p pos : Pos} {kws : List Keyword} {tk : TA} {g : List Value → List Value → List Value} {gV : List V → List V → List V}
theorem pe_callN0 (F : FnOk X.prog X.w X.K X.mg X.base CX k f fd ps sp) (hr : Room k X.A) (hg : Gl X x) (hm : X.mg x = some (.ref f)) (hk : PySem.W.keepIn X.K (.ref f) = true) (hb : KBn X.K fd ps 0 ks g gV) (hx : Passes CX X E)
    (hkw : PK X kws tk) (hall : (backToKw pos (keywordEach kws X.env)).all (·.1.isSome) = true := by rfl) (hks : (backToKw pos (keywordEach kws X.env)).filterMap (·.1) = ks := by rfl)
    (hdb : (x == ("__debug__" : Str)) = false := by decide) (hpl : ((backTo pos (starEach [] X.env)).any (·.1) || (backToKw pos (keywordEach kws X.env)).any (·.1.isNone)) = false := by rfl) :
    PE X (.Call (.Name x p) [] kws pos) (tCallN 0 ks.length sp gV E tNil tk) := by
  refine ⟨fun pins s σ H Q I h => ?_⟩
  refine wpAny_Call_Name_kw (ld_glob I hg hm ?_ hdb)
  refine PySem.W.callWith_KW0 (h₀ := X.base) I.ok.mod.kin hk hall (thn (hkw.run pos pins s σ H _ I h) fun ws s2 ⟨zs, H2, I2, rz, l1, l2, q2⟩ => ⟨I2.kIn, ?_⟩) hpl
  rw [hks]
  exact run_fnN (us := []) F hr hb hx I2 .nil rz l1 l2 q2
end
section
variable {K : PySem.W.Frag}
theorem kb_of {x qual : Str} {st : Stmt} {f : Addr} {fd : FuncData} {ps ks : List Str} {n : Nat} {g : List Value → List Value → List Value} {gV : List V → List V → List V} (F : Fun K x qual st f fd)
    (h : ∀ (kV doc pm : Value) (an : Option Addr) (cdv ct : Value) (us ws : List Value), us.length = n → ws.length = ks.length → bindArgs (PySem.W.fnOf x qual (defArgs st) (defBody st) (defScope st) .none kV doc pm an cdv ct) ⟨us, ks.zip ws⟩ = pure (ps.zip (g us ws)))
    (hr : ∀ {vs : List V} {us : List Value} {zs : List V} {ws : List Value}, Vals vs us → Vals zs ws → Vals (gV vs zs) (g us ws)) : KBn K fd ps n ks g gV := by
  obtain ⟨oc, od, kV, doc, pm, an, cdv, ct, osl, rfl, lk, hcd⟩ := F.ex
  exact ⟨fun s us ws _ l1 l2 => .of_eq (h kV doc pm an cdv ct us ws l1 l2), hr⟩
end
end DL

namespace DL
open PySem PySem.Spec PyProof.Rows L2 ZX
/-! ## a def that may be called by its name -/
structure Cl (P : Program) (w : World) (K : PySem.W.Frag) (mg : Str → Option Value) (base : Heap) (k : Nat) (x : Str) (st : Stmt) (ps : List Str) (sp : Sp) : Prop where
  ex : ∃ (f : Addr) (fd : FuncData), Fun K x x st f fd ∧ FnOk P w K mg base CX0 k f fd ps sp ∧ mg x = some (.ref f) ∧ Binds K fd ps []
section
variable {X : Cx} {k j n : Nat} {x : Str} {st : Stmt} {ps ks : List Str} {sp : Sp} {p pos : Pos} {e : Expr} {es : List Expr} {kws : List Keyword} {t tk : TA} {g : List Value → List Value → List Value} {gV : List V → List V → List V}
theorem pe_cl (c : Cl X.prog X.w X.K X.mg X.base k x st ps sp) (hr : Room j X.A) (hk : k ≤ j) (hg : Gl X x) (ha : PA X (e :: es) t)
    (hdb : (x == ("__debug__" : Str)) = false := by decide) (he : starEach (e :: es) X.env = (false, eval e X.env) :: starEach es X.env := by rfl) (hpl : (backTo pos (starEach es X.env)).any (·.1) = false := by rfl) :
    PE X (.Call (.Name x p) (e :: es) [] pos) (tCall sp [] E0 t) := by
  obtain ⟨f, fd, F, G, hm, b⟩ := c.ex
  exact pe_call G (hr.mono hk) hg hm F.kp b .nil pass0 ha hdb he hpl
theorem pe_clk (c : Cl X.prog X.w X.K X.mg X.base k x st ps sp) (hr : Room j X.A) (hk : k ≤ j) (hg : Gl X x) (hb : ∀ f fd, Fun X.K x x st f fd → KBn X.K fd ps n ks g gV) (ha : PA X (e :: es) t) (hkw : PK X kws tk)
    (hall : (backToKw pos (keywordEach kws X.env)).all (·.1.isSome) = true := by rfl) (hks : (backToKw pos (keywordEach kws X.env)).filterMap (·.1) = ks := by rfl)
    (hdb : (x == ("__debug__" : Str)) = false := by decide) (he : starEach (e :: es) X.env = (false, eval e X.env) :: starEach es X.env := by rfl)
    (hpl : ((backTo pos (starEach (e :: es) X.env)).any (·.1) || (backToKw pos (keywordEach kws X.env)).any (·.1.isNone)) = false := by rfl) :
    PE X (.Call (.Name x p) (e :: es) kws pos) (tCallN n ks.length sp gV E0 t tk) := by
  obtain ⟨f, fd, F, G, hm, b⟩ := c.ex
  exact pe_callN G (hr.mono hk) hg hm F.kp (hb f fd F) pass0 ha hkw hall hks hdb he hpl
theorem pe_clk0 (c : Cl X.prog X.w X.K X.mg X.base k x st ps sp) (hr : Room j X.A) (hk : k ≤ j) (hg : Gl X x) (hb : ∀ f fd, Fun X.K x x st f fd → KBn X.K fd ps 0 ks g gV) (hkw : PK X kws tk)
    (hall : (backToKw pos (keywordEach kws X.env)).all (·.1.isSome) = true := by rfl) (hks : (backToKw pos (keywordEach kws X.env)).filterMap (·.1) = ks := by rfl)
    (hdb : (x == ("__debug__" : Str)) = false := by decide) (hpl : ((backTo pos (starEach [] X.env)).any (·.1) || (backToKw pos (keywordEach kws X.env)).any (·.1.isNone)) = false := by rfl) :
    PE X (.Call (.Name x p) [] kws pos) (tCallN 0 ks.length sp gV E0 tNil tk) := by
  obtain ⟨f, fd, F, G, hm, b⟩ := c.ex
  exact pe_callN0 G (hr.mono hk) hg hm F.kp (hb f fd F) pass0 hkw hall hks hdb hpl
end
section
variable {K : PySem.W.Frag} {S : MS} {δ : List SD} {k : Nat}
/-- all([..]) -/
theorem e_all {te : TE} {its : List PyData} {g : PyData → Bool} (h : Dt K S te δ (.dat (.list (its.map fun d => .bool (g d))))) : Dt K S (tCB (rAll K) (tCons te tNil)) δ (.b (its.all g)) := by
  have e : its.map (fun d => PyData.bool (g d)) = (its.map g).map PyData.bool := by rw [List.map_map]; rfl
  rw [e] at h
  refine (d_cb (da_cons h a_nil) rc_all).mono fun s hs => ?_
  rw [hs, List.all_map]
  rfl
theorem e_chain {r r' : R2} {ta tb tc : TE} {s1 s2 s3 : SD} {c d : Bool} (h1 : Dt K S ta δ s1) (h2 : Dt K S tb δ s2) (hr : RV K r s1 s2 (fun z => z = .b c)) (h3 : c = true → Dt K S tc δ s3) (hr' : c = true → RV K r' s2 s3 (fun z => z = .b d)) : Dt K S (tChain r r' ta tb tc) δ (.b (c && d)) :=
  fun q σ G H hq w Q hQ => h1 q σ G H hq w _ fun v s G2 H2 m2 w2 hv hs => h2 q σ G2 H2 (hq.mono m2.gr) w2 _ fun u s' G3 H3 m3 w3 hu hs' => by
    subst hs hs'
    refine hr v u G3 H3 (hv.mono m3.gr) hu w3.sub _ fun y z G4 H4 m4 hy hz => ?_
    subst hz
    cases hy
    have w4 := w3.pure m4
    have m04 := (m2.trans m3).trans (m4.weak (M' := S.M) fun _ f => f.elim)
    refine ⟨c, rfl, ?_⟩
    cases c with
    | false => exact iteF (hQ _ (.b false) G4 H4 m04 w4 (DD.bl _) rfl)
    | true =>
      refine iteT (h3 rfl q σ G4 H4 (hq.mono m04.gr) w4 _ fun x5 s5 G5 H5 m5 w5 h5 e5 => ?_)
      subst e5
      refine hr' rfl u x5 G5 H5 ((hu.mono m4.gr).mono m5.gr) h5 w5.sub Q fun y6 z6 G6 H6 m6 h6 e6 => ?_
      exact hQ y6 z6 G6 H6 ((m04.trans m5).trans (m6.weak fun _ f => f.elim)) (w5.pure m6) h6 e6
theorem e_repX {ta tb : TE} {ds : List PyData} {n : Int} (h1 : Dt K S ta δ (.dat (.tuple ds))) (h2 : Dt K S tb δ (.i n)) (hn : ds ≠ []) (h : 1 ≤ n ∧ n ≤ 1000) (hl : ds.length ≤ 1000) : Dt K S (tOp (rRepX K) ta tb) δ (.dat (.tuple (List.replicate n.toNat ds).flatten)) :=
  d_op h1 h2 fun x y G H hx hy hs Q hQ => by
    cases hy
    cases hx with
    | @tup a xs _ hh t =>
      have rep : ∀ m : Nat, DDs K G (List.replicate m xs).flatten (List.replicate m ds).flatten := fun m => by
        induction m with
        | zero => exact .nil
        | succ m ih =>
          rw [List.replicate_succ, List.replicate_succ, List.flatten_cons, List.flatten_cons]
          exact t.append ih
      refine ⟨a, n, xs, rfl, rfl, .inl (.inl (hs _ _ hh)), fun z => ?_, h.1, h.2, by rw [t.len]; exact hl, fun e => ?_, fun _ p np => hQ _ (.dat (.tuple _)) _ _ (Mv.new hs np) (DD.tup upd_same ((rep _).mono (Mv.new (M := fun _ => False) hs np).gr)) rfl⟩
      · subst z
        exact hn (List.eq_nil_of_length_eq_zero t.len.symm)
      · subst e
        refine hQ _ (.dat (.tuple ds)) G H (Mv.refl hs) (DD.tup hh t) ?_
        show _ = SD.dat (.tuple (ds ++ []))
        rw [List.append_nil]
theorem e_rep {ta tb : TE} {ds : List PyData} {n : Int} (h1 : Dt K S ta δ (.dat (.list ds))) (h2 : Dt K S tb δ (.i n)) (h : 0 ≤ n ∧ n ≤ 1000) (hl : ds.length ≤ 1000) : Dt K S (tOp rRep ta tb) δ (.dat (.list (List.replicate n.toNat ds).flatten)) :=
  d_op h1 h2 fun x y G H hx hy hs Q hQ => by
    cases hy
    cases hx with
    | @lst a xs _ hh t =>
      have rep : ∀ m : Nat, DDs K G (List.replicate m xs).flatten (List.replicate m ds).flatten := fun m => by
        induction m with
        | zero => exact .nil
        | succ m ih =>
          rw [List.replicate_succ, List.replicate_succ, List.flatten_cons, List.flatten_cons]
          exact t.append ih
      refine ⟨a, n, xs, rfl, rfl, hs _ _ hh, by omega, by omega, ?_, fun p np => hQ _ (.dat (.list _)) _ _ (Mv.new hs np) (DD.lst upd_same ((rep _).mono (Mv.new (M := fun _ => False) hs np).gr)) rfl⟩
      rw [t.len]
      exact Nat.le_trans (Nat.mul_le_mul hl (show n.toNat ≤ 1000 by omega)) (by decide)
end
/-! x == () -/
def rEqE (K : PySem.W.Frag) : R2 := fun x y H Q => ∃ a b xs, x = .ref a ∧ y = .ref b ∧ SqT K H a xs ∧ SqT K H b [] ∧ Q (.bl xs.isEmpty) H
theorem op_eqE {X : Cx} (hu : X.A.units + 64 < cLine) : OpR X (compareOp .Eq) (rEqE X.K) := by
  intro pins s σ H x y v u Q I rx ry h
  obtain ⟨a, b, xs, rfl, rfl, h1, h2, q⟩ := h
  cases rx
  cases ry
  obtain ⟨its, r, p, _⟩ := I.tuple h1
  obtain ⟨jts, r2, p2, _⟩ := I.tuple h2
  cases r2
  refine SeqAt.eq_tupleAt (e := fun _ => true) p p2 (by omega) (fun j h1 h2 => absurd h2 (by simp)) ⟨.bl xs.isEmpty, H, I, ?_, q⟩
  have e := r.length
  show Value.bool _ = Value.bool xs.isEmpty
  congr 1
  cases its with
  | nil =>
    cases xs with
    | nil => rfl
    | cons c l => cases e
  | cons i l =>
    cases xs with
    | nil => cases e
    | cons c m => simp
theorem e_eqE {K : PySem.W.Frag} {S : MS} {δ : List SD} {ta tb : TE} {ds : List PyData} (h1 : Dt K S ta δ (.dat (.tuple ds))) (h2 : Dt K S tb δ (.dat (.tuple []))) : Dt K S (tOp (rEqE K) ta tb) δ (.b ds.isEmpty) :=
  d_op h1 h2 fun x y G H hx hy hs Q hQ => by
    cases hx with
    | @tup a xs _ hh t =>
      cases hy with
      | @tup b ys _ hh2 t2 =>
        cases t2
        refine ⟨a, b, xs, rfl, rfl, .inl (.inl (hs _ _ hh)), .inl (.inl (hs _ _ hh2)), hQ _ (.b ds.isEmpty) G H (Mv.refl hs) ?_ rfl⟩
        have e : xs.isEmpty = ds.isEmpty := by
          have := t.len
          cases xs with
          | nil =>
            cases ds with
            | nil => rfl
            | cons c l => cases this
          | cons c l =>
            cases ds with
            | nil => cases this
            | cons c m => rfl
        rw [e]
        exact DD.bl _
/-! ## the box that draws -/
def bx (b : Addr) : MS where
  M := fun a => a = b
  inv := fun r _ H => ∃ c0 c1 c2 : Int, H b = some (.lst [.int c0, .int c1, .int c2]) ∧ 0 ≤ c0 ∧ 0 ≤ c1 ∧ c1 < 2 ^ 33 ∧ 0 ≤ c2 ∧ c2 + r ≤ 2 ^ 40
  dom := fun ⟨_, _, _, h, _⟩ e => by
    subst e
    exact ⟨_, h⟩
  fr := fun ⟨c0, c1, c2, h, q⟩ _ k => ⟨c0, c1, c2, k _ _ rfl h, q⟩
  dn := fun ⟨c0, c1, c2, h, a, b, c, d, e⟩ => ⟨c0, c1, c2, h, a, b, c, d, by omega⟩
/-- a def whose first argument is a box: P ds c Φ: with ds beside it, c draws at most, something of Φ -/
def spB (K : PySem.W.Frag) (P : List PyData → Nat → (PyData → Prop) → Prop) : Sp := fun vs H Q _ => ∃ b vs' G ds r c Φ, vs = .ref b :: vs' ∧ DDs K G vs' ds ∧ Wd (bx b) (r + c) G H ∧ P ds c Φ ∧ ∀ v d G2 H2, Mv (bx b).M G H G2 H2 → Wd (bx b) r G2 H2 → DD K G2 v d → Φ d → Q v H2
section
variable {K : PySem.W.Frag} {b : Addr} {δ : List SD} {k c : Nat} {Ψ : SD → Prop}
theorem e_callB {P : List PyData → Nat → (PyData → Prop) → Prop} {t : TA} {Φ : List SD → Prop} {E : XK} {i : Nat} (hi : δ[i]? = some (.ref b)) (ha : EvA K (bx b) t δ k Φ) (h : ∀ ss, Φ ss → ∃ ds Φ', dats ss ds ∧ P ds c Φ' ∧ ∀ d, Φ' d → Ψ (.dat d)) :
    Ev K (bx b) (tCall (spB K P) [] E (tCons (tVar i) t)) δ (k + c) Ψ := fun r σ G H q w Q hQ => by
  rcases q.2 i _ hi with z | ⟨v, e, hv⟩
  · cases z
  · cases (show v = V.ref b from hv)
    refine ⟨_, e, ha (r + c) σ G H q (w.eq (by omega)) _ fun vs ss G2 H2 m w2 hvs hs => ?_⟩
    obtain ⟨ds, Φ', hd, hp, hy⟩ := h ss hs
    rw [List.append_nil]
    exact ⟨b, vs, G2, ds, r, c, Φ', rfl, dats_dd hvs hd, w2, hp, fun v d G3 H3 m3 w3 dv hd => hQ v (.dat d) G3 H3 (m.trans m3) w3 dv (hy d hd)⟩
end
def startB (N : List Str) (b : Addr) (ds : List PyData) : List SD := .ref b :: (ds.map SD.dat ++ List.replicate (N.length - (ds.length + 1)) SD.unk)
theorem start_box {K : PySem.W.Frag} {G : Hp} {N : List Str} {b : Addr} {ds : List PyData} {vs : List V} (h : DDs K G vs ds) : SlD K G (L2.start N (.ref b :: vs)) (startB N b ds) := by
  have e := h.len
  refine ⟨by simp [L2.start, startB, e], fun i s hs => ?_⟩
  cases i with
  | zero =>
    cases hs
    exact .inr ⟨_, rfl, rfl⟩
  | succ i =>
    by_cases hi : i < ds.length
    · unfold startB at hs
      rw [List.getElem?_cons_succ, List.getElem?_append_left (by simpa using hi), List.getElem?_map] at hs
      obtain ⟨d, hd, rfl⟩ := Option.map_eq_some_iff.mp hs
      obtain ⟨v, hv, dv⟩ := h.got hd
      refine .inr ⟨v, ?_, dv⟩
      unfold L2.start
      rw [List.map_cons, List.cons_append, List.getElem?_cons_succ, List.getElem?_append_left (by rw [List.length_map]; omega), List.getElem?_map, hv]
      rfl
    · unfold startB at hs
      rw [List.getElem?_cons_succ, List.getElem?_append_right (by simpa using Nat.not_lt.mp hi), List.getElem?_replicate] at hs
      split at hs
      · exact .inl (Option.some.inj hs).symm
      · cases hs
section
variable {P : Program} {w : World} {K : PySem.W.Frag} {mg : Str → Option Value} {base : Heap}
theorem fn_box {x qual : Str} {st : Stmt} {f : Addr} {fd : FuncData} {N ps : List Str} {k : Nat} {R : List PyData → Nat → (PyData → Prop) → Prop} (F : Fun K x qual st f fd) (Sc : FnScope N ps (defScope st)) (len : ∀ ds c Φ, R ds c Φ → ds.length + 1 = ps.length)
    (body : ∀ (cdv : Value) (A : Around) (outer : List Env) (s : Shared) (H : Hp) (E : XK), Room k (A.deeper (envOfC qual (defScope st) s.heap.objs.size f cdv)) →
      ∃ t, PSs (cxOf CX0 P w K mg base N qual (defScope st) f cdv A outer s H E).nox (defBody st) t ∧ ∀ b ds c Φ, R ds c Φ → EvS K (bx b) t (startB N b ds) c { rt := fun z => ∃ d, z = .dat d ∧ Φ d }) : FnOk P w K mg base CX0 (k + 1) f fd ps (spB K R) := by
  refine F.ok Sc (fun vs H Q E h => ?_) (fun cdv A outer s H vs Q E hr h => ?_)
  · obtain ⟨b, vs', G, ds, r, c, Φ, rfl, dd, _, hp, _⟩ := h
    rw [List.length_cons, dd.len]
    exact len ds c Φ hp
  · obtain ⟨b, vs', G, ds, r, c, Φ, rfl, dd, hw, hp, q⟩ := h
    obtain ⟨t, ht, hb⟩ := body cdv A outer s H E hr
    refine ⟨t, ht, hb b ds c Φ hp r _ G H (start_box dd) hw _ (fun _ _ _ _ _ _ _ z => z.elim) (fun v z G2 H2 m w2 hv hz => ?_) (fun _ _ _ _ _ _ _ z => z.elim) (fun _ _ _ _ _ _ _ z => z.elim)⟩
    obtain ⟨d, rfl, hd⟩ := hz
    exact q v d G2 H2 m w2 hv hd
end
/-- what take promises -/
def Rtake : List PyData → Nat → (PyData → Prop) → Prop := fun ds c Φ => ∃ m : Int, ds = [.int m] ∧ 1 ≤ m ∧ m < 2 ^ 30 ∧ c = 1 ∧ Φ = fun d => ∃ i, d = .int i ∧ 0 ≤ i ∧ i < m
section
variable {K : PySem.W.Frag} {S : MS} {b : Addr} {δ : List SD} {k : Nat} {te : TE} {E : XK} {i : Nat}
theorem e_take {m : Int} (hi : δ[i]? = some (.ref b)) (h : Dt K (bx b) te δ (.i m)) (h1 : 1 ≤ m) (h2 : m < 2 ^ 30) : Ev K (bx b) (tCall (spB K Rtake) [] E (tCons (tVar i) (tCons te tNil))) δ 1 (fun s => ∃ j, s = .i j ∧ 0 ≤ j ∧ j < m) :=
  (e_callB (c := 1) hi (da_cons h a_nil) fun ss e => ⟨[.int m], _, e ▸ ⟨rfl, trivial⟩, ⟨m, rfl, h1, h2, rfl, rfl⟩, fun d ⟨j, e, h0, h1⟩ => ⟨j, by rw [e], h0, h1⟩⟩).up (by omega)
theorem e_takeE {lo hi' : Int} (hi : δ[i]? = some (.ref b)) (h : Ev K (bx b) te δ k (fun s => ∃ m, s = .i m ∧ lo ≤ m ∧ m ≤ hi')) (h1 : 1 ≤ lo) (h2 : hi' < 2 ^ 30) : Ev K (bx b) (tCall (spB K Rtake) [] E (tCons (tVar i) (tCons te tNil))) δ (k + 1) (fun s => ∃ j, s = .i j ∧ 0 ≤ j ∧ j < hi') :=
  (e_callB (c := 1) hi (a_cons (k' := 0) (Φ' := fun _ l => l = []) h fun _ _ => a_nil) fun ss ⟨s, l, e, ⟨m, em, m1, m2⟩, el⟩ => by
    subst e em el
    exact ⟨[.int m], _, ⟨rfl, trivial⟩, ⟨m, rfl, by omega, by omega, rfl, rfl⟩, fun d ⟨j, e, h0, h1⟩ => ⟨j, by rw [e], h0, by omega⟩⟩).up (by omega)
theorem s_end {t u : TS} {O : Out} (h : EvS K S t δ k { O with nx := fun _ => False }) : EvS K S (tSeq t u) δ k O := (s_seq (N := fun _ => False) (k' := 0) h fun _ z => z.elim).up (by omega)
theorem ints_of {p : Int → Prop} : ∀ {ds : List PyData}, (∀ d ∈ ds, ∃ i, d = .int i ∧ p i) → ∃ ns : List Int, ds = ns.map .int ∧ ∀ n ∈ ns, p n
  | [], _ => ⟨[], rfl, fun n h => by cases h⟩
  | d :: ds, h => by
    obtain ⟨i, rfl, hp⟩ := h d (List.mem_cons_self ..)
    obtain ⟨ns, rfl, hn⟩ := ints_of fun e he => h e (List.mem_cons_of_mem _ he)
    refine ⟨i :: ns, rfl, fun n hm => ?_⟩
    rcases List.mem_cons.mp hm with rfl | hm
    · exact hp
    · exact hn n hm
theorem idx_mem {p : PyData → Prop} {ds : List PyData} (h : ∀ (j : Nat) (d : PyData), ds[j]? = some d → p d) : ∀ d ∈ ds, p d := fun d hd => by
  obtain ⟨j, hj⟩ := List.mem_iff_getElem?.mp hd
  exact h j d hj
end
/-! the rules with K told (within a comprehension the place's own K hides it) -/
section
variable {X : Cx} {K : PySem.W.Frag}
theorem ki_isi (h : X.K = K) : CallR X (.builtin "isinstance") (rIsi K) := by
  subst h
  exact call_isi
theorem ki_isiT (h : X.K = K) : CallR X (.builtin "isinstance") (rIsiT K) := by
  subst h
  exact call_isiT
theorem ki_len (h : X.K = K) : CallR X (.builtin "len") (fun xs H Q => ∃ p ys, xs = [.ref p] ∧ (SqL K H p ys ∨ SqT K H p ys) ∧ Q (.int ys.length) H) := by
  subst h
  exact call_len_seq
theorem ki_list (h : X.K = K) : CallR X (.type "list") (fun xs H Q => ∃ p ys, xs = [.ref p] ∧ (SqL K H p ys ∨ SqT K H p ys) ∧ ∀ l, H l = none → Q (.ref l) (upd H l (.lst ys))) := by
  subst h
  exact call_list_of
theorem ki_tuple (h : X.K = K) : CallR X (.type "tuple") (fun xs H Q => ∃ p ys, xs = [.ref p] ∧ ((SqL K H p ys ∧ ∀ l, H l = none → Q (.ref l) (upd H l (.tup ys))) ∨ (SqT K H p ys ∧ Q (.ref p) H))) := by
  subst h
  exact call_tuple_of
theorem ki_all (h : X.K = K) (hc : X.calm = true) : CallR X (.builtin "all") (rAll K) := by
  subst h
  exact cr_all hc
theorem ki_ixL (h : X.K = K) : IxR X (rIxL K) := by
  subst h
  exact ix_list
theorem ki_ixT (h : X.K = K) : IxR X (rIxT K) := by
  subst h
  exact ix_tup
theorem ki_catT (h : X.K = K) : OpR X (binaryOp .Add) (rCatT K) := by
  subst h
  exact op_catT
theorem ki_repX (h : X.K = K) : OpR X (binaryOp .Mult) (rRepX K) := by
  subst h
  exact op_repX
theorem ki_eqD (h : X.K = K) (hu : X.A.units + 64 < cLine) : OpR X (compareOp .Eq) (rEqD K) := by
  subst h
  exact op_eqD hu
theorem ki_neD (h : X.K = K) (hu : X.A.units + 64 < cLine) : OpR X (compareOp .NotEq) (rNeD K) := by
  subst h
  exact op_neD hu
end
theorem d_un {K : PySem.W.Frag} {S : MS} {δ : List SD} {ta : TE} {g : Int → V} {i : Int} {d : PyData} (h : Dt K S ta δ (.i i)) (hd : ∀ G, DD K G (g i) d) : Dt K S (tUn (rU g) ta) δ (.dat d) := fun r σ G H q w Q hQ => h r σ G H q w _ fun v s G2 H2 m w2 hv hs => by
  subst hs
  cases hv
  exact ⟨i, rfl, hQ _ (.dat d) G2 H2 m w2 (hd G2) rfl⟩
theorem atI_in {α : Type} {ds : List α} {j : Int} (h0 : 0 ≤ j) (h1 : j < ds.length) : ∃ d, atI ds j = some d ∧ d ∈ ds := by
  obtain ⟨n, rfl⟩ := Int.eq_ofNat_of_zero_le h0
  have hn : n < ds.length := by omega
  exact ⟨ds[n], atI_nat (List.getElem?_eq_getElem hn), List.getElem_mem hn⟩
theorem RV.mono {K : PySem.W.Frag} {r : R2} {s s' : SD} {Ψ Ψ' : SD → Prop} (h : RV K r s s' Ψ) (i : ∀ z, Ψ z → Ψ' z) : RV K r s s' Ψ' := fun x y G H hx hy hs Q hQ => h x y G H hx hy hs Q fun v z G2 H2 m hv hz => hQ v z G2 H2 m hv (i z hz)
theorem RC.mono {K : PySem.W.Frag} {r : List V → Hp → VK → Prop} {ss : List SD} {Ψ Ψ' : SD → Prop} (h : RC K r ss Ψ) (i : ∀ z, Ψ z → Ψ' z) : RC K r ss Ψ' := fun vs G H hv hs Q hQ => h vs G H hv hs Q fun v z G2 H2 m hv hz => hQ v z G2 H2 m hv (i z hz)
section
variable {K : PySem.W.Frag} {S : MS} {δ : List SD} {k k' : Nat} {tt tu : TT} {t u : TS} {O : Out}
theorem t_andE {Φ1 Φ2 : Bool → Prop} (h1 : EvT K S tt δ k Φ1) (h2 : Φ1 true → EvT K S tu δ k' Φ2) : EvT K S (tAnd tt tu) δ (k + k') (fun x => (x = false ∧ Φ1 false) ∨ (Φ1 true ∧ Φ2 x)) :=
  fun r σ G H q w Q hQ => h1 (r + k') σ G H q (w.eq (by omega)) _ fun e G2 H2 m w2 hs => by
    cases e with
    | true => exact iteT (h2 hs r σ G2 H2 (q.mono m.gr) w2 Q fun f G3 H3 m3 w3 hf => hQ f G3 H3 (m.trans m3) w3 (.inr ⟨hs, hf⟩))
    | false => exact iteF (hQ false G2 H2 m (Wd.dn (j := k') w2) (.inl ⟨rfl, hs⟩))
theorem s_ifE0 {Φ : Bool → Prop} (h : EvT K S tt δ k Φ) (h1 : Φ true → EvS K S (tSeq t u) δ k' O) (h2 : Φ false → EvS K S u δ k' O) : EvS K S (tSeq (tIfS tt t tNext) u) δ (k + k') O :=
  fun r σ G H q w D a b e f => h (r + k') σ G H q (w.eq (by omega)) _ fun x G2 H2 m w2 hs => by
    cases x with
    | true => exact iteT (h1 hs r σ G2 H2 (q.mono m.gr) w2 D (fun x y z f m3 => a x y z f (m.trans m3)) (fun x y z f m3 => b x y z f (m.trans m3)) (fun x y z f m3 => e x y z f (m.trans m3)) (fun x y z g m3 => f x y z g (m.trans m3)))
    | false => exact iteF (h2 hs r σ G2 H2 (q.mono m.gr) w2 D (fun x y z f m3 => a x y z f (m.trans m3)) (fun x y z f m3 => b x y z f (m.trans m3)) (fun x y z f m3 => e x y z f (m.trans m3)) (fun x y z g m3 => f x y z g (m.trans m3)))
/-- a test of a drawn number against a written one -/
theorem t_draw {ta tb : TE} {g : Int → Int → Bool} {c : Int} {m : Int} (h : Ev K S ta δ k (fun s => ∃ j, s = .i j ∧ 0 ≤ j ∧ j < m)) (hb : Dt K S tb δ (.i c)) : EvT K S (tTest (tOp (rI0 fun i j => .bl (g i j)) ta tb)) δ k (fun x => ∃ j, 0 ≤ j ∧ j < m ∧ x = g j c) :=
  t_testE ((e_op (k' := 0) (Φ' := fun _ s => s = .i c) h (fun _ _ => hb) fun s s' ⟨j, e, h0, h1⟩ e' => by
    subst e e'
    exact (rv_I0 fun _ => DD.bl _).mono fun z e => ⟨_, e, j, h0, h1, rfl⟩).up (by omega))
end
section
variable {K : PySem.W.Frag} {S : MS} {δ : List SD} {k k' : Nat}
/-- a, b, c = e, f, list(x): the list is one's own, not known yet -/
theorem par3_own {ta tb tx : TE} {u : TS} {Φ : SD → Prop} {Φ' : SD → SD → Prop} {d : PyData} {xs : List PyData} {i j m r : Nat} {σ : L2.St} {G H : Hp} {D : Ends} (ha : Ev K S ta δ k Φ) (hb : ∀ s, Φ s → Ev K S tb δ k' (Φ' s)) (hx : Dt K S tx δ (.dat d)) (hs : IsSeq d xs) (q : SlD K G σ δ) (w : Wd S (r + (k + k')) G H)
    (hu : ∀ s s' G2 H2 l ys σ2, Φ s → Φ' s s' → Mv S.M G H G2 H2 → Wd S r G2 H2 → H2 l = some (.lst ys) → G2 l = none → H l = none → ¬ S.M l → DDs K G2 ys xs → SlD K G2 σ2 (((δ.set i s).set j s').set m (.ref l)) → u D σ2 H2) :
    tSeq (tPar3 i j m (tCons ta (tCons tb (tCons (tCB (fun xs H Q => ∃ p ys, xs = [.ref p] ∧ (SqL K H p ys ∨ SqT K H p ys) ∧ ∀ l, H l = none → Q (.ref l) (upd H l (.lst ys))) (tCons tx tNil)) tNil)))) u D σ H := by
  refine ha (r + k') σ G H q (w.eq (by omega)) _ fun v1 s1 G1 H1 m1 w1 hv1 h1 => ?_
  refine hb s1 h1 r σ G1 H1 (q.mono m1.gr) w1 _ fun v2 s2 G2 H2 m2 w2 hv2 h2 => ?_
  refine hx r σ G2 H2 ((q.mono m1.gr).mono m2.gr) w2 _ fun v3 s3 G3 H3 m3 w3 hv3 h3 => ?_
  subst h3
  have sq : ∃ a ys, v3 = .ref a ∧ (SqL K H3 a ys ∨ SqT K H3 a ys) ∧ DDs K G3 ys xs := by
    rcases hs with rfl | rfl
    · cases hv3 with
      | @lst a ys _ hh t => exact ⟨a, ys, rfl, .inl (.inl (.inl (w3.sub _ _ hh))), t⟩
    · cases hv3 with
      | @tup a ys _ hh t => exact ⟨a, ys, rfl, .inr (.inl (.inl (w3.sub _ _ hh))), t⟩
  obtain ⟨a, ys, rfl, hq, dd⟩ := sq
  refine ⟨a, ys, rfl, hq, fun l nl => ⟨v1, v2, .ref l, rfl, ?_⟩⟩
  have nG : G3 l = none := by
    cases e : G3 l with
    | none => rfl
    | some o =>
      rw [w3.sub l o e] at nl
      cases nl
  have nM : ¬ S.M l := fun z => by
    obtain ⟨o, e⟩ := S.dom w3.inv z
    rw [e] at nl
    cases nl
  have mm := (m1.trans m2).trans m3
  have n0 : H l = none := by
    cases e : H l with
    | none => rfl
    | some o =>
      obtain ⟨o', e'⟩ := mm.dom l o e
      rw [e'] at nl
      cases nl
  exact hu s1 s2 G3 (upd H3 l (.lst ys)) l ys _ h1 h2 (mm.loc n0 nG) (w3.loc nG nM) upd_same nG n0 nM dd ((((q.mono mm.gr).set ((hv1.mono m2.gr).mono m3.gr) i).set (hv2.mono m3.gr) j).set (s := .ref l) rfl m)
theorem SlD.ref {G : Hp} {σ : L2.St} {i : Nat} {b : Addr} (q : SlD K G σ δ) (h : δ[i]? = some (.ref b)) : σ[i]? = some (some (.ref b)) := by
  rcases q.2 i _ h with z | ⟨v, e, hv⟩
  · cases z
  · cases (show v = V.ref b from hv)
    exact e
theorem SlD.int {G : Hp} {σ : L2.St} {i : Nat} {n : Int} (q : SlD K G σ δ) (h : δ[i]? = some (.i n)) : σ[i]? = some (some (.int n)) := by
  rcases q.2 i _ h with z | ⟨v, e, hv⟩
  · cases z
  · cases hv
    exact e
theorem SlD.dat {G : Hp} {σ : L2.St} {i : Nat} {d : PyData} (q : SlD K G σ δ) (h : δ[i]? = some (.dat d)) : ∃ v, σ[i]? = some (some v) ∧ DD K G v d := by
  rcases q.2 i _ h with z | ⟨v, e, hv⟩
  · cases z
  · exact ⟨v, e, hv⟩
end
section
variable {K : PySem.W.Frag} {S : MS} {δ : List SD} {k : Nat} {te : TE}
theorem rc_str {i : Int} (h : i.natAbs.log2 < 1920) : RC K (fun xs H Q => ∃ i : Int, xs = [.int i] ∧ i.natAbs.log2 < 1920 ∧ Q (.str (toString i)) H) [.i i] (fun z => z = .dat (.str (toString i))) := fun vs G H hv hs Q hQ => by
  obtain ⟨v, rfl, hx⟩ := vds1 hv
  cases hx
  exact ⟨i, rfl, h, hQ _ (.dat (.str _)) G H (Mv.refl hs) (DD.str _) rfl⟩
theorem ofString_len (s : String) : (Str.ofString s).length ≤ s.length := by
  rw [PySem.ofString_length]
  exact Nat.le_refl _
theorem rc_strE {i : Int} (h : i.natAbs < 10 ^ 40) : RC K (fun xs H Q => ∃ i : Int, xs = [.int i] ∧ i.natAbs.log2 < 1920 ∧ Q (.str (toString i)) H) [.i i] (fun z => ∃ y : Str, z = .dat (.str y) ∧ y.length ≤ 50) :=
  (rc_str (Nat.lt_of_lt_of_le (PySem.Flt.log2_lt_of (by decide) (show i.natAbs < 2 ^ 140 by omega)) (by decide))).mono fun z e => ⟨_, e, by
    have h1 : (toString i).length ≤ 40 + 1 := int_text_length_le10 (by decide) h
    exact Nat.le_trans (ofString_len _) (by omega)⟩
theorem rv_addS {x y : Str} (h : x.length + y.length ≤ 1000000) : RV K (fun x y H Q => ∃ i j, x = .str i ∧ y = .str j ∧ i.length + j.length ≤ sizeLine ∧ Q (.str (i ++ j)) H) (.dat (.str x)) (.dat (.str y)) (fun z => z = .dat (.str (x ++ y))) := fun u v G H hu hv hs Q hQ => by
  cases hu
  cases hv
  exact ⟨x, y, rfl, rfl, Nat.le_trans h (by decide), hQ _ (.dat (.str _)) G H (Mv.refl hs) (DD.str _) rfl⟩
theorem d_slS {z : Str} {n : Int} {ti : TE} (h : Dt K S te δ (.dat (.str z))) (hi : Dt K S ti δ (.i n)) (hz : z.length ≤ 1000000) : Dt K S (tSl rSlS te (tPart ti) tNoPart) δ (.dat (.str (cutS z (some n) none))) := fun r σ G H q w Q hQ => h r σ G H q w _ fun v s G2 H2 m w2 hv hs => hi r σ G2 H2 (q.mono m.gr) w2 _ fun u s' G3 H3 m3 w3 hu hs' => by
  subst hs hs'
  cases hv
  cases hu
  exact ⟨n, rfl, z, rfl, Nat.le_trans hz (by decide), hQ _ (.dat (.str _)) G3 H3 (m.trans m3) w3 (DD.str _) rfl⟩
theorem d_lower {z : Str} (h : Dt K S te δ (.dat (.str z))) (hz : z.length ≤ 1000000) : Dt K S (tBM0 K "str" (fun x xs H Q => ∃ a, x = .str a ∧ xs = [] ∧ a.length ≤ 5592405 ∧ Q (.str (Txt.lower a)) H) te) δ (.dat (.str (Txt.lower z))) := fun r σ G H q w Q hQ => h r σ G H q w _ fun v s G2 H2 m w2 hv hs => by
  subst hs
  cases hv
  exact ⟨rfl, z, rfl, rfl, by omega, hQ _ (.dat (.str _)) G2 H2 m w2 (DD.str _) rfl⟩
theorem e_revS {z : Str} (h : Dt K S te δ (.dat (.str z))) (hz : z.length ≤ 1000000) : Ev K S (tRevS te) δ 0 (fun s => ∃ y : Str, s = .dat (.str y) ∧ y.length ≤ z.length) := fun r σ G H q w Q hQ => h r σ G H q w _ fun v s G2 H2 m w2 hv hs => by
  subst hs
  cases hv
  exact ⟨z, rfl, Nat.le_trans hz (by decide), fun y hy => hQ _ (.dat (.str y)) G2 H2 m w2 (DD.str _) ⟨y, rfl, hy⟩⟩
theorem str_add_len (x y : Str) : (x ++ y).length = x.length + y.length := by
  show (x.cps ++ y.cps).size = _
  rw [Array.size_append]
  rfl
end
section
variable {K : PySem.W.Frag} {S : MS} {δ : List SD} {k : Nat} {ta : TE} {tr : TA} {s : SD} {Φ : List SD → Prop}
/-- one that is known, then the rest -/
theorem ak_cons (ha : Dt K S ta δ s) (hr : EvA K S tr δ k Φ) : EvA K S (tCons ta tr) δ k (fun ss => ∃ l, ss = s :: l ∧ Φ l) := fun r σ G H q w Q hQ => ha (r + k) σ G H q w _ fun v z G2 H2 m w2 hv hz => hr r σ G2 H2 (q.mono m.gr) w2 _ fun vs ss G3 H3 m3 w3 hvs hss => by
  subst hz
  exact hQ _ (z :: ss) G3 H3 (m.trans m3) w3 (.cons (hv.mono m3.gr) hvs) ⟨ss, rfl, hss⟩
/-- one that is drawn, the last one -/
theorem a_last {Ψ : SD → Prop} (ha : Ev K S ta δ k Ψ) : EvA K S (tCons ta tNil) δ k (fun ss => ∃ z, ss = [z] ∧ Ψ z) := fun r σ G H q w Q hQ => ha r σ G H q w _ fun v z G2 H2 m w2 hv hz => hQ _ [z] G2 H2 m w2 (.cons hv .nil) ⟨z, rfl, hz⟩
end
section
variable {K : PySem.W.Frag} {S : MS} {δ : List SD} {k : Nat} {O : Out}
theorem s_par {ta : TA} {i j : Nat} {Φ : List SD → Prop} (h : EvA K S ta δ k Φ) (hn : ∀ ss, Φ ss → ∃ s s', ss = [s, s'] ∧ O.nx ((δ.set i s).set j s')) : EvS K S (tPar i j ta) δ k O :=
  fun r σ G H q w D a _ _ _ => h r σ G H q w _ fun vs ss G2 H2 m w2 hv hs => by
    obtain ⟨s, s', rfl, hx⟩ := hn ss hs
    obtain ⟨v, u, rfl, h1, h2⟩ := vds2 hv
    exact ⟨v, u, rfl, a _ _ G2 H2 m w2 (((q.mono m.gr).set h1 i).set h2 j) hx⟩
end
end DL

namespace DL
open PySem PySem.Spec PyProof.Rows L2 ZX RT
theorem ip_mul {X : Cx} : PIp X .Mult (rI CMul fun i j => .int (i * j)) := iop_mul
section
variable {K : PySem.W.Frag} {S : MS} {te ta tb : TE} {δ : List SD} {k k' : Nat} {O : Out} {d : PyData}
theorem s_aug {i : Nat} {r : R2} {s s' s2 : SD} (hx : δ[i]? = some s) (hu : s ≠ .unk) (h : Dt K S te δ s') (hr : RV K r s s' (fun z => z = s2)) (hn : O.nx (δ.set i s2)) : EvS K S (tAug i te r) δ 0 O := fun q σ G H hq w D a _ _ _ => by
  rcases hq.2 i s hx with z | ⟨v, e, hv⟩
  · exact absurd z hu
  · refine ⟨v, e, h q σ G H hq w _ fun u s3 G2 H2 m w2 hu2 hs => ?_⟩
    subst hs
    refine hr v u G2 H2 (hv.mono m.gr) hu2 w2.sub _ fun y z G3 H3 m3 hy hz => ?_
    subst hz
    have mm := m.trans (m3.weak (M' := S.M) fun _ f => f.elim)
    exact a _ _ G3 H3 mm (w2.pure m3) ((hq.mono mm.gr).set hy i) hn
theorem walk_revT {a : Addr} {xs : List V} : Walk (ItvT K a xs.length) xs.length (fun H => SqT K H a xs) (fun i H x H' => H' = H ∧ xs[xs.length - 1 - i]? = some x) :=
  ⟨fun i _ hi q => ⟨hi, xs, xs[xs.length - 1 - i]'(by omega), q, by simp [show xs.length - 1 - i < xs.length by omega]⟩, fun _ _ => Nat.le_refl _, fun _ _ _ _ _ q y => ⟨y.1, y.2 xs q⟩⟩
theorem i_rev {ds : List PyData} (h : Dt K S te δ (.dat d)) (hs : IsSeq d ds) : EvI K S (iRevA K te) δ 0 ds.reverse := fun r σ G H q w R hR => h r σ G H q w _ fun v s G2 H2 m w2 hv e => by
  subst e
  have fin : ∀ (xs : List V) (x : V) (i : Nat) (d' : PyData) (G3 : Hp), DDs K G2 xs ds → (∀ a o, G2 a = some o → G3 a = some o) → ds.reverse[i]? = some d' → xs[xs.length - 1 - i]? = some x → DD K G3 x d' := fun xs x i d' G3 t hk hd hy => by
    have hi : i < ds.length := by
      have := (List.getElem?_eq_some_iff.mp hd).1
      rwa [List.length_reverse] at this
    rw [List.getElem?_reverse hi, ← t.len] at hd
    obtain ⟨e, h1, h2⟩ := t.get hy
    cases h1.symm.trans hd
    exact h2.mono hk
  rcases hs with rfl | rfl
  · cases hv with
    | @lst a xs _ hx t =>
      refine ⟨a, xs, rfl, .inl ⟨.inl (.inl (w2.sub _ _ hx)), hR _ G2 H2 m w2 ⟨fun H => SqL K H a xs, _, by rw [List.length_reverse, ← t.len]; exact walk_rev, fun G3 H3 m3 => .inl (.inl (m3.sub _ _ (m3.gr _ _ hx))), fun i d' q' G3 H3 x H4 hd m3 w3 y => ?_⟩⟩⟩
      obtain ⟨rfl, hy⟩ := y
      exact ⟨G3, w3.refl, w3, fin xs x i d' G3 t m3.gr hd hy⟩
  · cases hv with
    | @tup a xs _ hx t =>
      refine ⟨a, xs, rfl, .inr ⟨.inl (.inl (w2.sub _ _ hx)), hR _ G2 H2 m w2 ⟨fun H => SqT K H a xs, _, by rw [List.length_reverse, ← t.len]; exact walk_revT, fun G3 H3 m3 => .inl (.inl (m3.sub _ _ (m3.gr _ _ hx))), fun i d' q' G3 H3 x H4 hd m3 w3 y => ?_⟩⟩⟩
      obtain ⟨rfl, hy⟩ := y
      exact ⟨G3, w3.refl, w3, fin xs x i d' G3 t m3.gr hd hy⟩
theorem rc_divmod {i j : Int} (h : CDivP i j) : RC K (fun xs H Q => ∃ i j, xs = [.int i, .int j] ∧ CDivP i j ∧ ∀ p, H p = none → Q (.ref p) (upd H p (.tup [.int (i / j), .int (i % j)]))) [.i i, .i j] (fun z => z = .dat (.tuple [.int (i / j), .int (i % j)])) := fun vs G H hv hs Q hQ => by
  obtain ⟨v, u, rfl, hx, hy⟩ := vds2 hv
  cases hx
  cases hy
  exact ⟨i, j, rfl, h, fun p np => hQ _ (.dat (.tuple _)) _ _ (Mv.new hs np) (DD.tup upd_same (.cons (.int _) (.cons (.int _) .nil))) rfl⟩
theorem divp_small {i j : Int} (hj : 0 < j) (h : i.natAbs < 2 ^ 4000) : CDivP i j := divp_ok hj (Nat.le_trans (PyProof.Rows.intBits_le h) (Nat.le_add_left _ _))
theorem d_revL {ds : List PyData} (h : Dt K S te δ (.dat (.list ds))) : Dt K S (tRevL K te) δ (.dat (.list ds.reverse)) := fun r σ G H q w Q hQ => h r σ G H q w _ fun v s G2 H2 m w2 hv e => by
  subst e
  cases hv with
  | @lst a xs _ hx t =>
    refine ⟨a, xs, rfl, .inl (.inl (w2.sub _ _ hx)), fun p np => hQ _ (.dat (.list _)) _ _ (m.trans (Mv.new w2.sub np)) (w2.new np) (DD.lst upd_same (t.reverse.mono (Mv.new (M := S.M) w2.sub np).gr)) rfl⟩
theorem rv_catA {ds es : List PyData} (h : ds.length + es.length ≤ 100000) : RV K (rCatA K) (.dat (.tuple ds)) (.dat (.tuple es)) (fun z => z = .dat (.tuple (ds ++ es))) := fun x y G H hx hy hs Q hQ => by
  cases hx with
  | @tup a xs _ hl t =>
    cases hy with
    | @tup b ys _ hl2 t2 =>
      have e1 := t.len
      have e2 := t2.len
      refine ⟨a, b, xs, ys, rfl, rfl, .inl (.inl (hs _ _ hl)), .inl (.inl (hs _ _ hl2)), Nat.le_trans (by rw [e1, e2]; exact h) (by decide), fun z => ?_, fun _ z => ?_, fun _ _ p np => hQ _ (.dat (.tuple (ds ++ es))) _ _ (Mv.new hs np) (DD.tup upd_same ((t.append t2).mono (Mv.new (M := fun _ => False) hs np).gr)) rfl⟩
      · subst z
        have : ds = [] := List.eq_nil_of_length_eq_zero e1.symm
        subst this
        exact hQ _ (.dat (.tuple es)) G H (Mv.refl hs) (.tup hl2 t2) rfl
      · subst z
        have : es = [] := List.eq_nil_of_length_eq_zero e2.symm
        subst this
        exact hQ _ (.dat (.tuple ds)) G H (Mv.refl hs) (.tup hl t) (by rw [List.append_nil])
theorem ki_catA {X : Cx} (h : X.K = K) : OpR X (binaryOp .Add) (rCatA K) := by
  subst h
  exact op_catA
theorem dds_rg {G : Hp} : ∀ (n : Nat) (f : Nat → Int), DDs K G ((List.range n).map fun i => V.int (f i)) ((List.range n).map fun i => PyData.int (f i)) := fun n f => by
  have e1 : ((List.range n).map fun i => V.int (f i)) = ((List.range n).map f).map V.int := by rw [List.map_map]; rfl
  have e2 : ((List.range n).map fun i => PyData.int (f i)) = ((List.range n).map f).map PyData.int := by rw [List.map_map]; rfl
  rw [e1, e2]
  exact DDs.ofInts _
theorem d_listRg {n : Int} (h : Dt K S te δ (.i n)) (h0 : 0 ≤ n) (h1 : n ≤ 16777216) : Dt K S (tLstRg (tRg1 te)) δ (.dat (.list (rangeD 0 n.toNat))) := fun r σ G H q w Q hQ => h r σ G H q w _ fun v s G2 H2 m w2 hv e => by
  subst e
  cases hv
  refine ⟨n, rfl, RgOk.of_le (by omega) h1 (by omega) h0, fun p np => hQ _ (.dat (.list _)) _ _ (m.trans (Mv.new w2.sub np)) (w2.new np) (DD.lst upd_same ?_) rfl⟩
  show DDs K _ (rgV 0 n) _
  unfold rgV rangeD
  rw [Int.sub_zero]
  exact dds_rg _ _
theorem s_asgT {i j : Nat} {d e : PyData} (h : Dt K S te δ (.dat (.tuple [d, e]))) (hn : O.nx ((δ.set i (.dat d)).set j (.dat e))) : EvS K S (tAsg te (gTup K 2 (gCons (gName i) (gCons (gName j) gNil)))) δ 0 O := fun r σ G H q w D a _ _ _ => h r σ G H q w _ fun v s G2 H2 m w2 hv hs => by
  subst hs
  exact tg_pair v σ G2 H2 (q.mono m.gr) hv w2.sub _ fun σ2 q2 _ => a σ2 _ G2 H2 m w2 q2 hn
end
/-! a list or a tuple, walked -/
def iSeqX (K : PySem.W.Frag) (tl : TE) : TI := fun σ H R => tl σ H fun x H1 => ∃ a xs, x = .ref a ∧ ((SqL K H1 a xs ∧ R (Itl K a) H1) ∨ (SqT K H1 a xs ∧ R (Itt K a) H1))
theorem pi_seqX {X : Cx} {tg l : Expr} {tl : TE} (hl : PE X l tl) : PI X tg l (iSeqX X.K tl) := by
  refine ⟨fun pins s σ H R I h => ?_⟩
  refine thn (hl.run pins s σ H _ I h) fun v s1 ⟨x, H1, I1, r1, q1⟩ => ?_
  obtain ⟨a, xs, e, q | q⟩ := q1
  · obtain ⟨hq, q⟩ := q
    subst e
    cases r1
    obtain ⟨its, rv, p, hz⟩ := I1.list hq
    refine wpAny_pyIter_list p.isList ?_
    refine ⟨s1.heap.objs.size, [s1.heap.objs.size], _, _, H1, rfl, I1.kept (t' := s1.toks) fun b o e => Heap.get?_push_of_some _ e, turn_list a _, ⟨_, Heap.get?_push_size _ rfl, rfl, rfl⟩, fun b hb => ?_, q⟩
    have e : b = s1.heap.objs.size := by simpa using hb
    subst e
    exact I1.fpOk (Nat.le_refl _) (I1.hok.fresh (Nat.le_refl _))
  · obtain ⟨hq, q⟩ := q
    subst e
    cases r1
    obtain ⟨its, rv, p, hz⟩ := I1.tuple hq
    refine wpAny_pyIter_tuple (show s1.heap.IsTuple a its.toArray from p) ?_
    refine ⟨s1.heap.objs.size, [s1.heap.objs.size], _, _, H1, rfl, I1.kept (t' := s1.toks) fun b o e => Heap.get?_push_of_some _ e, turn_tuple a _, ⟨_, Heap.get?_push_size _ rfl, rfl, rfl⟩, fun b hb => ?_, q⟩
    have e : b = s1.heap.objs.size := by simpa using hb
    subst e
    exact I1.fpOk (Nat.le_refl _) (I1.hok.fresh (Nat.le_refl _))
theorem i_seq {K : PySem.W.Frag} {S : MS} {tl : TE} {δ : List SD} {d : PyData} {ds : List PyData} (h : Dt K S tl δ (.dat d)) (hs : IsSeq d ds) : EvI K S (iSeqX K tl) δ 0 ds := fun r σ G H q w R hR => h r σ G H q w _ fun v s G2 H2 m w2 hv e => by
  subst e
  rcases hs with rfl | rfl
  · cases hv with
    | @lst a xs _ hx ht =>
      refine ⟨a, xs, rfl, .inl ⟨.inl (.inl (w2.sub _ _ hx)), hR _ G2 H2 m w2 ⟨fun H => SqL K H a xs, _, by rw [← ht.len]; exact walk_list (xs := xs), fun G3 H3 m3 => .inl (.inl (m3.sub _ _ (m3.gr _ _ hx))), fun i d q G3 H3 x H4 hd m3 w3 y => ?_⟩⟩⟩
      obtain ⟨rfl, hy⟩ := y
      obtain ⟨d', h1, h2⟩ := ht.get hy
      cases h1.symm.trans hd
      exact ⟨G3, w3.refl, w3, h2.mono m3.gr⟩
  · cases hv with
    | @tup a xs _ hx ht =>
      refine ⟨a, xs, rfl, .inr ⟨.inl (.inl (w2.sub _ _ hx)), hR _ G2 H2 m w2 ⟨fun H => SqT K H a xs, _, by rw [← ht.len]; exact walk_tup (xs := xs), fun G3 H3 m3 => .inl (.inl (m3.sub _ _ (m3.gr _ _ hx))), fun i d q G3 H3 x H4 hd m3 w3 y => ?_⟩⟩⟩
      obtain ⟨rfl, hy⟩ := y
      obtain ⟨d', h1, h2⟩ := ht.get hy
      cases h1.symm.trans hd
      exact ⟨G3, w3.refl, w3, h2.mono m3.gr⟩
theorem d_lcI {K : PySem.W.Frag} {S : MS} {te : TE} {δ : List SD} {wi : TI} {g : TG} {vs : List Nat} {its : List PyData} {δg : PyData → List SD} {f : Nat → PyData} (hi : EvI K S wi δ 0 its) (hg : ∀ (j : Nat) (d : PyData), its[j]? = some d → Tg K g d (wipeD δ vs) (δg d) vs)
    (he : ∀ (j : Nat) (d : PyData), its[j]? = some d → Dt K S te (δg d) (.dat (f j))) (hn : its.length ≤ 100000) : Dt K S (tLc wi g tYes te vs) δ (.dat (.list ((List.range its.length).map f))) :=
  ((e_lc (k' := 0) (Ψ := fun j e => e = f j) hi hg (fun j d hd => (he j d hd).mono fun s hs => ⟨f j, hs, rfl⟩) hn).mono fun s ⟨ds, e, el, hp⟩ => by
    rw [e]
    congr 2
    refine List.ext_getElem? fun j => ?_
    rw [List.getElem?_map]
    by_cases hj : j < ds.length
    · rw [List.getElem?_eq_getElem hj, List.getElem?_range (by omega), hp j _ (List.getElem?_eq_getElem hj)]
      rfl
    · rw [List.getElem?_eq_none (by omega), List.getElem?_eq_none (by rw [List.length_range]; omega)]
      rfl).up (by omega)
theorem e_tupE {K : PySem.W.Frag} {S : MS} {te : TE} {δ : List SD} {k : Nat} {Ψ : List PyData → Prop} (h : Ev K S te δ k (fun s => ∃ l, s = .dat (.list l) ∧ Ψ l)) : Ev K S (tCB (fun xs H Q => ∃ p ys, xs = [.ref p] ∧ ((SqL K H p ys ∧ ∀ l, H l = none → Q (.ref l) (upd H l (.tup ys))) ∨ (SqT K H p ys ∧ Q (.ref p) H))) (tCons te tNil)) δ k (fun s => ∃ l, s = .dat (.tuple l) ∧ Ψ l) :=
  e_cb (a_last h) fun ss ⟨z, e, l, ez, hp⟩ => by
    subst e ez
    exact rc_tupL.mono fun z e => ⟨l, e, hp⟩
theorem e_pow {K : PySem.W.Frag} {S : MS} {δ : List SD} {C : Int → Int → Prop} {a n z : Int} (h : C a n) (e : a ^ n.toNat = z) : Dt K S (tOp (rI C fun i j => .int (i ^ j.toNat)) (tC (.int a)) (tC (.int n))) δ (.i z) := by
  subst e
  exact d_op e_int e_int (rv_I h fun _ => DD.int _)
theorem ak_consE {K : PySem.W.Frag} {S : MS} {δ : List SD} {k : Nat} {ta : TE} {tr : TA} {s : SD} {Φ Ψ : List SD → Prop} (ha : Dt K S ta δ s) (hr : EvA K S tr δ k Φ) (h : ∀ l, Φ l → Ψ (s :: l)) : EvA K S (tCons ta tr) δ k Ψ := fun r σ G H q w Q hQ => ak_cons ha hr r σ G H q w Q fun vs ss G2 H2 m w2 hv ⟨l, e, hl⟩ => hQ vs ss G2 H2 m w2 hv (by rw [e]; exact h l hl)
theorem a_consE {K : PySem.W.Frag} {S : MS} {δ : List SD} {k k' : Nat} {ta : TE} {tr : TA} {Φ : SD → Prop} {Φ' Ψ : List SD → Prop} (ha : Ev K S ta δ k Φ) (hr : EvA K S tr δ k' Φ') (h : ∀ s l, Φ s → Φ' l → Ψ (s :: l)) : EvA K S (tCons ta tr) δ (k + k') Ψ := fun r σ G H q w Q hQ => a_cons ha (fun _ _ => hr) r σ G H q w Q fun vs ss G2 H2 m w2 hv ⟨s, l, e, hs, hl⟩ => hQ vs ss G2 H2 m w2 hv (by rw [e]; exact h s l hs hl)
/-- an own list, that grows -/
def ow (l : Addr) : MS where
  M := fun a => a = l
  inv := fun _ _ H => ∃ xs, H l = some (.lst xs)
  dom := fun ⟨xs, h⟩ e => by
    subst e
    exact ⟨_, h⟩
  fr := fun ⟨xs, h⟩ _ k => ⟨xs, k _ _ rfl h⟩
  dn := fun h => h
end DL

namespace RT
open PySem PySem.Spec PyProof.Rows L2 HT
section
variable {prog : Program} {w : World} {A : Around} {E : Value → Shared → Prop} {s : Shared}
theorem adjust_rev (n : Nat) : Builtin.Slice.sliceAdjust none none (-1) (n : Int) = ((n : Int) - 1, -1) := by
  rfl
theorem places_rev (n : Nat) : Builtin.Slice.slicePlaces ((n : Int) - 1) (-1) (-1) = n := by
  unfold Builtin.Slice.slicePlaces
  have h1 : ¬ ((-1 : Int) > 0) := by omega
  simp only [h1, if_false, show (- -1 : Int) = 1 by decide, Int.ediv_one]
  split <;> omega
theorem applied_rev {sl : Addr} {vl vu vs : Value} {n : Nat} {Q : Int × Int × Nat → Shared → Prop} (hs : s.heap.IsSliceOf sl vl vu vs) (pl : IsPart vl none) (pu : IsPart vu none) (ps : IsPart vs (some (-1)))
    (h : Q ((n : Int) - 1, -1, n) s) : wpAny (model prog w) A (Builtin.Slice.sliceApplied (.ref sl) (pure (n : Int))) Q E s := by
  obtain ⟨os, hos, hcs, hds⟩ := id hs
  unfold Builtin.Slice.sliceApplied Builtin.Slice.sliceFields
  refine wpAny_bind (wpAny_bind (wpAny_field hos hds (x := vl) rfl (wpAny_bind (wpAny_field hos hds (x := vu) rfl (wpAny_bind (wpAny_field hos hds (x := vs) rfl (wpAny_pure ?_)))))))
  refine wpAny_bind (slicePart_ ps ?_)
  show wpAny _ _ (if ((-1 : Int) == 0) = true then _ else _) _ _ s
  rw [if_neg (by decide)]
  refine wpAny_bind (slicePart_ pl (wpAny_bind (slicePart_ pu (wpAny_bind (wpAny_pure ?_)))))
  show wpAny _ _ (match Builtin.Slice.sliceAdjust none none (-1) (n : Int) with | (lo, hi) => pure (lo, (-1 : Int), Builtin.Slice.slicePlaces lo hi (-1))) _ _ s
  rw [adjust_rev n]
  show wpAny _ _ (pure ((n : Int) - 1, (-1 : Int), Builtin.Slice.slicePlaces ((n : Int) - 1) (-1) (-1))) _ _ s
  rw [places_rev]
  exact wpAny_pure h
theorem fm_congr {α β : Type} {f g : α → Option β} : ∀ {l : List α}, (∀ x ∈ l, f x = g x) → l.filterMap f = l.filterMap g
  | [], _ => rfl
  | x :: l, h => by
    rw [List.filterMap_cons, List.filterMap_cons, h x (List.mem_cons_self ..), fm_congr fun y hy => h y (List.mem_cons_of_mem _ hy)]
theorem pick_rev (xs : Array Value) : ((List.range xs.size).filterMap fun (m : Nat) => xs[((xs.size : Int) - 1 + (m : Int) * (-1)).toNat]?).toArray = xs.toList.reverse.toArray := by
  have e : ((List.range xs.size).filterMap fun (m : Nat) => xs[((xs.size : Int) - 1 + (m : Int) * (-1)).toNat]?) = ((List.range xs.size).map fun k => xs.size - 1 - k).filterMap (xs[·]?) := by
    rw [List.filterMap_map]
    refine fm_congr fun m hm => ?_
    have hlt := List.mem_range.mp hm
    show xs[((xs.size : Int) - 1 + (m : Int) * (-1)).toNat]? = xs[xs.size - 1 - m]?
    rw [show ((xs.size : Int) - 1 + (m : Int) * (-1)).toNat = xs.size - 1 - m by omega]
  rw [e, PySem.W.krv_range, List.filterMap_reverse, PySem.W.krv_all]
theorem getRevT {t sl : Addr} {items : Array Value} {vl vu vs : Value} {Q : Value → Shared → Prop} (ht : IsTup s.heap t items) (hs : s.heap.IsSliceOf sl vl vu vs) (pl : IsPart vl none) (pu : IsPart vu none) (ps : IsPart vs (some (-1)))
    (h : Q (.ref s.heap.objs.size) { s with heap := s.heap.push { cls := .type "tuple", data := .seq items.toList.reverse.toArray } })
    (hsz : items.size ≤ sizeLine) : wpAny (model prog w) A (getItem (.ref t) (.ref sl)) Q E s := by
  have hok : sizeOk (.seq items.toList.reverse.toArray) := by
    show items.toList.reverse.toArray.size ≤ sizeLine
    rw [List.size_toArray, List.length_reverse, Array.length_toList]
    exact hsz
  obtain ⟨os, hos, hcs, hds⟩ := id hs
  have hTs : s.TypeIs (.ref sl) "slice" := ⟨os, hos, hcs⟩
  unfold getItem
  try with_reducible refine wpAny_holding ?_
  first | refine wpAny_bind (wpAny_pure ?_) | skip
  refine wpAny_bind (wpAny_sequenceKey ht.typeIs (by decide) ?_)
  refine wpAny_bind (wpAny_callSpecial?_slot (name := Str.ofString "__getitem__") ht.typeIs PyProof.Rows.slot_tuple_getitem
    (wpAny_call_entry PyProof.Rows.slot_tuple_getitem ht.typeIs entry_tuple_getitem ?_ (args_tuple_getitem _ _)))
  show wpAny _ _ (Builtin.Tuple.tupleItemsOf (.ref t) >>= _) _ _ s
  refine wpAny_bind (tupleItemsOf_ ht ?_)
  refine wpAny_bind (wpAny_typeOf hTs ?_)
  rw [if_pos (by decide)]
  refine wpAny_bind (applied_rev hs pl pu ps ?_)
  have hno : ¬ ((((items.size : Int) - 1) == 0 && (-1 : Int) == 1 && items.size == items.size) = true) := by
    rw [show ((-1 : Int) == 1) = false by decide]
    simp
  show wpAny _ _ (if (((items.size : Int) - 1) == 0 && (-1 : Int) == 1 && items.size == items.size) = true then _ else _) _ _ s
  rw [if_neg hno, pick_rev]
  first
    | exact wpAny_bind (m := Builtin.Tuple.tupleExact _) (wpAny_newObj_type (wpAny_pure ⟨_, rfl, wpAny_pure h⟩) hok)
    | exact wpAny_bind (m := Builtin.Tuple.tupleExact _) (wpAny_newObj_type (wpAny_bind (wpAny_pure (wpAny_pure ⟨_, rfl, wpAny_pure h⟩))) hok)
    | exact wpAny_bind (wpAny_bind (m := Builtin.Tuple.tupleExact _) (wpAny_newObj_type (wpAny_pure (wpAny_pure ⟨_, rfl, wpAny_pure h⟩)) hok))
    | exact wpAny_bind (wpAny_bind (m := Builtin.Tuple.tupleExact _) (wpAny_newObj_type (wpAny_pure ⟨_, rfl, wpAny_pure h⟩) hok))
end
def tRevT (K : PySem.W.Frag) (te : TE) : TE := fun σ H Q => te σ H fun x H1 => ∃ a xs, x = .ref a ∧ SqT K H1 a xs ∧ ∀ p, H1 p = none → Q (.ref p) (upd H1 p (.tup xs.reverse))
theorem pe_revT {X : Cx} {e : Expr} {te : TE} {k : Nat} {p1 p2 p3 pos : Pos} (he : PE X e te) : PE X (.Subscript e (.Slice none none (some (.UnaryOp .USub (.Constant (.int 1) k p1) p2)) p3) pos) (tRevT X.K te) := by
  refine ⟨fun pins s σ H Q I h => ?_⟩
  refine Subscript_ (thn (he.run pins s σ H _ I h) fun v s1 ⟨x, H1, I1, r1, q1⟩ => ?_)
  obtain ⟨a, xs, ex, hx, q⟩ := q1
  subst ex
  cases r1
  have hst : PO X (some (.UnaryOp .USub (.Constant (.int 1) k p1) p2)) (tPart (tUn (rU fun i => .int (-i)) (tC (.int 1)))) := po_some (pe_un un_neg pe_int)
  refine wpAny_Slice (thn (po_none.run pins s1 σ H1 (fun o H2 => o = none ∧ H2 = H1) I1 ⟨rfl, rfl⟩) fun vl s2 ⟨l, H2, I2, pl, el, e2⟩ => ?_)
  subst el e2
  refine thn (po_none.run pins s2 σ H2 (fun o H3 => o = none ∧ H3 = H2) I2 ⟨rfl, rfl⟩) fun vu s3 ⟨u, H3, I3, pu, eu, e3⟩ => ?_
  subst eu e3
  refine thn (hst.run pins s3 σ H3 (fun o H4 => o = some (-1) ∧ H4 = H3) I3 ⟨1, rfl, -1, rfl, rfl, rfl⟩) fun vs s4 ⟨o, H4, I4, ps, eo, e4⟩ => ?_
  subst eo e4
  have I5 : Inv X pins σ H4 { s4 with heap := s4.heap.push { cls := .type "slice", data := .fields #[vl, vu, vs] } } := I4.kept (t' := s4.toks) fun b ob q => Heap.get?_push_of_some _ q
  obtain ⟨its, r, ht, hz⟩ := I5.tuple hx
  have hlen := r.length
  show wpAny (model X.prog X.w) X.A (subscriptTail e (.Slice none none (some (.UnaryOp .USub (.Constant (.int 1) k p1) p2)) p3) (.ref a) (.ref s4.heap.objs.size)) (EP X pins σ Q) X.xe { s4 with heap := s4.heap.push { cls := .type "slice", data := .fields #[vl, vu, vs] } }
  refine tail_any (ops := [.ref a, .ref s4.heap.objs.size]) ht.typeIs PyProof.Rows.slot_tuple_getitem.lookup ?_ (by with_unfolding_all rfl)
  refine getRevT ht (Heap.IsSliceOf.new _ vl vu vs) pl pu ps ?_ (by rw [List.size_toArray]; omega)
  refine ⟨.ref _, _, I5.laid (t' := s4.toks) (o := .tup xs.reverse) (fun b ob q => Heap.get?_push_of_some _ q) (Nat.le_refl _) ?_, rfl, q _ (I5.hok.fresh (Nat.le_refl _))⟩
  exact ⟨by rw [List.length_reverse]; exact hz, _, r.reverse, IsTup.new _ _⟩
end RT

/-! x[::-1], of a list or a tuple -/
namespace RT
open PySem PySem.Spec PyProof.Rows L2 HT
def tRevQ (K : PySem.W.Frag) (te : TE) : TE := fun σ H Q => te σ H fun x H1 => (∃ a xs, x = .ref a ∧ SqL K H1 a xs ∧ ∀ p, H1 p = none → Q (.ref p) (upd H1 p (.lst xs.reverse))) ∨ ∃ a xs, x = .ref a ∧ SqT K H1 a xs ∧ ∀ p, H1 p = none → Q (.ref p) (upd H1 p (.tup xs.reverse))
theorem pe_revQ {X : Cx} {e : Expr} {te : TE} {k : Nat} {p1 p2 p3 pos : Pos} (he : PE X e te) : PE X (.Subscript e (.Slice none none (some (.UnaryOp .USub (.Constant (.int 1) k p1) p2)) p3) pos) (tRevQ X.K te) := by
  refine ⟨fun pins s σ H Q I h => ?_⟩
  refine Subscript_ (thn (he.run pins s σ H _ I h) fun v s1 ⟨x, H1, I1, r1, q1⟩ => ?_)
  have hst : PO X (some (.UnaryOp .USub (.Constant (.int 1) k p1) p2)) (tPart (tUn (rU fun i => .int (-i)) (tC (.int 1)))) := po_some (pe_un un_neg pe_int)
  refine wpAny_Slice (thn (po_none.run pins s1 σ H1 (fun o H2 => o = none ∧ H2 = H1) I1 ⟨rfl, rfl⟩) fun vl s2 ⟨l, H2, I2, pl, el, e2⟩ => ?_)
  subst el e2
  refine thn (po_none.run pins s2 σ H2 (fun o H3 => o = none ∧ H3 = H2) I2 ⟨rfl, rfl⟩) fun vu s3 ⟨u, H3, I3, pu, eu, e3⟩ => ?_
  subst eu e3
  refine thn (hst.run pins s3 σ H3 (fun o H4 => o = some (-1) ∧ H4 = H3) I3 ⟨1, rfl, -1, rfl, rfl, rfl⟩) fun vs s4 ⟨o, H4, I4, ps, eo, e4⟩ => ?_
  subst eo e4
  have I5 : Inv X pins σ H4 { s4 with heap := s4.heap.push { cls := .type "slice", data := .fields #[vl, vu, vs] } } := I4.kept (t' := s4.toks) fun b ob q => Heap.get?_push_of_some _ q
  rcases q1 with ⟨a, xs, ex, hx, q⟩ | ⟨a, xs, ex, hx, q⟩
  · subst ex
    cases r1
    obtain ⟨its, r, ht, hz⟩ := I5.list hx
    have hlen := r.length
    show wpAny (model X.prog X.w) X.A (subscriptTail e (.Slice none none (some (.UnaryOp .USub (.Constant (.int 1) k p1) p2)) p3) (.ref a) (.ref s4.heap.objs.size)) (EP X pins σ Q) X.xe { s4 with heap := s4.heap.push { cls := .type "slice", data := .fields #[vl, vu, vs] } }
    refine tail_any (ops := [.ref a, .ref s4.heap.objs.size]) ht.isList.typeIs (PySem.slot_list_getitem.lookup) ?_ (by with_unfolding_all rfl)
    refine wpAny_getItem_list_slice ht.isList (Heap.IsSliceOf.new _ vl vu vs) pl pu ps (by decide) ?_ (by rw [List.size_toArray]; omega)
    rw [PySem.W.krv_pick]
    refine ⟨.ref _, _, I5.laid (t' := s4.toks) (o := .lst xs.reverse) (fun b ob q => Heap.get?_push_of_some _ q) (Nat.le_refl _) ?_, rfl, q _ (I5.hok.fresh (Nat.le_refl _))⟩
    exact ⟨by rw [List.length_reverse]; exact hz, _, 0, r.reverse, Heap.get?_push_size _ rfl⟩
  · subst ex
    cases r1
    obtain ⟨its, r, ht, hz⟩ := I5.tuple hx
    have hlen := r.length
    show wpAny (model X.prog X.w) X.A (subscriptTail e (.Slice none none (some (.UnaryOp .USub (.Constant (.int 1) k p1) p2)) p3) (.ref a) (.ref s4.heap.objs.size)) (EP X pins σ Q) X.xe { s4 with heap := s4.heap.push { cls := .type "slice", data := .fields #[vl, vu, vs] } }
    refine tail_any (ops := [.ref a, .ref s4.heap.objs.size]) ht.typeIs PyProof.Rows.slot_tuple_getitem.lookup ?_ (by with_unfolding_all rfl)
    refine getRevT ht (Heap.IsSliceOf.new _ vl vu vs) pl pu ps ?_ (by rw [List.size_toArray]; omega)
    refine ⟨.ref _, _, I5.laid (t' := s4.toks) (o := .tup xs.reverse) (fun b ob q => Heap.get?_push_of_some _ q) (Nat.le_refl _) ?_, rfl, q _ (I5.hok.fresh (Nat.le_refl _))⟩
    exact ⟨by rw [List.length_reverse]; exact hz, _, r.reverse, IsTup.new _ _⟩
end RT

/-! own lists, that may change: beside the slots δ a world W tells what each own thing holds now -/
namespace DL
open PySem PySem.Spec PyProof.Rows L2 ZX RT
/-- what an own thing holds -/
inductive OC where
  | lst (ds : List PyData)
def OC.ok (K : PySem.W.Frag) (G : Hp) (o : HO) : OC → Prop
  | .lst ds => ∃ xs, o = .lst xs ∧ DDs K G xs ds
theorem OC.ok.mono {K : PySem.W.Frag} {G G' : Hp} {o : HO} {c : OC} (h : c.ok K G o) (g : ∀ a u, G a = some u → G' a = some u) : c.ok K G' o := by
  cases c with
  | lst ds =>
    obtain ⟨xs, e, d⟩ := h
    exact ⟨xs, e, d.mono g⟩
abbrev Own := List (Addr × OC)
def Own.has (W : Own) (l : Addr) : Prop := ∃ c, (l, c) ∈ W
/-- what may change, with what the own things hold -/
def ows (K : PySem.W.Frag) (S : MS) (W : Own) : MS where
  M := fun a => S.M a ∨ W.has a
  inv := fun r G H => S.inv r G H ∧ (W.map (·.1)).Nodup ∧ ∀ l c, (l, c) ∈ W → ¬ S.M l ∧ ∃ o, H l = some o ∧ c.ok K G o
  dom := fun ⟨h, _, hw⟩ m => by
    rcases m with m | ⟨c, m⟩
    · exact S.dom h m
    · obtain ⟨_, o, e, _⟩ := hw _ c m
      exact ⟨o, e⟩
  fr := fun ⟨h, nd, hw⟩ g k => ⟨S.fr h g fun a o m e => k a o (.inl m) e, nd, fun l c m => by
    obtain ⟨n, o, e, q⟩ := hw l c m
    exact ⟨n, o, k l o (.inr ⟨c, m⟩) e, q.mono g⟩⟩
  dn := fun ⟨h, hw⟩ => ⟨S.dn h, hw⟩
/-- a step of a statement: W before, W' behind -/
structure Ms (M : Addr → Prop) (W W' : Own) (G H G1 H1 : Hp) : Prop where
  gr : ∀ a o, G a = some o → G1 a = some o
  sub : ∀ a o, G1 a = some o → H1 a = some o
  old : ∀ a o, H a = some o → ¬ W.has a → G1 a = G a
  kp : ∀ a o, H a = some o → ¬ M a → ¬ W.has a → H1 a = some o
  dom : ∀ a o, H a = some o → ∃ u, H1 a = some u
  nw : ∀ a, W'.has a → W.has a ∨ H a = none
section
variable {K : PySem.W.Frag} {S : MS} {M : Addr → Prop} {W W1 W2 : Own} {G H G1 H1 G2 H2 : Hp}
theorem Ms.trans (x : Ms M W W1 G H G1 H1) (y : Ms M W1 W2 G1 H1 G2 H2) : Ms M W W2 G H G2 H2 := by
  have key : ∀ a o, H a = some o → ¬ W.has a → ¬ W1.has a := fun a o e n z => by
    rcases x.nw a z with q | q
    · exact n q
    · rw [e] at q
      cases q
  refine ⟨fun a o e => y.gr a o (x.gr a o e), y.sub, fun a o e n => ?_, fun a o e n1 n2 => ?_, fun a o e => ?_, fun a h => ?_⟩
  · obtain ⟨u, eu⟩ := x.dom a o e
    rw [y.old a u eu (key a o e n), x.old a o e n]
  · exact y.kp a o (x.kp a o e n1 n2) n1 (key a o e n2)
  · obtain ⟨u, eu⟩ := x.dom a o e
    exact y.dom a u eu
  · rcases y.nw a h with q | q
    · exact x.nw a q
    · refine .inr ?_
      cases e : H a with
      | none => rfl
      | some o =>
        obtain ⟨u, eu⟩ := x.dom a o e
        rw [eu] at q
        cases q
theorem Ms.ofMv (m : Mv (ows K S W).M G H G1 H1) : Ms S.M W W G H G1 H1 := ⟨m.gr, m.sub, fun a o e _ => m.old a o e, fun a o e n1 n2 => m.kp a o e fun z => z.elim n1 n2, m.dom, fun _ h => .inl h⟩
theorem Ms.toMv (m : Ms M [] W1 G H G1 H1) : Mv M G H G1 H1 := ⟨m.gr, m.sub, fun a o e => m.old a o e (fun ⟨_, z⟩ => nomatch z), fun a o e n => m.kp a o e n (fun ⟨_, z⟩ => nomatch z), m.dom⟩
end
/-! ## statements -/
structure OutW where
  nx : List SD → Own → Prop := fun _ _ => False
  rt : SD → Prop := fun _ => False
  bk : List SD → Own → Prop := fun _ _ => False
  ct : List SD → Own → Prop := fun _ _ => False
  E : XK := fun _ _ _ => True
  ex : Value → Option (List (Str × PyData)) → Prop := fun _ _ => False
/-- an error's fields -/
def FV (K : PySem.W.Frag) (G : Hp) (fs : List (Str × V)) (l : List (Str × PyData)) : Prop := fs.map (·.1) = l.map (·.1) ∧ DDs K G (fs.map (·.2)) (l.map (·.2))
/-- what may be raised is taken -/
def Thr (K : PySem.W.Frag) (S : MS) (W : Own) (G H : Hp) (r : Nat) (E : XK) (ex : Value → Option (List (Str × PyData)) → Prop) : Prop := ∀ cls fd W' G2 H2, Ms S.M W W' G H G2 H2 → Wd (ows K S W') r G2 H2 → ex cls fd →
  (fd = none → E cls none H2) ∧ ∀ l, fd = some l → ∀ dd fs, H2 dd = none → FV K G2 fs l → E cls (some dd) (upd H2 dd (.xd fs))
theorem Thr.at {K : PySem.W.Frag} {S : MS} {W W1 : Own} {G H G1 H1 : Hp} {r : Nat} {E : XK} {ex : Value → Option (List (Str × PyData)) → Prop} (x : Thr K S W G H r E ex) (m : Ms S.M W W1 G H G1 H1) : Thr K S W1 G1 H1 r E ex := fun cls fd W' G2 H2 m2 w e => x cls fd W' G2 H2 (m.trans m2) w e
theorem Thr.up {K : PySem.W.Frag} {S : MS} {W : Own} {G H : Hp} {r j : Nat} {E : XK} {ex : Value → Option (List (Str × PyData)) → Prop} (x : Thr K S W G H r E ex) : Thr K S W G H (r + j) E ex := fun cls fd W' G2 H2 m2 w e => x cls fd W' G2 H2 m2 (Wd.dn (j := j) w) e
theorem Thr.no {K : PySem.W.Frag} {S : MS} {W : Own} {G H : Hp} {r : Nat} {E : XK} : Thr K S W G H r E (fun _ _ => False) := fun _ _ _ _ _ _ _ z => z.elim
def EvW (K : PySem.W.Frag) (S : MS) (t : TS) (δ : List SD) (W : Own) (k : Nat) (O : OutW) : Prop :=
  ∀ r σ G H, SlD K G σ δ → Wd (ows K S W) (r + k) G H → ∀ D : Ends,
    (∀ σ' δ' W' G2 H2, Ms S.M W W' G H G2 H2 → Wd (ows K S W') r G2 H2 → SlD K G2 σ' δ' → O.nx δ' W' → D.nx σ' H2) →
    (∀ v s W' G2 H2, Ms S.M W W' G H G2 H2 → Wd (ows K S W') r G2 H2 → VD K G2 v s → O.rt s → D.rt v H2) →
    (∀ σ' δ' W' G2 H2, Ms S.M W W' G H G2 H2 → Wd (ows K S W') r G2 H2 → SlD K G2 σ' δ' → O.bk δ' W' → D.bk σ' H2) →
    (∀ σ' δ' W' G2 H2, Ms S.M W W' G H G2 H2 → Wd (ows K S W') r G2 H2 → SlD K G2 σ' δ' → O.ct δ' W' → D.ct σ' H2) → Thr K S W G H r O.E O.ex → t D σ H
section
variable {K : PySem.W.Frag} {S : MS} {te ta tb : TE} {tt : TT} {t u : TS} {δ : List SD} {W : Own} {k k' : Nat} {O : OutW} {Φ : SD → Prop} {s : SD}
theorem EvW.up (h : EvW K S t δ W k O) (hk : k ≤ k') : EvW K S t δ W k' O := fun r σ G H q w D => h r σ G H q (Wd.dn (j := k' - k) (w.eq (by omega))) D
/-- what leaves the own things as they are -/
theorem w_lift {O' : Out} (h : EvS K (ows K S W) t δ k O') (h1 : ∀ x, O'.nx x → O.nx x W) (h2 : ∀ x, O'.rt x → O.rt x) (h3 : ∀ x, O'.bk x → O.bk x W) (h4 : ∀ x, O'.ct x → O.ct x W) : EvW K S t δ W k O :=
  fun r σ G H q w D a b c d _ => h r σ G H q w D (fun σ' δ' G2 H2 m w2 q2 o => a σ' δ' W G2 H2 (.ofMv m) w2 q2 (h1 _ o)) (fun v s G2 H2 m w2 hv o => b v s W G2 H2 (.ofMv m) w2 hv (h2 _ o)) (fun σ' δ' G2 H2 m w2 q2 o => c σ' δ' W G2 H2 (.ofMv m) w2 q2 (h3 _ o)) (fun σ' δ' G2 H2 m w2 q2 o => d σ' δ' W G2 H2 (.ofMv m) w2 q2 (h4 _ o))
theorem w_next (h : O.nx δ W) : EvW K S tNext δ W 0 O := w_lift (O' := { nx := fun x => x = δ }) (s_next rfl) (fun x e => by rw [e]; exact h) (fun _ z => z.elim) (fun _ z => z.elim) (fun _ z => z.elim)
theorem w_ret (h : Ev K (ows K S W) te δ k O.rt) : EvW K S (tRet te) δ W k O := w_lift (O' := { rt := O.rt }) (s_ret h) (fun _ z => z.elim) (fun _ z => z) (fun _ z => z.elim) (fun _ z => z.elim)
theorem w_asg {i : Nat} (h : Ev K (ows K S W) te δ k Φ) (hn : ∀ s, Φ s → O.nx (δ.set i s) W) : EvW K S (tAsg te (gName i)) δ W k O :=
  w_lift (O' := { nx := fun x => ∃ s, Φ s ∧ x = δ.set i s }) (s_asg h fun s hs => ⟨s, hs, rfl⟩) (fun x ⟨s, hs, e⟩ => by rw [e]; exact hn s hs) (fun _ z => z.elim) (fun _ z => z.elim) (fun _ z => z.elim)
theorem w_seq {N : List SD → Own → Prop} (h1 : EvW K S t δ W k { O with nx := N }) (h2 : ∀ δ' W', N δ' W' → EvW K S u δ' W' k' O) : EvW K S (tSeq t u) δ W (k + k') O :=
  fun r σ G H q w D a b c d x => h1 (r + k') σ G H q (w.eq (by omega)) _
    (fun σ' δ' W' G2 H2 m w2 q2 n => h2 δ' W' n r σ' G2 H2 q2 w2 D (fun x y z f g m3 => a x y z f g (m.trans m3)) (fun x y z f g m3 => b x y z f g (m.trans m3)) (fun x y z f g m3 => c x y z f g (m.trans m3)) (fun x y z f g m3 => d x y z f g (m.trans m3)) (x.at m))
    (fun v s W' G2 H2 m w2 => b v s W' G2 H2 m (Wd.dn (j := k') w2)) (fun v s W' G2 H2 m w2 => c v s W' G2 H2 m (Wd.dn (j := k') w2)) (fun v s W' G2 H2 m w2 => d v s W' G2 H2 m (Wd.dn (j := k') w2)) x.up
theorem w_set {i : Nat} (h : Ev K (ows K S W) te δ k Φ) (hu : ∀ s, Φ s → EvW K S u (δ.set i s) W k' O) : EvW K S (tSeq (tAsg te (gName i)) u) δ W (k + k') O :=
  w_seq (N := fun δ' W' => ∃ s, Φ s ∧ δ' = δ.set i s ∧ W' = W) (w_asg h fun s hs => ⟨s, hs, rfl, rfl⟩) fun δ' W' ⟨s, hs, e, e2⟩ => by
    subst e e2
    exact hu s hs
theorem wd_set {i : Nat} (h : Dt K (ows K S W) te δ s) (hu : EvW K S u (δ.set i s) W k O) : EvW K S (tSeq (tAsg te (gName i)) u) δ W k O := (w_set (k' := k) h fun z hz => by
  subst hz
  exact hu).up (by omega)
theorem w_ifE {Φ : Bool → Prop} (h : EvT K (ows K S W) tt δ k Φ) (h1 : Φ true → EvW K S t δ W k' O) (h2 : Φ false → EvW K S u δ W k' O) : EvW K S (tIfS tt t u) δ W (k + k') O :=
  fun r σ G H q w D a b e f xx => h (r + k') σ G H q (w.eq (by omega)) _ fun x G2 H2 m w2 hs => by
    have mm := Ms.ofMv m
    cases x with
    | true => exact iteT (h1 hs r σ G2 H2 (q.mono m.gr) w2 D (fun x y z f g m3 => a x y z f g (mm.trans m3)) (fun x y z f g m3 => b x y z f g (mm.trans m3)) (fun x y z f g m3 => e x y z f g (mm.trans m3)) (fun x y z g l m3 => f x y z g l (mm.trans m3)) (xx.at mm))
    | false => exact iteF (h2 hs r σ G2 H2 (q.mono m.gr) w2 D (fun x y z f g m3 => a x y z f g (mm.trans m3)) (fun x y z f g m3 => b x y z f g (mm.trans m3)) (fun x y z f g m3 => e x y z f g (mm.trans m3)) (fun x y z g l m3 => f x y z g l (mm.trans m3)) (xx.at mm))
theorem w_if {c : Bool} (h : EvT K (ows K S W) tt δ 0 (fun x => x = c)) (h1 : c = true → EvW K S t δ W k O) (h2 : c = false → EvW K S u δ W k O) : EvW K S (tIfS tt t u) δ W k O := (w_ifE (k' := k) h (fun e => h1 e.symm) (fun e => h2 e.symm)).up (by omega)
theorem w_ifE0 {Φ : Bool → Prop} (h : EvT K (ows K S W) tt δ k Φ) (h1 : Φ true → EvW K S (tSeq t u) δ W k' O) (h2 : Φ false → EvW K S u δ W k' O) : EvW K S (tSeq (tIfS tt t tNext) u) δ W (k + k') O :=
  fun r σ G H q w D a b e f xx => h (r + k') σ G H q (w.eq (by omega)) _ fun x G2 H2 m w2 hs => by
    have mm := Ms.ofMv m
    cases x with
    | true => exact iteT (h1 hs r σ G2 H2 (q.mono m.gr) w2 D (fun x y z f g m3 => a x y z f g (mm.trans m3)) (fun x y z f g m3 => b x y z f g (mm.trans m3)) (fun x y z f g m3 => e x y z f g (mm.trans m3)) (fun x y z g l m3 => f x y z g l (mm.trans m3)) (xx.at mm))
    | false => exact iteF (h2 hs r σ G2 H2 (q.mono m.gr) w2 D (fun x y z f g m3 => a x y z f g (mm.trans m3)) (fun x y z f g m3 => b x y z f g (mm.trans m3)) (fun x y z f g m3 => e x y z f g (mm.trans m3)) (fun x y z g l m3 => f x y z g l (mm.trans m3)) (xx.at mm))
theorem w_if0 {c : Bool} (h : EvT K (ows K S W) tt δ 0 (fun x => x = c)) (h1 : c = true → EvW K S (tSeq t u) δ W k O) (h2 : c = false → EvW K S u δ W k O) : EvW K S (tSeq (tIfS tt t tNext) u) δ W k O := (w_ifE0 (k' := k) h (fun e => h1 e.symm) (fun e => h2 e.symm)).up (by omega)
theorem w_end (h : EvW K S t δ W k { O with nx := fun _ _ => False }) : EvW K S (tSeq t u) δ W k O := (w_seq (N := fun _ _ => False) (k' := 0) h fun _ _ z => z.elim).up (by omega)
theorem w_retSeq (h : Ev K (ows K S W) te δ k O.rt) : EvW K S (tSeq (tRet te) u) δ W k O := w_end (w_ret h)
end
end DL

namespace DL
open PySem PySem.Spec PyProof.Rows L2 ZX RT
theorem DDs.setAt {K : PySem.W.Frag} {G : Hp} {v : V} {d : PyData} (hv : DD K G v d) : ∀ {ds : List PyData} {vs : List V} {m : Nat}, DDs K G vs ds → DDs K G (vs.set m v) (ds.set m d)
  | _, _, _, .nil => .nil
  | _, _, 0, .cons _ t => .cons hv t
  | _, _, _ + 1, .cons h t => .cons h (DDs.setAt hv t)
section
variable {K : PySem.W.Frag} {S : MS} {te ta tb ti : TE} {tt : TT} {t u : TS} {δ : List SD} {W : Own} {k k' r : Nat} {O : OutW} {Φ : SD → Prop} {s : SD} {G H : Hp} {l : Addr} {ds : List PyData} {d : PyData} {j i : Nat}
theorem own_at {c : OC} (w : Wd (ows K S W) r G H) (hW : W[j]? = some (l, c)) : ¬ S.M l ∧ G l = none ∧ ∃ o, H l = some o ∧ c.ok K G o := by
  have hm := List.mem_of_getElem? hW
  obtain ⟨n, o, e, q⟩ := w.inv.2.2 l c hm
  exact ⟨n, w.no l (.inr ⟨c, hm⟩), o, e, q⟩
theorem own_lst (w : Wd (ows K S W) r G H) (hW : W[j]? = some (l, .lst ds)) : ¬ S.M l ∧ G l = none ∧ ∃ xs, H l = some (.lst xs) ∧ DDs K G xs ds := by
  obtain ⟨n, g, o, e, xs, rfl, q⟩ := own_at w hW
  exact ⟨n, g, xs, e, q⟩
/-- another content at one place -/
theorem own_put {c c' : OC} {o' : HO} (w : Wd (ows K S W) r G H) (hW : W[j]? = some (l, c)) (ho : c'.ok K G o') : Wd (ows K S (W.set j (l, c'))) r G (upd H l o') := by
  obtain ⟨nM, nG, o, e, q⟩ := own_at w hW
  obtain ⟨h1, nd, h2⟩ := w.inv
  have hj : j < W.length := (List.getElem?_eq_some_iff.mp hW).1
  have em : (W.set j (l, c')).map (·.1) = W.map (·.1) := by
    rw [List.map_set]
    refine List.ext_getElem? fun i => ?_
    by_cases hi : j = i
    · subst hi
      rw [List.getElem?_set_self (by rw [List.length_map]; exact hj), List.getElem?_map, hW]
      rfl
    · rw [List.getElem?_set_ne hi]
  have other : ∀ l' c2, (l', c2) ∈ W.set j (l, c') → (l' = l ∧ c2 = c') ∨ (l' ≠ l ∧ (l', c2) ∈ W) := fun l' c2 hm => by
    obtain ⟨i, hi⟩ := List.mem_iff_getElem?.mp hm
    by_cases hij : j = i
    · subst hij
      rw [List.getElem?_set_self hj] at hi
      cases hi
      exact .inl ⟨rfl, rfl⟩
    · rw [List.getElem?_set_ne hij] at hi
      refine .inr ⟨fun z => ?_, List.mem_of_getElem? hi⟩
      subst z
      have hi' : i < W.length := (List.getElem?_eq_some_iff.mp hi).1
      have e1 : (W.map (·.1))[i]'(by rw [List.length_map]; exact hi') = l' := by
        rw [List.getElem_map, (List.getElem?_eq_some_iff.mp hi).2]
      have e2 : (W.map (·.1))[j]'(by rw [List.length_map]; exact hj) = l' := by
        rw [List.getElem_map, (List.getElem?_eq_some_iff.mp hW).2]
      exact hij ((List.getElem_inj nd).mp (e2.trans e1.symm))
  refine ⟨fun a o e => ?_, fun a m => ?_, S.fr h1 (fun _ _ e => e) fun a o m e => ?_, by rw [em]; exact nd, fun l' c2 hm => ?_⟩
  · rw [upd_ne (ne_of_none e nG)]
    exact w.sub a o e
  · rcases m with m | ⟨c2, m⟩
    · exact w.no a (.inl m)
    · rcases other a c2 m with ⟨rfl, _⟩ | ⟨_, m⟩
      · exact nG
      · exact w.no a (.inr ⟨c2, m⟩)
  · rw [upd_ne (show a ≠ l from fun z => nM (z ▸ m))]
    exact e
  · rcases other l' c2 hm with ⟨rfl, rfl⟩ | ⟨ne, m⟩
    · exact ⟨nM, o', upd_same, ho⟩
    · obtain ⟨n, o2, e2, q2⟩ := h2 l' c2 m
      exact ⟨n, o2, by rw [upd_ne ne]; exact e2, q2⟩
theorem has_set {c c' : OC} (hW : W[j]? = some (l, c)) {a : Addr} (h : Own.has (W.set j (l, c')) a) : W.has a := by
  obtain ⟨c2, hm⟩ := h
  obtain ⟨i, hi⟩ := List.mem_iff_getElem?.mp hm
  have hj : j < W.length := (List.getElem?_eq_some_iff.mp hW).1
  by_cases hij : j = i
  · subst hij
    rw [List.getElem?_set_self hj] at hi
    cases hi
    exact ⟨c, List.mem_of_getElem? hW⟩
  · rw [List.getElem?_set_ne hij] at hi
    exact ⟨c2, List.mem_of_getElem? hi⟩
theorem ms_put {c c' : OC} {o' : HO} (w : Wd (ows K S W) r G H) (hW : W[j]? = some (l, c)) : Ms S.M W (W.set j (l, c')) G H G (upd H l o') := by
  obtain ⟨nM, nG, o, e, q⟩ := own_at w hW
  have hl : W.has l := ⟨c, List.mem_of_getElem? hW⟩
  refine ⟨fun _ _ e => e, fun a o e => ?_, fun _ _ _ _ => rfl, fun a o e _ n => ?_, fun a o e => ?_, fun a h => .inl (has_set hW h)⟩
  · rw [upd_ne (ne_of_none e nG)]
    exact w.sub a o e
  · rw [upd_ne (show a ≠ l from fun z => n (z ▸ hl))]
    exact e
  · by_cases ea : a = l
    · exact ⟨o', by rw [ea]; exact upd_same⟩
    · exact ⟨o, by rw [upd_ne ea]; exact e⟩
/-- a new own thing -/
theorem own_new {o : HO} {c : OC} {p : Addr} (w : Wd (ows K S W) r G H) (np : H p = none) (ho : c.ok K G o) : Wd (ows K S ((p, c) :: W)) r G (upd H p o) ∧ Ms S.M W ((p, c) :: W) G H G (upd H p o) := by
  have nG : G p = none := by
    cases e : G p with
    | none => rfl
    | some o =>
      rw [w.sub p o e] at np
      cases np
  have nM : ¬ S.M p := fun z => by
    obtain ⟨o, e⟩ := S.dom w.inv.1 z
    rw [e] at np
    cases np
  have sub : ∀ a u, G a = some u → upd H p o a = some u := fun a u e => by
    rw [upd_ne (ne_of_none e nG)]
    exact w.sub a u e
  obtain ⟨h1, nd, h2⟩ := w.inv
  refine ⟨⟨sub, fun a m => ?_, S.fr h1 (fun _ _ e => e) fun a u _ e => ?_, ?_, fun l' c2 hm => ?_⟩, ⟨fun _ _ e => e, sub, fun _ _ _ _ => rfl, fun a u e _ _ => ?_, fun a u e => ⟨u, ?_⟩, fun a ⟨c2, hm⟩ => ?_⟩⟩
  · rcases m with m | ⟨c2, m⟩
    · exact w.no a (.inl m)
    · rcases List.mem_cons.mp m with e | m
      · cases e
        exact nG
      · exact w.no a (.inr ⟨c2, m⟩)
  · rw [upd_ne (ne_of_none e np)]
    exact e
  · rw [List.map_cons, List.nodup_cons]
    refine ⟨fun hm => ?_, nd⟩
    obtain ⟨⟨a, c2⟩, hm2, ea⟩ := List.mem_map.mp hm
    obtain ⟨_, o2, e2, _⟩ := h2 a c2 hm2
    rw [show a = p from ea, np] at e2
    cases e2
  · rcases List.mem_cons.mp hm with e | m
    · cases e
      exact ⟨nM, o, upd_same, ho⟩
    · obtain ⟨n, o2, e2, q2⟩ := h2 l' c2 m
      exact ⟨n, o2, by rw [upd_ne (ne_of_none e2 np)]; exact e2, q2⟩
  · rw [upd_ne (ne_of_none e np)]
    exact e
  · rw [upd_ne (ne_of_none e np)]
    exact e
  · rcases List.mem_cons.mp hm with e | m
    · cases e
      exact .inr np
    · exact .inl ⟨c2, m⟩
theorem set_same_get {σ : L2.St} {i : Nat} {v : Option V} (h : σ[i]? = some v) : σ.set i v = σ := by
  obtain ⟨hi, e⟩ := List.getElem?_eq_some_iff.mp h
  rw [← e]
  exact List.set_getElem_self hi
/-- what is own is known from now on -/
theorem w_freeze (hW : W[j]? = some (l, .lst ds)) (hi : δ[i]? = some (.ref l)) (h : EvW K S t (δ.set i (.dat (.list ds))) (W.eraseIdx j) k O) : EvW K S t δ W k O := fun r σ G H q w D a b e f xx => by
  obtain ⟨nM, nG, xs, hl, dd⟩ := own_lst w hW
  have hj : j < W.length := (List.getElem?_eq_some_iff.mp hW).1
  obtain ⟨h1, nd, h2⟩ := w.inv
  have g1 : ∀ a o, G a = some o → upd G l (.lst xs) a = some o := fun a o e => by
    rw [upd_ne (ne_of_none e nG)]
    exact e
  have sub1 : ∀ a o, upd G l (.lst xs) a = some o → H a = some o := fun a o e => by
    by_cases ea : a = l
    · rw [ea, upd_same] at e
      rw [ea, ← e]
      exact hl
    · rw [upd_ne ea] at e
      exact w.sub a o e
  have hin : ∀ {a}, Own.has (W.eraseIdx j) a → W.has a := fun ⟨c, m⟩ => ⟨c, List.mem_of_mem_eraseIdx m⟩
  have hne : ∀ {a}, Own.has (W.eraseIdx j) a → a ≠ l := fun {a} ⟨c, m⟩ z => by
    subst z
    obtain ⟨i', hi', hn, e2⟩ := List.mem_eraseIdx_iff_getElem.mp m
    have e1 : (W.map (·.1))[j]'(by rw [List.length_map]; exact hj) = a := by rw [List.getElem_map, (List.getElem?_eq_some_iff.mp hW).2]
    have e3 : (W.map (·.1))[i']'(by rw [List.length_map]; exact hi') = a := by rw [List.getElem_map, e2]
    exact hn ((List.getElem_inj nd).mp (e3.trans e1.symm))
  have w' : Wd (ows K S (W.eraseIdx j)) (r + k) (upd G l (.lst xs)) H := by
    refine ⟨sub1, fun a m => ?_, S.fr h1 g1 fun _ _ _ e => e, ?_, fun l' c hm => ?_⟩
    · rcases m with m | m
      · rw [upd_ne (show a ≠ l from fun z => nM (z ▸ m))]
        exact w.no a (.inl m)
      · rw [upd_ne (hne m)]
        exact w.no a (.inr (hin m))
    · exact List.Pairwise.sublist ((List.eraseIdx_sublist W j).map _) nd
    · obtain ⟨n, o, e, q⟩ := h2 l' c (List.mem_of_mem_eraseIdx hm)
      exact ⟨n, o, e, q.mono g1⟩
  have q' : SlD K (upd G l (.lst xs)) σ (δ.set i (.dat (.list ds))) := by
    have e0 := q.ref hi
    have := (q.mono g1).set (s := .dat (.list ds)) (v := .ref l) (DD.lst upd_same (dd.mono g1)) i
    rwa [set_same_get e0] at this
  have fix : ∀ {W' G2 H2}, Ms S.M (W.eraseIdx j) W' (upd G l (.lst xs)) H G2 H2 → Ms S.M W W' G H G2 H2 := fun m => by
    refine ⟨fun a o e => m.gr a o (g1 a o e), m.sub, fun a o e n => ?_, fun a o e n1 n2 => m.kp a o e n1 fun z => n2 (hin z), m.dom, fun a h => (m.nw a h).imp hin fun z => z⟩
    have na : a ≠ l := fun z => n ⟨_, z ▸ List.mem_of_getElem? hW⟩
    rw [m.old a o e fun z => n (hin z), upd_ne na]
  exact h r σ _ H q' w' D (fun x y z g f m => a x y z g f (fix m)) (fun x y z g f m => b x y z g f (fix m)) (fun x y z g f' m => e x y z g f' (fix m)) (fun x y z g f' m => f x y z g f' (fix m)) (fun cls fd W' G2 H2 m2 w e => xx cls fd W' G2 H2 (fix m2) w e)
end
end DL

namespace DL
open PySem PySem.Spec PyProof.Rows L2 ZX RT
/-! ## walks that hold as long as what is known stays -/
def EvK (K : PySem.W.Frag) (S : MS) (wi : TI) (δ : List SD) (k : Nat) (its : List PyData) : Prop :=
  ∀ r σ G H, SlD K G σ δ → Wd S (r + k) G H → ∀ R : It → Hp → Prop,
    (∀ J G2 H2, Mv S.M G H G2 H2 → Wd S r G2 H2 → (∃ (A : Hp → Prop) (Y : Nat → Hp → V → Hp → Prop), Walk J its.length A Y ∧ (∀ H3, (∀ a o, G2 a = some o → H3 a = some o) → A H3) ∧
      ∀ i d G3 H3 x H4, its[i]? = some d → (∀ a o, G2 a = some o → G3 a = some o) → (∀ a o, G3 a = some o → H3 a = some o) → Y i H3 x H4 → ∃ G4, Mv (fun _ => False) G3 H3 G4 H4 ∧ DD K G4 x d) → R J H2) → wi σ H R
section
variable {K : PySem.W.Frag} {S : MS} {te tl : TE} {δ : List SD} {k k' : Nat} {d : PyData} {ds es : List PyData}
theorem EvK.evI {wi : TI} {its : List PyData} (h : EvK K S wi δ k its) : EvI K S wi δ k its := fun r σ G H q w R hR => h r σ G H q w R fun J G2 H2 m w2 ⟨A, Y, wk, hA, hY⟩ => hR J G2 H2 m w2 ⟨A, Y, wk, fun G3 H3 m3 => hA H3 fun a o e => m3.sub a o (m3.gr a o e), fun i d q G3 H3 x H4 hd m3 w3 y => by
  obtain ⟨G4, m4, dx⟩ := hY i d G3 H3 x H4 hd m3.gr w3.sub y
  exact ⟨G4, m4.weak fun _ f => f.elim, w3.pure m4, dx⟩⟩
theorem k_list (h : Dt K S tl δ (.dat (.list ds))) : EvK K S (iList K tl) δ 0 ds := fun r σ G H q w R hR => h r σ G H q w _ fun v s G2 H2 m w2 hv hs => by
  subst hs
  cases hv with
  | @lst a xs _ hx ht =>
    refine ⟨a, rfl, ⟨xs, .inl (.inl (w2.sub _ _ hx))⟩, hR _ G2 H2 m w2 ⟨fun H => SqL K H a xs, _, by rw [← ht.len]; exact walk_list (xs := xs), fun H3 g => .inl (.inl (g _ _ hx)), fun i d G3 H3 x H4 hd g1 g2 y => ?_⟩⟩
    obtain ⟨rfl, hy⟩ := y
    obtain ⟨d', h1, h2⟩ := ht.get hy
    cases h1.symm.trans hd
    exact ⟨G3, Mv.refl g2, h2.mono g1⟩
theorem k_tup (h : Dt K S tl δ (.dat (.tuple ds))) : EvK K S (iTup K tl) δ 0 ds := fun r σ G H q w R hR => h r σ G H q w _ fun v s G2 H2 m w2 hv hs => by
  subst hs
  cases hv with
  | @tup a xs _ hx ht =>
    refine ⟨a, rfl, ⟨xs, .inl (.inl (w2.sub _ _ hx))⟩, hR _ G2 H2 m w2 ⟨fun H => SqT K H a xs, _, by rw [← ht.len]; exact walk_tup (xs := xs), fun H3 g => .inl (.inl (g _ _ hx)), fun i d G3 H3 x H4 hd g1 g2 y => ?_⟩⟩
    obtain ⟨rfl, hy⟩ := y
    obtain ⟨d', h1, h2⟩ := ht.get hy
    cases h1.symm.trans hd
    exact ⟨G3, Mv.refl g2, h2.mono g1⟩
theorem k_seq (h : Dt K S tl δ (.dat d)) (hs : IsSeq d ds) : EvK K S (iSeqX K tl) δ 0 ds := fun r σ G H q w R hR => h r σ G H q w _ fun v s G2 H2 m w2 hv e => by
  subst e
  rcases hs with rfl | rfl
  · cases hv with
    | @lst a xs _ hx ht =>
      refine ⟨a, xs, rfl, .inl ⟨.inl (.inl (w2.sub _ _ hx)), hR _ G2 H2 m w2 ⟨fun H => SqL K H a xs, _, by rw [← ht.len]; exact walk_list (xs := xs), fun H3 g => .inl (.inl (g _ _ hx)), fun i d G3 H3 x H4 hd g1 g2 y => ?_⟩⟩⟩
      obtain ⟨rfl, hy⟩ := y
      obtain ⟨d', h1, h2⟩ := ht.get hy
      cases h1.symm.trans hd
      exact ⟨G3, Mv.refl g2, h2.mono g1⟩
  · cases hv with
    | @tup a xs _ hx ht =>
      refine ⟨a, xs, rfl, .inr ⟨.inl (.inl (w2.sub _ _ hx)), hR _ G2 H2 m w2 ⟨fun H => SqT K H a xs, _, by rw [← ht.len]; exact walk_tup (xs := xs), fun H3 g => .inl (.inl (g _ _ hx)), fun i d G3 H3 x H4 hd g1 g2 y => ?_⟩⟩⟩
      obtain ⟨rfl, hy⟩ := y
      obtain ⟨d', h1, h2⟩ := ht.get hy
      cases h1.symm.trans hd
      exact ⟨G3, Mv.refl g2, h2.mono g1⟩
theorem k_rev (h : Dt K S te δ (.dat d)) (hs : IsSeq d ds) : EvK K S (iRevA K te) δ 0 ds.reverse := fun r σ G H q w R hR => h r σ G H q w _ fun v s G2 H2 m w2 hv e => by
  subst e
  have fin : ∀ (xs : List V) (x : V) (i : Nat) (d' : PyData) (G3 : Hp), DDs K G2 xs ds → (∀ a o, G2 a = some o → G3 a = some o) → ds.reverse[i]? = some d' → xs[xs.length - 1 - i]? = some x → DD K G3 x d' := fun xs x i d' G3 t hk hd hy => by
    have hi : i < ds.length := by
      have := (List.getElem?_eq_some_iff.mp hd).1
      rwa [List.length_reverse] at this
    rw [List.getElem?_reverse hi, ← t.len] at hd
    obtain ⟨e, h1, h2⟩ := t.get hy
    cases h1.symm.trans hd
    exact h2.mono hk
  rcases hs with rfl | rfl
  · cases hv with
    | @lst a xs _ hx t =>
      refine ⟨a, xs, rfl, .inl ⟨.inl (.inl (w2.sub _ _ hx)), hR _ G2 H2 m w2 ⟨fun H => SqL K H a xs, _, by rw [List.length_reverse, ← t.len]; exact walk_rev, fun H3 g => .inl (.inl (g _ _ hx)), fun i d' G3 H3 x H4 hd g1 g2 y => ?_⟩⟩⟩
      obtain ⟨rfl, hy⟩ := y
      exact ⟨G3, Mv.refl g2, fin xs x i d' G3 t g1 hd hy⟩
  · cases hv with
    | @tup a xs _ hx t =>
      refine ⟨a, xs, rfl, .inr ⟨.inl (.inl (w2.sub _ _ hx)), hR _ G2 H2 m w2 ⟨fun H => SqT K H a xs, _, by rw [List.length_reverse, ← t.len]; exact walk_revT, fun H3 g => .inl (.inl (g _ _ hx)), fun i d' G3 H3 x H4 hd g1 g2 y => ?_⟩⟩⟩
      obtain ⟨rfl, hy⟩ := y
      exact ⟨G3, Mv.refl g2, fin xs x i d' G3 t g1 hd hy⟩
theorem k_rngE {ta : TA} {Φ : Int → Prop} {n : Int} (h : EvA K S ta δ k (fun l => l = [.i n])) (h1 : n < 2 ^ 62) (h0 : -(2 ^ 62) ≤ n) : EvK K S (iRng1 ta) δ k (rangeD 0 n.toNat) := fun r σ G H q w R hR => h r σ G H q w _ fun vs ss G2 H2 m w2 hv hs => by
  subst hs
  cases hv with
  | cons a b =>
    cases b
    cases a
    refine ⟨n, rfl, h0, h1, hR _ G2 H2 m w2 ⟨_, _, by rw [rangeD_len]; exact walk_range, fun _ _ => trivial, fun i d G3 H3 x H4 hd g1 g2 y => ?_⟩⟩
    obtain ⟨rfl, rfl⟩ := y
    obtain ⟨_, rfl⟩ := rangeD_get hd
    exact ⟨G3, Mv.refl g2, .int _⟩
theorem k_rng2 {ta : TA} {lo n : Int} (h : EvA K S ta δ 0 (fun l => l = [.i lo, .i n])) (h1 : -(2 ^ 62) ≤ lo ∧ lo < 2 ^ 62 ∧ -(2 ^ 62) ≤ n ∧ n < 2 ^ 62) : EvK K S (iRng2 ta) δ 0 (rangeD lo (n - lo).toNat) := fun r σ G H q w R hR => h r σ G H q w _ fun vs ss G2 H2 m w2 hv hs => by
  subst hs
  obtain ⟨v, u, rfl, hx, hy⟩ := vds2 hv
  cases hx
  cases hy
  refine ⟨lo, n, rfl, h1, hR _ G2 H2 m w2 ⟨_, _, by rw [rangeD_len]; exact walk_range, fun _ _ => trivial, fun i d G3 H3 x H4 hd g1 g2 y => ?_⟩⟩
  obtain ⟨rfl, rfl⟩ := y
  obtain ⟨_, rfl⟩ := rangeD_get hd
  exact ⟨G3, Mv.refl g2, .int _⟩
theorem k_zip {t : TA} {d1 d2 : PyData} (ha : EvA K S t δ 0 (fun l => l = [.dat d1, .dat d2])) (h1 : IsSeq d1 ds) (h2 : IsSeq d2 es) : EvK K S (iZipX K t) δ 0 (zipD ds es) := fun r σ G H q w R hR => ha r σ G H q w _ fun vs ss G2 H2 m w2 hv hs => by
  subst hs
  obtain ⟨v, u, rfl, hx, hy⟩ := vds2 hv
  obtain ⟨c, a, xs, rfl, t1, q1⟩ := sqX_of (H := H2) (show DD K G2 v d1 from hx) h1
  obtain ⟨e, b, ys, rfl, t2, q2⟩ := sqX_of (H := H2) (show DD K G2 u d2 from hy) h2
  refine ⟨c, e, a, b, xs, ys, rfl, q1 H2 w2.sub, q2 H2 w2.sub, hR _ G2 H2 m w2 ⟨fun H => SqX K c H a xs ∧ SqX K e H b ys, _, walkX (by rw [t1.len, t2.len]; simp [zipD]), fun H3 g => ⟨q1 H3 g, q2 H3 g⟩, fun i d' G3 H3 x H4 hd g1 g2 y => ?_⟩⟩
  obtain ⟨T, x1, x2, rfl, nT, rfl, e1, e2⟩ := y
  obtain ⟨f1, c1, k1⟩ := t1.get e1
  obtain ⟨f2, c2, k2⟩ := t2.get e2
  have ed : d' = .tuple [f1, f2] := by
    unfold zipD at hd
    rw [List.getElem?_zipWith, c1, c2] at hd
    exact (Option.some.inj hd).symm
  subst ed
  have mm : Mv (fun _ => False) G3 H3 (upd G3 T (.tup [x1, x2])) (upd H3 T (.tup [x1, x2])) := Mv.new g2 nT
  exact ⟨_, mm, DD.tup upd_same (.cons (k1.mono fun a o z => mm.gr _ _ (g1 _ _ z)) (.cons (k2.mono fun a o z => mm.gr _ _ (g1 _ _ z)) .nil))⟩
end
section
variable {K : PySem.W.Frag} {S : MS} {te ta tb ti : TE} {tt : TT} {t u : TS} {δ : List SD} {W : Own} {k k' : Nat} {O : OutW} {Φ : SD → Prop} {s : SD} {l : Addr} {ds : List PyData} {d : PyData} {j i : Nat}
theorem w_for {wi : TI} {g : TG} {tb : TS} {vs : List Nat} {its : List PyData} (I : Nat → List SD → Own → Prop) (hi : EvK K (ows K S W) wi δ k its) (h0 : I 0 δ W)
    (hs : ∀ (j : Nat) (d : PyData) δ' W', its[j]? = some d → I j δ' W' → ∃ δ2, Tg K g d δ' δ2 vs ∧ EvW K S tb δ2 W' k' { nx := I (j + 1), rt := O.rt, bk := O.nx, ct := I (j + 1), E := O.E, ex := O.ex }) (hd : ∀ δ' W', I its.length δ' W' → O.nx δ' W') :
    EvW K S (tFor wi g tb) δ W (k + k' * its.length) O :=
  fun r σ G H q w D a b _ _ xx => hi (r + k' * its.length) σ G H q (w.eq (by omega)) _ fun J G2 H2 m w2 ⟨A, Y, wk, hA, hY⟩ =>
    for_it wk (fun i σ' H3 => ∃ G3 δ' W', Ms S.M W W' G2 H2 G3 H3 ∧ Wd (ows K S W') (r + k' * (its.length - i)) G3 H3 ∧ SlD K G3 σ' δ' ∧ I i δ' W') ⟨G2, δ, W, .ofMv (K := K) w2.refl, w2, q.mono m.gr, h0⟩ (fun i σ' H3 _ ⟨G3, _, _, m3, _⟩ => hA H3 fun a o e => m3.sub a o (m3.gr a o e)) (by
      rintro i x σ' H3 H4 hlt ⟨G3, δ', W', m3, w3, q3, hI⟩ y
      have hd' : its[i]? = some its[i] := List.getElem?_eq_getElem hlt
      obtain ⟨G4, m4, dx⟩ := hY i its[i] G3 H3 x H4 hd' m3.gr w3.sub y
      have w4 := w3.pure m4
      have m34 : Ms S.M W W' G2 H2 G4 H4 := m3.trans (.ofMv (K := K) (m4.weak fun _ f => f.elim))
      obtain ⟨δ2, tg, hb⟩ := hs i its[i] δ' W' hd' hI
      refine tg x σ' G4 H4 (q3.mono m4.gr) dx w4.sub _ fun σ2 q2 _ => ?_
      refine hb (r + k' * (its.length - (i + 1))) σ2 G4 H4 q2 (w4.eq ?_) _ ?_ ?_ ?_ ?_ (xx.at ((Ms.ofMv m).trans m34)).up
      · have e : its.length - i = (its.length - (i + 1)) + 1 := by omega
        rw [e, Nat.mul_add, Nat.mul_one, Nat.add_assoc]
      · intro σ5 δ5 W5 G5 H5 m5 w5 q5 hI5
        exact ⟨G5, δ5, W5, m34.trans m5, w5, q5, hI5⟩
      · intro v s W5 G5 H5 m5 w5 hv hr
        exact b v s W5 G5 H5 ((Ms.ofMv m).trans (m34.trans m5)) (Wd.dn (j := k' * (its.length - (i + 1))) w5) hv hr
      · intro σ5 δ5 W5 G5 H5 m5 w5 q5 hn
        exact a σ5 δ5 W5 G5 H5 ((Ms.ofMv m).trans (m34.trans m5)) (Wd.dn (j := k' * (its.length - (i + 1))) w5) q5 hn
      · intro σ5 δ5 W5 G5 H5 m5 w5 q5 hI5
        exact ⟨G5, δ5, W5, m34.trans m5, w5, q5, hI5⟩) (by
      rintro σ' H3 ⟨G3, δ', W', m3, w3, q3, hI⟩
      exact a σ' δ' W' G3 H3 ((Ms.ofMv m).trans m3) (w3.eq (by rw [Nat.sub_self]; rfl)) q3 (hd δ' W' hI))
/-- x = [..]: an own list -/
theorem w_new {t : TA} {Φ : List SD → Prop} {i : Nat} (ha : EvA K (ows K S W) t δ k Φ) (h : ∀ ss, Φ ss → ∃ ds, dats ss ds ∧ ds.length ≤ 100000 ∧ ∀ l, EvW K S u (δ.set i (.ref l)) ((l, .lst ds) :: W) k' O) : EvW K S (tSeq (tAsg (tLst t) (gName i)) u) δ W (k + k') O :=
  fun r σ G H q w D a b e f xx => ha (r + k') σ G H q (w.eq (by omega)) _ fun vs ss G2 H2 m w2 hv hs => by
    obtain ⟨ds, hd, hl, hy⟩ := h ss hs
    have dd := dats_dd hv hd
    refine ⟨Nat.le_trans (by rw [dd.len]; exact hl) (by decide), fun p np => ?_⟩
    obtain ⟨w3, m3⟩ := own_new (c := .lst ds) w2 np ⟨_, rfl, dd⟩
    have mm := (Ms.ofMv m).trans m3
    exact hy p r _ G2 _ ((q.mono m.gr).set (s := .ref p) (v := .ref p) rfl i) w3 D (fun x y z g f m4 => a x y z g f (mm.trans m4)) (fun x y z g f m4 => b x y z g f (mm.trans m4)) (fun x y z g f m4 => e x y z g f (mm.trans m4)) (fun x y z g l m4 => f x y z g l (mm.trans m4)) (xx.at mm)
/-- x.append(e) -/
theorem w_app (hW : W[j]? = some (l, .lst ds)) (hi : δ[i]? = some (.ref l)) (he : Ev K (ows K S W) te δ k (fun s => ∃ d, s = .dat d ∧ O.nx δ (W.set j (l, .lst (ds ++ [d]))))) (hl : ds.length ≤ 100000) : EvW K S (tDrop (tBM K "list" rAppend (tVar i) (tCons te tNil))) δ W k O :=
  fun r σ G H q w D a b e f _ => by
    obtain ⟨_, _, xs0, h0, _⟩ := own_lst w hW
    refine ⟨.ref l, q.ref hi, .inl ⟨rfl, _, .inl (.inl h0)⟩, he r σ G H q w _ fun v s G2 H2 m w2 hv ⟨d, es, hn⟩ => ?_⟩
    subst es
    obtain ⟨_, nG, xs, hx, dd⟩ := own_lst w2 hW
    refine ⟨l, xs, v, rfl, rfl, hx, Nat.lt_of_le_of_lt (by rw [dd.len]; exact hl) (by decide), ?_⟩
    exact a σ δ _ G2 _ ((Ms.ofMv m).trans (ms_put w2 hW)) (own_put w2 hW ⟨_, rfl, dd.snoc hv⟩) (q.mono m.gr) hn
/-- x[n] = e -/
theorem w_setix {n : Int} {m : Nat} (hW : W[j]? = some (l, .lst ds)) (hi : δ[i]? = some (.ref l)) (he : Ev K (ows K S W) te δ k (fun s => ∃ d, s = .dat d ∧ O.nx δ (W.set j (l, .lst (ds.set m d))))) (hx : Dt K (ows K S W) ti δ (.i n)) (hn : ixN ds.length n = some m) : EvW K S (tAsg te (gSub (tVar i) ti rSetL)) δ W k O :=
  fun r σ G H q w D a b e f _ => he r σ G H q w _ fun v s G2 H2 m2 w2 hv ⟨d, es, ho⟩ => by
    subst es
    refine ⟨.ref l, (q.mono m2.gr).ref hi, hx r σ G2 H2 (q.mono m2.gr) w2 _ fun y s3 G3 H3 m3 w3 hy e3 => ?_⟩
    subst e3
    cases hy
    obtain ⟨_, nG, xs, hh, dd⟩ := own_lst w3 hW
    refine ⟨l, xs, n, m, rfl, rfl, hh, by rw [dd.len]; exact hn, ?_⟩
    exact a σ δ _ G3 _ (((Ms.ofMv m2).trans (.ofMv m3)).trans (ms_put w3 hW)) (own_put w3 hW ⟨_, rfl, DDs.setAt (hv.mono m3.gr) dd⟩) ((q.mono m2.gr).mono m3.gr) ho
end
end DL

namespace DL
open PySem PySem.Spec PyProof.Rows L2 ZX RT
section
variable {K : PySem.W.Frag} {S : MS} {te ta tb ti : TE} {tt : TT} {t u : TS} {δ : List SD} {W : Own} {k k' : Nat} {O : OutW} {Φ Ψ : SD → Prop} {s : SD} {l : Addr} {ds : List PyData} {d : PyData} {j i : Nat}
/-! ### own lists, read -/
theorem o_len (hW : W[j]? = some (l, .lst ds)) (hi : δ[i]? = some (.ref l)) : Dt K (ows K S W) (tCB (fun xs H Q => ∃ p ys, xs = [.ref p] ∧ (SqL K H p ys ∨ SqT K H p ys) ∧ Q (.int ys.length) H) (tCons (tVar i) tNil)) δ (.i ds.length) := fun r σ G H q w Q hQ => by
  obtain ⟨_, _, xs, h, dd⟩ := own_lst w hW
  exact ⟨.ref l, q.ref hi, l, xs, rfl, .inl (.inl (.inl h)), hQ _ (.i ds.length) G H w.refl w (by rw [dd.len]; exact DD.int _) rfl⟩
theorem o_tup (hW : W[j]? = some (l, .lst ds)) (hi : δ[i]? = some (.ref l)) : Dt K (ows K S W) (tCB (fun xs H Q => ∃ p ys, xs = [.ref p] ∧ ((SqL K H p ys ∧ ∀ l, H l = none → Q (.ref l) (upd H l (.tup ys))) ∨ (SqT K H p ys ∧ Q (.ref p) H))) (tCons (tVar i) tNil)) δ (.dat (.tuple ds)) := fun r σ G H q w Q hQ => by
  obtain ⟨_, _, xs, h, dd⟩ := own_lst w hW
  exact ⟨.ref l, q.ref hi, l, xs, rfl, .inl ⟨.inl (.inl h), fun p np => hQ _ (.dat (.tuple ds)) _ _ (Mv.new w.sub np) (w.new np) (DD.tup upd_same (dd.mono (Mv.new (M := S.M) w.sub np).gr)) rfl⟩⟩
theorem o_list (hW : W[j]? = some (l, .lst ds)) (hi : δ[i]? = some (.ref l)) : Dt K (ows K S W) (tCB (fun xs H Q => ∃ p ys, xs = [.ref p] ∧ (SqL K H p ys ∨ SqT K H p ys) ∧ ∀ l, H l = none → Q (.ref l) (upd H l (.lst ys))) (tCons (tVar i) tNil)) δ (.dat (.list ds)) := fun r σ G H q w Q hQ => by
  obtain ⟨_, _, xs, h, dd⟩ := own_lst w hW
  exact ⟨.ref l, q.ref hi, l, xs, rfl, .inl (.inl (.inl h)), fun p np => hQ _ (.dat (.list ds)) _ _ (Mv.new w.sub np) (w.new np) (DD.lst upd_same (dd.mono (Mv.new (M := S.M) w.sub np).gr)) rfl⟩
theorem o_ix {n : Int} (hW : W[j]? = some (l, .lst ds)) (hi : δ[i]? = some (.ref l)) (hx : Dt K (ows K S W) ti δ (.i n)) (hd : atI ds n = some d) : Dt K (ows K S W) (tOp (rIxL K) (tVar i) ti) δ (.dat d) := fun r σ G H q w Q hQ => by
  refine ⟨.ref l, q.ref hi, hx r σ G H q w _ fun y s3 G3 H3 m3 w3 hy e3 => ?_⟩
  subst e3
  cases hy
  obtain ⟨_, _, xs, h, dd⟩ := own_lst w3 hW
  obtain ⟨v, hv, dv⟩ := atI_dd dd hd
  exact ⟨l, xs, n, v, rfl, rfl, .inl (.inl h), hv, hQ v (.dat d) G3 H3 m3 w3 dv rfl⟩
/-- x = list(e): an own list -/
theorem w_newL {d : PyData} {xs : List PyData} {i : Nat} (h : Dt K (ows K S W) te δ (.dat d)) (hs : IsSeq d xs) (hu : ∀ l, EvW K S u (δ.set i (.ref l)) ((l, .lst xs) :: W) k O) : EvW K S (tSeq (tAsg (tCB (fun xs H Q => ∃ p ys, xs = [.ref p] ∧ (SqL K H p ys ∨ SqT K H p ys) ∧ ∀ l, H l = none → Q (.ref l) (upd H l (.lst ys))) (tCons te tNil)) (gName i)) u) δ W k O :=
  fun r σ G H q w D a b e f xx => h (r + k) σ G H q w _ fun v s G2 H2 m w2 hv hs2 => by
    subst hs2
    have sq : ∃ a ys, v = .ref a ∧ (SqL K H2 a ys ∨ SqT K H2 a ys) ∧ DDs K G2 ys xs := by
      rcases hs with rfl | rfl
      · cases hv with
        | @lst a ys _ hh t => exact ⟨a, ys, rfl, .inl (.inl (.inl (w2.sub _ _ hh))), t⟩
      · cases hv with
        | @tup a ys _ hh t => exact ⟨a, ys, rfl, .inr (.inl (.inl (w2.sub _ _ hh))), t⟩
    obtain ⟨p0, ys, rfl, hq, dd⟩ := sq
    refine ⟨p0, ys, rfl, hq, fun p np => ?_⟩
    obtain ⟨w3, m3⟩ := own_new (c := .lst xs) w2 np ⟨_, rfl, dd⟩
    have mm := (Ms.ofMv m).trans m3
    exact hu p r _ G2 _ ((q.mono m.gr).set (s := .ref p) (v := .ref p) rfl i) w3 D (fun x y z g f m4 => a x y z g f (mm.trans m4)) (fun x y z g f m4 => b x y z g f (mm.trans m4)) (fun x y z g f m4 => e x y z g f (mm.trans m4)) (fun x y z g l m4 => f x y z g l (mm.trans m4)) (xx.at mm)
end
/-! ### calls with the box, beside own things -/
section
variable {K : PySem.W.Frag} {b : Addr} {δ : List SD} {W : Own} {k c : Nat} {Ψ : SD → Prop}
/-- behind what the box alone may change -/
theorem ows_box {r r' : Nat} {G H G2 H2 : Hp} (w : Wd (ows K (bx b) W) r' G H) (m : Mv (bx b).M G H G2 H2) (w2 : Wd (bx b) r G2 H2) : Mv (ows K (bx b) W).M G H G2 H2 ∧ Wd (ows K (bx b) W) r G2 H2 := by
  obtain ⟨h1, nd, h2⟩ := w.inv
  refine ⟨m.weak fun a e => .inl e, m.sub, fun a ma => ?_, w2.inv, nd, fun l c hm => ?_⟩
  · rcases ma with ma | ⟨c, hm⟩
    · exact w2.no a ma
    · obtain ⟨n, o, e, q⟩ := h2 a c hm
      rw [m.old a o e]
      exact w.no a (.inr ⟨c, hm⟩)
  · obtain ⟨n, o, e, q⟩ := h2 l c hm
    exact ⟨n, o, m.kp l o e n, q.mono m.gr⟩
theorem ows_down {r : Nat} {G H : Hp} (w : Wd (ows K (bx b) W) r G H) : Wd (bx b) r G H := ⟨w.sub, fun a m => w.no a (.inl m), w.inv.1⟩
theorem o_callB {P : List PyData → Nat → (PyData → Prop) → Prop} {t : TA} {Φ : List SD → Prop} {E : XK} {i : Nat} (hi : δ[i]? = some (.ref b)) (ha : EvA K (ows K (bx b) W) t δ k Φ) (h : ∀ ss, Φ ss → ∃ ds Φ', dats ss ds ∧ P ds c Φ' ∧ ∀ d, Φ' d → Ψ (.dat d)) :
    Ev K (ows K (bx b) W) (tCall (spB K P) [] E (tCons (tVar i) t)) δ (k + c) Ψ := fun r σ G H q w Q hQ =>
  ⟨_, q.ref hi, ha (r + c) σ G H q (w.eq (by omega)) _ fun vs ss G2 H2 m w2 hvs hs => by
    obtain ⟨ds, Φ', hd, hp, hy⟩ := h ss hs
    rw [List.append_nil]
    exact ⟨b, vs, G2, ds, r, c, Φ', rfl, dats_dd hvs hd, ows_down w2, hp, fun v d G3 H3 m3 w3 dv hd => by
      obtain ⟨m4, w4⟩ := ows_box w2 m3 w3
      exact hQ v (.dat d) G3 H3 (m.trans m4) w4 dv (hy d hd)⟩⟩
theorem o_take {te : TE} {E : XK} {i : Nat} {m : Int} (hi : δ[i]? = some (.ref b)) (h : Dt K (ows K (bx b) W) te δ (.i m)) (h1 : 1 ≤ m) (h2 : m < 2 ^ 30) : Ev K (ows K (bx b) W) (tCall (spB K Rtake) [] E (tCons (tVar i) (tCons te tNil))) δ 1 (fun s => ∃ j, s = .i j ∧ 0 ≤ j ∧ j < m) :=
  (o_callB (c := 1) hi (da_cons h a_nil) fun ss e => ⟨[.int m], _, e ▸ ⟨rfl, trivial⟩, ⟨m, rfl, h1, h2, rfl, rfl⟩, fun d ⟨j, e, h0, h1⟩ => ⟨j, by rw [e], h0, h1⟩⟩).up (by omega)
theorem o_takeE {te : TE} {E : XK} {i : Nat} {lo hi' : Int} (hi : δ[i]? = some (.ref b)) (h : Ev K (ows K (bx b) W) te δ k (fun s => ∃ m, s = .i m ∧ lo ≤ m ∧ m ≤ hi')) (h1 : 1 ≤ lo) (h2 : hi' < 2 ^ 30) : Ev K (ows K (bx b) W) (tCall (spB K Rtake) [] E (tCons (tVar i) (tCons te tNil))) δ (k + 1) (fun s => ∃ j, s = .i j ∧ 0 ≤ j ∧ j < hi') :=
  (o_callB (c := 1) hi (a_last h) fun ss ⟨s, e, m, em, m1, m2⟩ => by
    subst e em
    exact ⟨[.int m], _, ⟨rfl, trivial⟩, ⟨m, rfl, by omega, by omega, rfl, rfl⟩, fun d ⟨j, e, h0, h1⟩ => ⟨j, by rw [e], h0, by omega⟩⟩)
end
/-! ## from a body to a promise -/
theorem ows_nil {K : PySem.W.Frag} {S : MS} {r : Nat} {G H : Hp} (w : Wd S r G H) : Wd (ows K S []) r G H := by
  refine ⟨w.sub, fun a m => ?_, w.inv, List.nodup_nil, fun l c m => (nomatch m)⟩
  rcases m with m | ⟨c, m⟩
  · exact w.no a m
  · exact (nomatch m)
section
variable {P : Program} {w : World} {K : PySem.W.Frag} {mg : Str → Option Value} {base : Heap}
theorem fnW_pure {x qual : Str} {st : Stmt} {f : Addr} {fd : FuncData} {N ps : List Str} {k : Nat} {R : List PyData → PyData → Prop} (F : Fun K x qual st f fd) (Sc : FnScope N ps (defScope st)) (len : ∀ ds d, R ds d → ds.length = ps.length)
    (body : ∀ (cdv : Value) (A : Around) (outer : List Env) (s : Shared) (H : Hp) (E : XK), Room k (A.deeper (envOfC qual (defScope st) s.heap.objs.size f cdv)) →
      ∃ t, PSs (cxOf CX0 P w K mg base N qual (defScope st) f cdv A outer s H E).nox (defBody st) t ∧ ∀ ds d, R ds d → EvW K pu t (startD N ds) [] 0 { rt := fun z => z = .dat d }) : FnOk P w K mg base CX0 (k + 1) f fd ps (spP K R) := by
  refine F.ok Sc (fun vs H Q E h => ?_) (fun cdv A outer s H vs Q E hr h => ?_)
  · obtain ⟨G, ds, d, _, dd, hp, _⟩ := h
    rw [dd.len]
    exact len ds d hp
  · obtain ⟨G, ds, d, hs, dd, hp, q⟩ := h
    obtain ⟨t, ht, hb⟩ := body cdv A outer s H E hr
    refine ⟨t, ht, hb ds d hp 0 _ G H (start_slots dd) (ows_nil (wd_pu hs)) _ (fun _ _ _ _ _ _ _ _ z => z.elim) (fun v z W' G2 H2 m _ hv hz => ?_) (fun _ _ _ _ _ _ _ _ z => z.elim) (fun _ _ _ _ _ _ _ _ z => z.elim) Thr.no⟩
    subst hz
    exact q v G2 H2 m.toMv hv
theorem fnW_box {x qual : Str} {st : Stmt} {f : Addr} {fd : FuncData} {N ps : List Str} {k : Nat} {R : List PyData → Nat → (PyData → Prop) → Prop} (F : Fun K x qual st f fd) (Sc : FnScope N ps (defScope st)) (len : ∀ ds c Φ, R ds c Φ → ds.length + 1 = ps.length)
    (body : ∀ (cdv : Value) (A : Around) (outer : List Env) (s : Shared) (H : Hp) (E : XK), Room k (A.deeper (envOfC qual (defScope st) s.heap.objs.size f cdv)) →
      ∃ t, PSs (cxOf CX0 P w K mg base N qual (defScope st) f cdv A outer s H E).nox (defBody st) t ∧ ∀ b ds c Φ, R ds c Φ → EvW K (bx b) t (startB N b ds) [] c { rt := fun z => ∃ d, z = .dat d ∧ Φ d }) : FnOk P w K mg base CX0 (k + 1) f fd ps (spB K R) := by
  refine F.ok Sc (fun vs H Q E h => ?_) (fun cdv A outer s H vs Q E hr h => ?_)
  · obtain ⟨b, vs', G, ds, r, c, Φ, rfl, dd, _, hp, _⟩ := h
    rw [List.length_cons, dd.len]
    exact len ds c Φ hp
  · obtain ⟨b, vs', G, ds, r, c, Φ, rfl, dd, hw, hp, q⟩ := h
    obtain ⟨t, ht, hb⟩ := body cdv A outer s H E hr
    refine ⟨t, ht, hb b ds c Φ hp r _ G H (start_box dd) (ows_nil hw) _ (fun _ _ _ _ _ _ _ _ z => z.elim) (fun v z W' G2 H2 m w2 hv hz => ?_) (fun _ _ _ _ _ _ _ _ z => z.elim) (fun _ _ _ _ _ _ _ _ z => z.elim) Thr.no⟩
    obtain ⟨d, rfl, hd⟩ := hz
    exact q v d G2 H2 m.toMv (ows_down w2) hv hd
end
end DL

namespace DL
open PySem PySem.Spec PyProof.Rows L2 ZX RT
section
variable {K : PySem.W.Frag} {S : MS} {te ta tb tl : TE} {tt : TT} {δ : List SD} {k k' : Nat} {d : PyData} {ds : List PyData}
/-- [e for .. in .. if c], by the place of what is walked -/
theorem d_lcIf {wi : TI} {g : TG} {vs : List Nat} {its : List PyData} {δg : PyData → List SD} {p : Nat → Bool} {f : Nat → PyData} (hi : EvI K S wi δ 0 its) (hg : ∀ (j : Nat) (d : PyData), its[j]? = some d → Tg K g d (wipeD δ vs) (δg d) vs)
    (hp : ∀ (j : Nat) (d : PyData), its[j]? = some d → EvT K S tt (δg d) 0 (fun x => x = p j)) (he : ∀ (j : Nat) (d : PyData), its[j]? = some d → p j = true → Dt K S te (δg d) (.dat (f j))) (hn : its.length ≤ 100000) :
    Dt K S (tLc wi g tt te vs) δ (.dat (.list (((List.range its.length).filter p).map f))) :=
  fun r σ G H q w Q hQ => hi r σ G H q w _ fun J G2 H2 m w2 ⟨A, Y, wk, hA, hY⟩ D nD => by
    have nG : G2 D = none := by
      cases e : G2 D with
      | none => rfl
      | some o =>
        rw [w2.sub D o e] at nD
        cases nD
    have nM : ¬ S.M D := fun z => by
      obtain ⟨o, e⟩ := S.dom w2.inv z
      rw [e] at nD
      cases nD
    have step : ∀ i, ((List.range (i + 1)).filter p).map f = ((List.range i).filter p).map f ++ if p i = true then [f i] else [] := fun i => by
      rw [List.range_succ, List.filter_append, List.map_append]
      congr 1
      by_cases h : p i = true
      · rw [if_pos h]
        simp [h]
      · rw [if_neg h]
        simp [h]
    refine lc_it wk (fun i H3 => ∃ G3 acc, Mv S.M G2 H2 G3 H3 ∧ G3 D = none ∧ H3 D = some (.lst acc) ∧ Wd S r G3 H3 ∧ DDs K G3 acc (((List.range i).filter p).map f))
      ⟨G2, [], w2.refl.loc nD nG, nG, upd_same, w2.loc nG nM, .nil⟩ (fun i H3 _ ⟨G3, acc, m3, _⟩ => hA G3 H3 m3) ?_ ?_
    · rintro i x H3 H4 hi ⟨G3, acc, m3, n3, h3, w3, dd⟩ y
      have hd : its[i]? = some its[i] := List.getElem?_eq_getElem hi
      obtain ⟨G4, m4, w4, dx⟩ := hY i its[i] _ G3 H3 x H4 hd m3 w3 y
      have n4 : G4 D = none := (m4.old D _ h3).trans n3
      have h4 : H4 D = some (.lst acc) := m4.kp D _ h3 nM
      refine Tg.wiped (hg i _ hd) (q.mono fun a o e => m4.gr a o (m3.gr a o (m.gr a o e))) dx w4.sub (wipe_idem σ vs) fun σ2 q2 e2 => ⟨e2, ?_⟩
      refine hp i _ hd r σ2 G4 H4 q2 w4 _ fun c G5 H5 m5 w5 hc => ?_
      have n5 : G5 D = none := (m5.old D _ h4).trans n4
      have h5 : H5 D = some (.lst acc) := m5.kp D _ h4 nM
      subst hc
      by_cases hpi : p i = true
      · rw [if_pos hpi]
        refine he i _ hd hpi r σ2 G5 H5 (q2.mono m5.gr) w5 _ fun v s G6 H6 m6 w6 hv hs => ?_
        subst hs
        have n6 : G6 D = none := (m6.old D _ h5).trans n5
        have h6 : H6 D = some (.lst acc) := m6.kp D _ h5 nM
        refine ⟨acc, h6, ?_, G6, acc ++ [v], (m3.trans (m4.trans (m5.trans m6))).loc nD n6, n6, upd_same, w6.loc n6 nM, ?_⟩
        · rw [dd.len, List.length_map]
          refine Nat.lt_of_le_of_lt (Nat.le_trans (List.length_filter_le _ _) (show (List.range i).length ≤ 100000 by rw [List.length_range]; omega)) (by decide)
        · rw [step, if_pos hpi]
          exact (dd.mono fun a o z => m6.gr a o (m5.gr a o (m4.gr a o z))).snoc hv
      · rw [if_neg hpi]
        refine ⟨G5, acc, m3.trans (m4.trans m5), n5, h5, w5, ?_⟩
        rw [step, if_neg hpi, List.append_nil]
        exact dd.mono fun a o z => m5.gr a o (m4.gr a o z)
    · rintro H3 ⟨G3, acc, m3, n3, h3, w3, dd⟩
      exact hQ (.ref D) (.dat (.list _)) (upd G3 D (.lst acc)) H3 (m.trans (m3.know nD n3 h3)) (w3.know h3 nM) (DD.lst upd_same (dd.mono fun a o e => by
        rw [upd_ne (ne_of_none e n3)]
        exact e)) rfl
theorem rc_sum {ns : List Int} : RC K (rSum K) [.dat (.list (ns.map .int))] (fun z => z = .i ns.sum) := fun vs G H hv hs Q hQ => by
  obtain ⟨v, rfl, hx⟩ := vds1 hv
  cases hx with
  | @lst a xs _ hl t =>
    have e := t.ints
    subst e
    exact ⟨a, ns, rfl, .inl (.inl (hs _ _ hl)), hQ _ (.i _) G H (Mv.refl hs) (DD.int _) rfl⟩
theorem rc_any {bs : List Bool} : RC K (rAny K) [.dat (.list (bs.map .bool))] (fun z => z = .b (bs.any id)) := fun vs G H hv hs Q hQ => by
  obtain ⟨v, rfl, hx⟩ := vds1 hv
  cases hx with
  | @lst a xs _ hl t =>
    have e := t.bls
    subst e
    exact ⟨a, bs, rfl, .inl (.inl (hs _ _ hl)), hQ _ (.b _) G H (Mv.refl hs) (DD.bl _) rfl⟩
/-- one sign of a text -/
theorem rv_ixS {z : Str} {i : Int} {c : Nat} (hz : z.length ≤ 1000000) (h : atI z.cps.toList i = some c) : RV K rIxS (.dat (.str z)) (.i i) (fun y => y = .dat (.str ⟨#[c]⟩)) := fun x y G H hx hy hs Q hQ => by
  cases hx
  cases hy
  exact ⟨z, i, c, rfl, rfl, Nat.le_trans hz (by decide), h, hQ _ (.dat (.str _)) G H (Mv.refl hs) (DD.str _) rfl⟩
/-- enumerate -/
def enumD (ds : List PyData) : List PyData := (List.range ds.length).map fun i => .tuple [.int (i : Nat), ds.getD i .none]
theorem k_enum {t : TA} (ha : EvA K S t δ 0 (fun l => l = [.dat (.list ds)])) : EvK K S (iEnum K t) δ 0 (enumD ds) := fun r σ G H q w R hR => ha r σ G H q w _ fun vs ss G2 H2 m w2 hv hs => by
  subst hs
  obtain ⟨v, rfl, hx⟩ := vds1 hv
  cases hx with
  | @lst a xs _ hl t =>
    refine ⟨a, xs, rfl, .inl (.inl (w2.sub _ _ hl)), hR _ G2 H2 m w2 ⟨fun H => SqL K H a xs, _, by rw [show (enumD ds).length = xs.length by unfold enumD; rw [List.length_map, List.length_range, t.len]]; exact walk_enum, fun H3 g => .inl (.inl (g _ _ hl)), fun i d G3 H3 x H4 hd g1 g2 y => ?_⟩⟩
    obtain ⟨T, x1, x2, rfl, nT, rfl, e1, e2⟩ := y
    cases e1
    obtain ⟨d', c1, k1⟩ := t.get e2
    have ed : d = .tuple [.int (i : Nat), d'] := by
      unfold enumD at hd
      have hi : i < ds.length := (List.getElem?_eq_some_iff.mp c1).1
      rw [List.getElem?_map, List.getElem?_range hi] at hd
      have := (Option.some.inj hd).symm
      rw [this]
      show PyData.tuple [.int (i : Nat), ds.getD i .none] = _
      rw [List.getD_eq_getElem?_getD, c1]
      rfl
    subst ed
    have mm : Mv (fun _ => False) G3 H3 (upd G3 T (.tup [.int (i : Nat), x2])) (upd H3 T (.tup [.int (i : Nat), x2])) := Mv.new g2 nT
    exact ⟨_, mm, DD.tup upd_same (.cons (.int _) (.cons (k1.mono fun a o z => mm.gr _ _ (g1 _ _ z)) .nil))⟩
end
section
variable {K : PySem.W.Frag} {S : MS} {te ti : TE} {t u : TS} {δ : List SD} {W : Own} {k k' : Nat} {O : OutW} {l : Addr} {ds : List PyData} {d : PyData} {j i : Nat}
/-- x.reverse() -/
theorem w_rev (hW : W[j]? = some (l, .lst ds)) (hi : δ[i]? = some (.ref l)) (hn : O.nx δ (W.set j (l, .lst ds.reverse))) : EvW K S (tDrop (tBM0 K "list" rReverse (tVar i))) δ W 0 O :=
  fun r σ G H q w D a b e f _ => by
    obtain ⟨_, _, xs, h0, dd⟩ := own_lst w hW
    refine ⟨.ref l, q.ref hi, .inl ⟨rfl, _, .inl (.inl h0)⟩, l, xs, rfl, rfl, h0, ?_⟩
    exact a σ δ _ G _ (ms_put w hW) (own_put w hW ⟨_, rfl, dd.reverse⟩) q hn
end
section
variable {X : Cx} {K : PySem.W.Frag}
theorem ki_sum (h : X.K = K) (hc : X.calm = true) : CallR X (.builtin "sum") (rSum K) := by
  subst h
  exact cr_sum hc
theorem ki_any (h : X.K = K) (hc : X.calm = true) : CallR X (.builtin "any") (rAny K) := by
  subst h
  exact cr_any hc
theorem ki_in (h : X.K = K) : OpR X (compareOp .In) (rIn K false) := by
  subst h
  exact op_in_seq
end
end DL

set_option maxHeartbeats 2000000
/-! own errors with one field, over any built-in error -/
namespace XG
section
open PySem PySem.W PySem.Calls PyProof.Rows PySem.HandSPX Builtin Builtin.ObjectAttr
variable {prog : Program} {w : World} {A : Around} {E : Value → Shared → Prop} {R : Result → Shared → Prop} {h0 : Heap} {g : Array GenState} {d : Drawn} {t : Nat} {os : OsState}
/-- the first field of a fresh error -/
theorem osaG {K : Frag} {name : Str} {tk : Tok} {v : Value} {x C : Addr} {fv : Array Value} {cd : ClassData} (X : K.In h0) (gx : h0.get? x = some { cls := .ref C, data := .fields fv }) (hcd : clsIn K C = some cd)
    (pass : ∀ self, refuseLoop self "__setattr__" cd.mro = pure ()) (hob : cd.mro.contains (.type "object") = true) (ne : cd.mro.isEmpty = false) (hh : cd.hasDict = true) (ha : findIn K (.ref C) name = some none)
    (kq : ∀ h1 tk1 dx, (∀ b o, b ≠ x → h0.get? b = some o → h1.get? b = some o) → h0.objs.size ≤ dx → dx ≠ x → h1.get? x = some { cls := .ref C, dict := some dx, data := .fields fv } → h1.Ns1 dx (fun y => if y = name then some v else none) → R (.ok (.ret .none)) ⟨h1, g, d, tk1, os⟩) :
    codeAny (model prog w) A (.call (.builtin "object.__setattr__") ⟨[.ref x, .str name tk, v], []⟩) R ⟨h0, g, d, t, os⟩ := by
  have J : InstAt h0 x { cls := .ref C, data := .fields fv } C none := ⟨gx, rfl, rfl, trivial⟩
  have SO := PySem.F.store_object
  have xs : x ≠ h0.objs.size := Nat.ne_of_lt (Heap.lt_size gx)
  have sb : Looks (model prog w) h0 (isInstance (.ref x) (.type "object")) true := J.type.andThen (looks_mroIn X (by unfold mroIn; rw [hcd, Option.bind_some, if_neg (by rw [ne]; decide), hob]))
  refine codeAny_call_builtin SO.slot.plain SO.entry (@check_slot (model prog w) _ _ ⟨h0, g, d, t, os⟩ "object.__setattr__" "object" "__setattr__" (.ref x) [.str name tk, v] [] _ SO.kind SO.split sb (SO.args (.ref x) (.str name tk) v) ?_)
  have mr : Looks (model prog w) h0 (mroOf (.ref C)) cd.mro := (looks_clsIn X hcd).andThen .now
  have no3 : Looks (model prog w) h0 (storeTaker? none) none := .now
  have cl : Looks (model prog w) h0 (classData C) cd := looks_clsIn X hcd
  rw [osa_eq, refuse_eq]
  refine wpAny_bind (wpAny_bind (J.type.at (wpAny_bind (mr.at ?_))))
  rw [pass]
  refine wpAny_pure (wpAny_bind (J.type.at (wpAny_bind ((looks_findIn X ha).at (wpAny_bind (no3.at ?_))))))
  show wpAny _ _ (storeInOwnDict (.ref x) (.ref C) (.str name tk) name v false) _ _ _
  obtain ⟨c1, c2, c3, c4, c5, hd, c7, c8, c9, c10, c11⟩ := cd
  dsimp only at hh
  subst hh
  unfold storeInOwnDict ownDictForStores
  repeat (first | with_reducible refine store_in_new ?_ ?_ | with_reducible refine wpAny_loadPart_at gx ?_ | with_reducible refine cl.at ?_ | wp_step)
  · exact ⟨_, #[], _, (Heap.get?_update_ne _ _ _ _ xs.symm).trans (Heap.get?_push_at rfl rfl), rfl, fun e he => absurd he (by simp), fun _ => rfl⟩
  · intro h1 tk1 hn1 hs1
    have gx1 : (h0.push { cls := .type "dict", data := .dict #[] }).get? x = some { cls := .ref C, data := .fields fv } := Heap.get?_push_of_some _ gx
    refine kq h1 tk1 h0.objs.size (fun b o hb ho => ?_) (Nat.le_refl _) xs.symm ?_ hn1
    · exact (hs1.2 b (Nat.ne_of_lt (Heap.lt_size ho))).trans ((Heap.get?_update_ne _ _ _ _ hb).trans (Heap.get?_push_of_some _ ho))
    · exact (hs1.2 x xs).trans (Heap.get?_update_self _ gx1 rfl)
end
open PySem PySem.W PySem.Calls PyProof.Rows PySem.HandSPX
/-- what a base's mro must give -/
structure XBase (B newId initId : String) (bmB : List Value) : Prop where
  eb : ExcBaseFacts B newId initId bmB
  ps : ∀ self : Value, refuseLoop self "__setattr__" bmB = pure ()
  ob : bmB.contains (.type "object") = true
  ne : bmB ≠ []
theorem base_LookupError : XBase "LookupError" "LookupError.__new__" "LookupError.__init__" [.type "LookupError", .type "Exception", .type "BaseException", .type "object"] := ⟨PySem.F.excBase_LookupError, PySem.F.store_LookupError.passes, by decide +kernel, by simp⟩
theorem base_ValueError : XBase "ValueError" "ValueError.__new__" "ValueError.__init__" [.type "ValueError", .type "Exception", .type "BaseException", .type "object"] := ⟨PySem.F.excBase_ValueError, PySem.F.store_ValueError.passes, by decide +kernel, by simp⟩
/-- a made error whose field f is v -/
structure XMade (f : Str) (h h' : Heap) (e C dd : Addr) (v : Value) : Prop where
  keep : ∀ b o, h.get? b = some o → h'.get? b = some o
  new : h.objs.size ≤ e
  obj : ∃ oe vs, h'.get? e = some oe ∧ oe.cls = .ref C ∧ oe.dict = some dd ∧ oe.data = .fields vs ∧ vs[1]? = some .none
  dbig : h.objs.size ≤ dd
  dne : dd ≠ e
  ns : h'.Ns1 dd (fun y => if y = f then some v else none)
theorem ldXg {M : Model} {s : Shared} {name : Str} {scope : Scope} {L a : Addr} {cd : Value} {m : Str → Option Value} {x : Str} {pos : Pos} {v : Value} {Q : Value → Shared → Prop} {A : Around} {E : Value → Shared → Prop} (hn : s.heap.Ns L m) (hv : m x = some v) (q : Q v s)
    (hk : scope.kind = .function := by rfl) (hl : (envOfC name scope L a cd).kindOf x = some .local := by rfl) (hd : (x == ("__debug__" : Str)) = false := by decide) : wpAny M A (eval (.Name x pos) (envOfC name scope L a cd)) Q E s := wpAny_Name (wpAny_loadName_local hk hl hn hv q) hd
theorem one_ok (v : Value) : [v].length ≤ sizeLine := by
  show 1 ≤ sizeLine
  decide
end XG

/-! defs that may raise -/
namespace DL
open PySem PySem.Spec PyProof.Rows L2 ZX RT
theorem w_raise {K : PySem.W.Frag} {S : MS} {δ : List SD} {W : Own} {k : Nat} {O : OutW} {ta : TA} {C : Addr} {f : Str} {d : PyData} (ha : EvA K (ows K S W) ta δ k (fun l => l = [.dat d])) (hx : O.ex (.ref C) (some [(f, d)])) :
    EvW K S (fun _ σ H => ta σ H fun vs H1 => ∃ v, vs = [v] ∧ ∀ dd, H1 dd = none → O.E (.ref C) (some dd) (upd H1 dd (.xd [(f, v)]))) δ W k O :=
  fun r σ G H q w D _ _ _ _ xx => ha r σ G H q w _ fun vs ss G2 H2 m w2 hv hs => by
    subst hs
    obtain ⟨v, rfl, hd⟩ := vds1 hv
    exact ⟨v, rfl, fun dd nd => (xx _ _ W G2 H2 (.ofMv m) w2 hx).2 _ rfl dd _ nd ⟨rfl, .cons hd .nil⟩⟩
/-- dom: what may be handed in; R: what is told; Xr: what is raised -/
def spX (K : PySem.W.Frag) (dom : List PyData → Prop) (R : List PyData → PyData → Prop) (Xr : List PyData → Value → Option (List (Str × PyData)) → Prop) : Sp := fun vs H Q E => ∃ G ds, (∀ a o, G a = some o → H a = some o) ∧ DDs K G vs ds ∧ dom ds ∧
  (∀ d v G2 H2, R ds d → Mv (fun _ => False) G H G2 H2 → DD K G2 v d → Q v H2) ∧
  (∀ cls fd G2 H2, Xr ds cls fd → Mv (fun _ => False) G H G2 H2 → (fd = none → E cls none H2) ∧ ∀ l, fd = some l → ∀ dd fs, H2 dd = none → FV K G2 fs l → E cls (some dd) (upd H2 dd (.xd fs)))
section
variable {P : Program} {w : World} {K : PySem.W.Frag} {mg : Str → Option Value} {base : Heap}
theorem fnW_err {x qual : Str} {st : Stmt} {f : Addr} {fd : FuncData} {N ps : List Str} {k : Nat} {dom : List PyData → Prop} {R : List PyData → PyData → Prop} {Xr : List PyData → Value → Option (List (Str × PyData)) → Prop} (F : Fun K x qual st f fd) (Sc : FnScope N ps (defScope st)) (len : ∀ ds, dom ds → ds.length = ps.length)
    (body : ∀ (cdv : Value) (A : Around) (outer : List Env) (s : Shared) (H : Hp) (E : XK), Room k (A.deeper (envOfC qual (defScope st) s.heap.objs.size f cdv)) →
      ∃ t, PSs (cxOf (L2.CX P w) P w K mg base N qual (defScope st) f cdv A outer s H E) (defBody st) t ∧ ∀ ds, dom ds → EvW K pu t (startD N ds) [] 0 { rt := fun z => ∃ d, z = .dat d ∧ R ds d, E := E, ex := Xr ds }) : FnOk P w K mg base (L2.CX P w) (k + 1) f fd ps (spX K dom R Xr) := by
  refine F.okX Sc (fun vs H Q E h => ?_) (fun cdv A outer s H vs Q E hr h => ?_)
  · obtain ⟨G, ds, _, dd, hd, _⟩ := h
    rw [dd.len]
    exact len ds hd
  · obtain ⟨G, ds, hs, dd, hd, hq, hx⟩ := h
    obtain ⟨t, ht, hb⟩ := body cdv A outer s H E hr
    refine ⟨t, ht, hb ds hd 0 _ G H (start_slots dd) (ows_nil (wd_pu hs)) _ (fun _ _ _ _ _ _ _ _ z => z.elim) (fun v z W' G2 H2 m _ hv hz => ?_) (fun _ _ _ _ _ _ _ _ z => z.elim) (fun _ _ _ _ _ _ _ _ z => z.elim) (fun cls fl W' G2 H2 m _ e => hx cls fl G2 H2 e m.toMv)⟩
    obtain ⟨d, rfl, hr'⟩ := hz
    exact hq d v G2 H2 hr' m.toMv hv
/-- a def that may raise, where it doesn't -/
theorem fn_calmX {f : Addr} {fd : FuncData} {k : Nat} {ps : List Str} {dom : List PyData → Prop} {R : List PyData → PyData → Prop} {Xr : List PyData → Value → Option (List (Str × PyData)) → Prop} (F : FnOk P w K mg base (L2.CX P w) k f fd ps (spX K dom R Xr)) :
    FnOk P w K mg base CX0 k f fd ps (spP K fun ds d => dom ds ∧ (∀ e, R ds e → e = d) ∧ ∀ cls fl, ¬ Xr ds cls fl) :=
  have h : ∀ vs H Q E, spP K (fun ds d => dom ds ∧ (∀ e, R ds e → e = d) ∧ ∀ cls fl, ¬ Xr ds cls fl) vs H Q E → spX K dom R Xr vs H Q (fun _ _ _ => False) := fun vs H Q E ⟨G, ds, d, sub, dd, ⟨h1, h2, h3⟩, q⟩ =>
    ⟨G, ds, sub, dd, h1, fun e v G2 H2 hr m dv => q v G2 H2 m (h2 e hr ▸ dv), fun cls fl G2 H2 hx _ => absurd hx (h3 cls fl)⟩
  ⟨fun vs H Q E q => F.len vs H Q _ (h vs H Q E q), fun A outer s H args us vs Q E hr he hb hv hs => codeAny_mono (F.run A outer s H args us vs Q (fun _ _ _ => False) hr he hb hv (h vs H Q E hs)) fun r s' hr => by
    cases r with
    | error e =>
      obtain ⟨_, _, _, _, _, _, _, _, _, _, _, _, z⟩ := hr
      exact z.elim
    | ok fl => cases fl <;> exact hr⟩
end
end DL

/-! x[:c] = ys, of an own list -/
namespace SS0
open PySem PySem.Spec PyProof.Rows L2
section
variable {P : Program} {w : World} {A : Around} {E : Value → Shared → Prop} {s : Shared}
theorem bnd {c n : Nat} (hc : c ≤ n) : sliceBounds none (some (c : Int)) none n = (0, (c : Int), 1) := by
  have h2 : ¬ ((c : Int) < 0) := by omega
  simp only [sliceBounds, Option.getD_none, h2, if_false, gt_iff_lt, Int.zero_lt_one, if_true]
  congr 2
  omega
theorem put0 {l b sl : Addr} {xs ys : Array Value} {m m2 : Nat} {vl vu : Value} {c : Nat} {Q : Unit → Shared → Prop}
    (e : s.heap.get? l = some { cls := .type "list", data := .seq xs m }) (e2 : s.heap.get? b = some { cls := .type "list", data := .seq ys m2 }) (ne : l ≠ b) (hs : s.heap.IsSliceOf sl vl vu .none)
    (pl : IsPart vl none) (pu : IsPart vu (some (c : Int))) (hc : c ≤ xs.size) (hz : xs.size + ys.size ≤ sizeLine) (h : Q () { s with heap := s.heap.update l (Obj.mapSeq fun zs => zs.extract 0 0 ++ ys ++ zs.extract c zs.size) }) : wpAny (model P w) A (setItem (.ref l) (.ref sl) (.ref b)) Q E s := by
  have hl : s.heap.IsList l xs := PySem.IsL.isList e
  have hb : s.heap.IsList b ys := PySem.IsL.isList e2
  obtain ⟨os, ho, hc1, hd⟩ := id hs
  have hT : s.TypeIs (.ref sl) "slice" := ⟨os, ho, hc1⟩
  have ns : ¬ ((rawPart none == rawInt 0) = true) := Bool.false_ne_true
  have nr : Builtin.List.listSameRef (.ref l) (.ref b) = false := by unfold Builtin.List.listSameRef; exact beq_eq_false_iff_ne.mpr ne
  have hm : (max (0 : Int) (c : Int)).toNat = c := by omega
  have hz2 : ((fun zs : Array Value => zs.extract 0 0 ++ ys ++ zs.extract c zs.size) xs).size ≤ sizeLine + 1 := by simp only [Array.size_append, Array.size_extract]; omega
  unfold setItem
  (try with_reducible refine wpAny_holding ?_); (first | refine wpAny_bind (wpAny_pure ?_) | skip)
  refine wpAny_bind (wpAny_sequenceKey hl.typeIs (by decide) (wpAny_bind (wpAny_callSpecial?_slot (name := Str.ofString "__setitem__") hl.typeIs slot_list_setitem (wpAny_call_entry slot_list_setitem hl.typeIs entry_list_setitem ?_ (args_list_setitem _ _ _)))))
  show wpAny (model P w) _ (Builtin.List.listSubscript? (.ref sl) >>= _) _ _ s
  refine wpAny_bind ?_
  unfold Builtin.List.listSubscript?
  refine wpAny_bind (wpAny_specialOf hT slice_no_index ?_)
  simp only [Option.isNone_none, if_true]
  refine wpAny_pure (show wpAny (model P w) _ (typeOf (.ref sl) >>= _) _ _ s from wpAny_bind (wpAny_typeOf hT ?_))
  (first | rw [if_neg (by decide)] | refine PySem.W.KFB.if_not (by decide) ?_); rw [listSliceParts_eq]
  refine wpAny_bind (wpAny_bind (wpAny_field ho hd (x := .none) rfl (wpAny_bind (wpAny_listPart .none ?_)))); rw [if_neg ns]
  refine wpAny_bind (wpAny_field ho hd (x := vl) rfl (wpAny_bind (wpAny_listPart pl (wpAny_bind (wpAny_field ho hd (x := vu) rfl (wpAny_bind (wpAny_listPart pu (wpAny_pure ?_))))))))
  (first | simp only [nr, Bool.false_eq_true, if_false] | refine PySem.W.KFB.if_not nr ?_ | (dsimp only; rw [if_neg (by rw [nr]; exact Bool.false_ne_true)]))
  refine wpAny_bind (m := Builtin.List.listAllItems (.ref b) "must assign iterable to extended slice") ?_
  unfold Builtin.List.listAllItems
  refine wpAny_bind (wpAny_typeOf hb.typeIs ?_)
  (first | refine PySem.W.KFB.if_so (by decide) ?_ | rw [if_pos (by decide)] | simp only [beq_self_eq_true, Bool.true_or, if_true]); unfold Builtin.List.listItems
  refine wpAny_bind (wpAny_seqItems e2 rfl (wpAny_pure (wpAny_bind (wpAny_bind (wpAny_seqItems e rfl (wpAny_pure ?_))))))
  refine wpAny_bind (wpAny_of_eq ((sliceIndices_raw none (some (c : Int)) none xs.size (by simp)).trans (congrArg (pure : Int × Int × Int → Sem (Int × Int × Int)) (bnd hc))) ?_)
  show wpAny (model P w) _ (if ((1 : Int) == 1) = true then _ else _) _ _ s
  (rw [if_pos (by decide)]); refine wpAny_bind (wpAny_rule ?_)
  (first | simp only [notLongL hz, Bool.false_eq_true, if_false] | refine PySem.W.KFB.if_not (notLongL hz) ?_); (first | refine wpAny_bind (wpAny_pure ?_) | skip)
  show wpAny (model P w) _ (updateSeq l (fun zs => zs.extract 0 ((0 : Int)).toNat ++ ys ++ zs.extract (max (0 : Int) (c : Int)).toNat zs.size) >>= _) _ _ s
  rw [hm, Int.toNat_zero]
  refine wpAny_bind (wpAny_updateSeq (hz := Nat.le_trans (Nat.le_add_right _ _) hz) (_hz' := hz2) e rfl (wpAny_bind (wpAny_letGo ?_)))
  (first | exact wpAny_bind (wpAny_pure (wpAny_pure ⟨.none, rfl, wpAny_pure h⟩)) | exact wpAny_pure ⟨.none, rfl, wpAny_pure h⟩)
end
variable {X : Cx}
theorem put_sl {pins : List (Addr × Obj)} {s : Shared} {σ : L2.St} {H : Hp} {l b sl : Addr} {xs ys : List V} {c : Int} {vl vu : Value} {Q : Unit → Shared → Prop} (I : L2.Inv X pins σ H s) (hH : H l = some (.lst xs)) (hB : H b = some (.lst ys)) (ne : l ≠ b)
    (hs : s.heap.IsSliceOf sl vl vu .none) (pl : IsPart vl none) (pu : IsPart vu (some c)) (h0 : 0 ≤ c) (hc : c ≤ xs.length) (hz : xs.length + ys.length ≤ sizeLine) (h : ∀ s', L2.Inv X pins σ (upd H l (.lst (ys ++ xs.drop c.toNat))) s' → Q () s') :
    wpAny (model X.prog X.w) X.A (setItem (.ref l) (.ref sl) (.ref b)) Q X.xe s := by
  obtain ⟨z, its, n, r, hl, e⟩ := I.lstM hH
  obtain ⟨z2, its2, n2, r2, hl2, e2⟩ := I.lstM hB
  obtain ⟨c', rfl⟩ := Int.eq_ofNat_of_zero_le h0
  simp only [Int.toNat_natCast] at h
  refine put0 (c := c') e e2 ne hs pl pu (by rw [List.size_toArray]; omega) (by rw [List.size_toArray, List.size_toArray]; omega) (h _ ?_)
  refine I.lset (its' := its2 ++ its.drop c') (t' := s.toks) hH e ?_ (Vals.append r2 (r.drop _)) (by rw [List.length_append, List.length_drop]; omega)
  have := splice_eq its its2 0 c'
  simpa using this
/-- x[:c] = y -/
def gSl0 (to ti : TE) : TG := fun v σ H Q => to σ H fun o H1 => tPart ti σ H1 fun c H2 => ∃ l b xs ys k, c = some k ∧ o = .ref l ∧ v = .ref b ∧ l ≠ b ∧ H2 l = some (.lst xs) ∧ H2 b = some (.lst ys) ∧ 0 ≤ k ∧ k ≤ xs.length ∧ xs.length + ys.length ≤ sizeLine ∧ Q σ (upd H2 l (.lst (ys ++ xs.drop k.toNat)))
theorem pg_sl0 {o i : Expr} {to ti : TE} {pos p2 : Pos} (ho : PE X o to) (hi : PE X i ti) (ha : ∀ v, assign (.Subscript o (.Slice none (some i) none p2) pos) X.env v = (do
      let ov ← holding [v] (eval o X.env)
      let iv ← holding [v, ov] (eval (.Slice none (some i) none p2) X.env)
      standAt pos
      holding [v, ov, iv] (setItem ov iv v)
      release [iv, v, ov] []) := by intro _; rfl) : PG X (.Subscript o (.Slice none (some i) none p2) pos) (gSl0 to ti) := by
  refine ⟨fun pins s σ H v u Q I r h => ?_⟩
  rw [ha]
  refine wpAny_bind (wpAny_holding (thn (ho.run pins s σ H _ I h) fun ov s1 ⟨x, H1, I1, r1, q1⟩ => ?_))
  refine wpAny_bind (wpAny_holding (wpAny_Slice (thn (po_none.run pins s1 σ H1 (fun l H2 => l = none ∧ H2 = H1) I1 ⟨rfl, rfl⟩) fun vl s2 ⟨l, H2, I2, pl, q2⟩ => ?_)))
  obtain ⟨rfl, rfl⟩ := q2
  refine thn ((po_some hi).run pins s2 σ H2 _ I2 q1) fun vu s3 ⟨c, H3, I3, pu, q3⟩ => ?_
  rw [evalPart_none]
  refine wpAny_pure ?_
  have I4 : L2.Inv X pins σ H3 { s3 with heap := s3.heap.push { cls := .type "slice", data := .fields #[vl, vu, .none] } } := I3.kept (t' := s3.toks) fun b ob q => Heap.get?_push_of_some _ q
  obtain ⟨l, b, xs, ys, k, rfl, rfl, rfl, ne, h1, h2, k0, k1, k2, q⟩ := q3
  cases r1
  cases r
  refine wpAny_bind (wpAny_standAt (wpAny_bind (wpAny_holding (put_sl I4 h1 h2 ne (Heap.IsSliceOf.new ..) pl pu k0 k1 k2 fun s' I5 => wpAny_release ⟨σ, _, I5, q⟩))))
end SS0
namespace SS0
open PySem PySem.Spec PyProof.Rows L2
variable {X : Cx}
/-- a test that is one of two -/
def tIfT (c a b : TT) : TT := fun σ H Q => c σ H fun q H1 => if q = true then a σ H1 Q else b σ H1 Q
theorem pt_ifE {c a b : Expr} {tc ta tb : TT} {pos : Pos} (hc : PT X c tc) (ha : PT X a ta) (hb : PT X b tb) : PT X (.IfExp c a b pos) (tIfT tc ta tb) := by
  refine ⟨fun pins s σ H Q I h => ?_⟩
  show wpAny (model X.prog X.w) X.A (isTrue c X.env (eval c X.env) >>= fun q => if q = true then isTrue a X.env (eval a X.env) else isTrue b X.env (eval b X.env)) _ X.xe s
  refine wpAny_bind (thn (hc.run pins s σ H _ I h) fun d s1 ⟨H1, I1, q1⟩ => ?_)
  cases d with
  | true => exact ha.run pins s1 σ H1 Q I1 q1
  | false => exact hb.run pins s1 σ H1 Q I1 q1
/-- a tuple or a list is taken apart -/
def gSeq (K : PySem.W.Frag) (n : Nat) (t : TGs) : TG := fun v σ H Q => gTup K n t v σ H Q ∨ gUnl K n t v σ H Q
theorem pg_seq {es : List Expr} {k : Nat} {t : TGs} {n : Nat} {pos : Pos} (hc : X.calm = true) (h : PGs X es t)
    (hn : (assignEach es X.env).length = n := by rfl) (hst : (assignEach es X.env).findIdx? (·.1) = none := by rfl) : PG X (.Tuple es k pos) (gSeq X.K n t) :=
  ⟨fun pins s σ H v u Q I r hw => hw.elim ((pg_tup hc h hn hst).run pins s σ H v u Q I r) ((pg_unl hc h hn hst).run pins s σ H v u Q I r)⟩
end SS0

/-! a small language of data: what a def's body tells, without a heap -/
namespace DP
open PySem PySem.Spec PyProof.Rows L2 ZX DL RT
/-- what is told, where things may be drawn -/
inductive Dr (α : Type) where
  | ret (a : α)
  | bad
  | draw (m : Int) (k : Int → Dr α)
namespace Dr
variable {α β γ : Type}
def bind : Dr α → (α → Dr β) → Dr β
  | ret a, f => f a
  | bad, _ => bad
  | draw m k, f => draw m fun j => bind (k j) f
/-- with n draws at most; Φ of what is told and the draws left -/
def ok : Dr α → Nat → (α → Nat → Prop) → Prop
  | ret a, n, Φ => Φ a n
  | bad, _, _ => False
  | draw m k, n, Φ => ∃ n', n = n' + 1 ∧ 1 ≤ m ∧ m < 2 ^ 30 ∧ ∀ j, 0 ≤ j → j < m → ok (k j) n' Φ
theorem ok_bind {f : α → Dr β} {Φ : β → Nat → Prop} : ∀ {t : Dr α} {n : Nat}, (t.bind f).ok n Φ ↔ t.ok n fun a n' => (f a).ok n' Φ
  | ret a, n => Iff.rfl
  | bad, n => Iff.rfl
  | draw m k, n => by
    constructor
    · rintro ⟨n', e, h1, h2, h⟩
      exact ⟨n', e, h1, h2, fun j a b => (ok_bind (t := k j)).mp (h j a b)⟩
    · rintro ⟨n', e, h1, h2, h⟩
      exact ⟨n', e, h1, h2, fun j a b => (ok_bind (t := k j)).mpr (h j a b)⟩
theorem ok_mono {Φ Ψ : α → Nat → Prop} (h : ∀ a n, Φ a n → Ψ a n) : ∀ {t : Dr α} {n : Nat}, t.ok n Φ → t.ok n Ψ
  | ret a, n, q => h a n q
  | bad, n, q => q
  | draw m k, n, ⟨n', e, h1, h2, q⟩ => ⟨n', e, h1, h2, fun j a b => ok_mono h (q j a b)⟩
theorem bind_ret : ∀ t : Dr α, t.bind ret = t
  | ret a => rfl
  | bad => rfl
  | draw m k => congrArg (draw m) (funext fun j => bind_ret (k j))
theorem bind_assoc {f : α → Dr β} {g : β → Dr γ} : ∀ t : Dr α, (t.bind f).bind g = t.bind fun a => (f a).bind g
  | ret a => rfl
  | bad => rfl
  | draw m k => congrArg (draw m) (funext fun j => bind_assoc (k j))
/-- without a draw -/
def pur : Dr α → Dr α
  | ret a => ret a
  | _ => bad
theorem ok_pur {t : Dr α} {n : Nat} {Φ : α → Nat → Prop} (h : t.pur.ok n Φ) : ∃ a, t = ret a ∧ Φ a n := by
  cases t with
  | ret a => exact ⟨a, rfl, h⟩
  | bad => exact h.elim
  | draw m k => exact h.elim
def opt : Option α → Dr α
  | some a => ret a
  | none => bad
theorem ok_opt {o : Option α} {n : Nat} {Φ : α → Nat → Prop} (h : (opt o).ok n Φ) : ∃ a, o = some a ∧ Φ a n := by
  cases o with
  | none => exact h.elim
  | some a => exact ⟨a, rfl, h⟩
end Dr
/-- a slot -/
inductive Sl where
  | unk
  | dat (d : PyData)
  | own (ds : List PyData)
  | box
abbrev En := List Sl
/-! ## operations in bundles -/
structure Cn where
  v : V
  d : PyData
  ok : ∀ K G, DD K G v d
structure O2 where
  rel : PySem.W.Frag → R2
  f : PyData → PyData → Option PyData
  ok : ∀ K d e z, f d e = some z → RV K (rel K) (.dat d) (.dat e) (fun s => s = .dat z)
structure O1 where
  rel : PySem.W.Frag → V → Hp → VK → Prop
  f : PyData → Option PyData
  ok : ∀ K d z, f d = some z → ∀ x G H, DD K G x d → (∀ a o, G a = some o → H a = some o) → ∀ Q : VK, (∀ v G2 H2, Mv (fun _ => False) G H G2 H2 → DD K G2 v z → Q v H2) → rel K x H Q
structure OB where
  rel : PySem.W.Frag → List V → Hp → VK → Prop
  f : List PyData → Option PyData
  ok : ∀ K ds z, f ds = some z → RC K (rel K) (ds.map SD.dat) (fun s => s = .dat z)
/-- slices -/
structure OS where
  rel : PySem.W.Frag → V → Option Int → Option Int → Hp → VK → Prop
  f : PyData → Option Int → Option Int → Option PyData
  ok : ∀ K d l h z, f d l h = some z → ∀ x G H, DD K G x d → (∀ a o, G a = some o → H a = some o) → ∀ Q : VK, (∀ v G2 H2, Mv (fun _ => False) G H G2 H2 → DD K G2 v z → Q v H2) → rel K x l h H Q
/-- tests of a value -/
structure OT where
  rel : PySem.W.Frag → V → Hp → (Bool → Hp → Prop) → Prop
  f : PyData → Option Bool
  ok : ∀ K d z, f d = some z → ∀ x G H, DD K G x d → (∀ a o, G a = some o → H a = some o) → ∀ Q : Bool → Hp → Prop, Q z H → rel K x H Q
def Wk (K : PySem.W.Frag) (G : Hp) (J : It) (its : List PyData) : Prop := ∃ (A : Hp → Prop) (Y : Nat → Hp → V → Hp → Prop), Walk J its.length A Y ∧ (∀ H3, (∀ a o, G a = some o → H3 a = some o) → A H3) ∧
      ∀ i d G3 H3 x H4, its[i]? = some d → (∀ a o, G a = some o → G3 a = some o) → (∀ a o, G3 a = some o → H3 a = some o) → Y i H3 x H4 → ∃ G4, Mv (fun _ => False) G3 H3 G4 H4 ∧ DD K G4 x d
/-- what is walked, by one value -/
structure OI where
  rel : PySem.W.Frag → V → Hp → (It → Hp → Prop) → Prop
  f : PyData → Option (List PyData)
  ok : ∀ K d its, f d = some its → ∀ x G H, DD K G x d → (∀ a o, G a = some o → H a = some o) → ∀ R : It → Hp → Prop, (∀ J, Wk K G J its → R J H) → rel K x H R
/-- what is walked, by several -/
structure OIs where
  rel : PySem.W.Frag → List V → Hp → (It → Hp → Prop) → Prop
  f : List PyData → Option (List PyData)
  ok : ∀ K ds its, f ds = some its → ∀ xs G H, DDs K G xs ds → (∀ a o, G a = some o → H a = some o) → ∀ R : It → Hp → Prop, (∀ J, Wk K G J its → R J H) → rel K xs H R
/-- a method of a built-in thing -/
structure OM where
  ty : String
  rel : PySem.W.Frag → V → List V → Hp → VK → Prop
  td : PyData → Bool
  f : PyData → List PyData → Option PyData
  ty_ok : ∀ K d, td d = true → ∀ x G H, DD K G x d → (∀ a o, G a = some o → H a = some o) → tyV K ty x H
  ok : ∀ K d ds z, f d ds = some z → ∀ x vs G H, DD K G x d → DDs K G vs ds → (∀ a o, G a = some o → H a = some o) → ∀ Q : VK, (∀ v G2 H2, Mv (fun _ => False) G H G2 H2 → DD K G2 v z → Q v H2) → rel K x vs H Q
/-- a new list, of two things; of several; of one -/
structure OF2 where
  rel : PySem.W.Frag → R2
  f : PyData → PyData → Option (List PyData)
  ok : ∀ K d e zs, f d e = some zs → ∀ x y G H, DD K G x d → DD K G y e → (∀ a o, G a = some o → H a = some o) → ∀ Q : VK, (∀ xs l, DDs K G xs zs → H l = none → Q (.ref l) (upd H l (.lst xs))) → rel K x y H Q
structure OFB where
  rel : PySem.W.Frag → List V → Hp → VK → Prop
  f : List PyData → Option (List PyData)
  ok : ∀ K ds zs, f ds = some zs → ∀ vs G H, DDs K G vs ds → (∀ a o, G a = some o → H a = some o) → ∀ Q : VK, (∀ xs l, DDs K G xs zs → H l = none → Q (.ref l) (upd H l (.lst xs))) → rel K vs H Q
structure OF1 where
  rel : PySem.W.Frag → V → Hp → VK → Prop
  f : PyData → Option (List PyData)
  ok : ∀ K d zs, f d = some zs → ∀ x G H, DD K G x d → (∀ a o, G a = some o → H a = some o) → ∀ Q : VK, (∀ xs l, DDs K G xs zs → H l = none → Q (.ref l) (upd H l (.lst xs))) → rel K x H Q
/-- a type that is asked for -/
structure OTy where
  n : String
  kb : PyData → Bool
  ok : ∀ d, kitB (tyD d) n = some (kb d)
/-- how keywords are put in order -/
structure KP where
  n : Nat
  m : Nat
  gV : List V → List V → List V
  gD : List PyData → List PyData → List PyData
  ok : ∀ K G vs us ds es, DDs K G vs ds → DDs K G us es → ds.length = n → es.length = m → DDs K G (gV vs us) (gD ds es)
mutual
inductive Tt where
  | nm (i : Nat)
  | tp (ts : Ts)
inductive Ts where
  | nil
  | cons (t : Tt) (r : Ts)
end
abbrev Fs := List PyData → Dr PyData
mutual
inductive E : Type
  | var (i : Nat)
  | con (c : Cn)
  | op (o : O2) (a b : E)
  | un (o : O1) (a : E)
  | cb (o : OB) (as : A)
  | sl (o : OS) (e : E) (l h : P)
  | call (f : Fs) (as : A)
  | callN (f : Fs) (p : KP) (as ks : A)
  | callB (f : Fs) (i : Nat) (as : A)
  | lst (as : A)
  | tup (as : A)
  | ite (c : T) (a b : E)
  | and (a b : E)
  | or (a b : E)
  | chain (o o' : O2) (a b c : E)
  | lc (it : I) (g : Tt) (vs : List Nat) (c : T) (e : E)
  | gd (i : Nat) (e : E)
  | gin (i : Nat) (e : E)
  | bm (o : OM) (e : E) (as : A)
  | bm0 (o : OM) (e : E)
  | olen (i : Nat)
  | oix (i : Nat) (e : E)
  | osl (i : Nat) (l h : P)
  | otup (i : Nat)
  | olst (i : Nat)
  | brw (i : Nat) (e : E)
  | isi (o : OTy) (e : E)
inductive A : Type
  | nil
  | cons (e : E) (r : A)
inductive P : Type
  | no
  | at (e : E)
inductive T : Type
  | tru (o : OT) (e : E)
  | not (t : T)
  | and (t u : T)
  | or (t u : T)
  | yes
  | otru (i : Nat)
  | ite (c a b : T)
inductive I : Type
  | one (o : OI) (e : E)
  | many (o : OIs) (as : A)
  | gl (i : Nat)
  | rrg (e : E)
end
/-- what makes a new list -/
inductive FE : Type
  | lst (as : A)
  | op (o : OF2) (a b : E)
  | cb (o : OFB) (as : A)
  | un (o : OF1) (e : E)
  | call (f : Fs) (as : A)
  | callN (f : Fs) (p : KP) (as ks : A)
  | ite (c : T) (a b : FE)
  | lc (it : I) (g : Tt) (vs : List Nat) (c : T) (e : E)
/-- several things, some of them new lists -/
inductive B : Type
  | nil
  | consE (e : E) (r : B)
  | consF (f : FE) (r : B)
def qY : T := .yes
inductive S : Type
  | next
  | seq (a b : S)
  | asg (g : Tt) (e : E)
  | asg2 (i j : Nat) (e : E)
  | par (i j : Nat) (as : A)
  | par3 (i j k : Nat) (as : A)
  | aug (i : Nat) (o : O2) (e : E)
  | newO (i : Nat) (as : A)
  | newL (i : Nat) (e : E)
  | app (i : Nat) (e : E)
  | setix (i : Nat) (ix e : E)
  | augix (i : Nat) (ix : E) (o : O2) (e : E)
  | rev (i : Nat)
  | setsl (i : Nat) (ix e : E)
  | ext (i : Nat) (e : E)
  | clr (i : Nat)
  | pop (i : Nat)
  | popA (g : Tt) (i : Nat) (e : E)
  | ins (i : Nat) (ix e : E)
  | newE (i : Nat) (e : FE)
  | par2B (i j : Nat) (b : B)
  | par3B (i j k : Nat) (b : B)
  | retO (i : Nat)
  | retF (e : FE)
  | frz (i : Nat) (s : S)
  | ret (e : E)
  | cond (c : T) (a b : S)
  | loop (it : I) (g : Tt) (b : S)
  | whil (m : Nat) (c : T) (b : S)
  | brk
  | cnt
  | drop (e : E)
  | raise (c : Nat) (f : Str) (as : A)
  | stuck
/-! ## what a text tells -/
mutual
def Tt.vs : Tt → List Nat
  | .nm i => [i]
  | .tp ts => ts.vs
def Ts.vs : Ts → List Nat
  | .nil => []
  | .cons t r => t.vs ++ r.vs
end
mutual
def Tt.put : Tt → En → PyData → Option En
  | .nm i, env, d => some (env.set i (.dat d))
  | .tp ts, env, .tuple ds => ts.puts env ds
  | .tp ts, env, .list ds => ts.puts env ds
  | .tp _, _, _ => none
def Ts.puts : Ts → En → List PyData → Option En
  | .nil, env, [] => some env
  | .cons t r, env, d :: ds => (t.put env d).bind fun env' => r.puts env' ds
  | _, _, _ => none
end
def wipeX (env : En) : List Nat → En
  | [] => env
  | v :: vs => (wipeX env vs).set v .unk
def slot (env : En) (i : Nat) : Dr PyData :=
  match env[i]? with
  | some (.dat d) => .ret d
  | _ => .bad
def ownAt (env : En) (i : Nat) : Dr (List PyData) :=
  match env[i]? with
  | some (.own ds) => .ret ds
  | _ => .bad
def boxAt (env : En) (i : Nat) : Dr Unit :=
  match env[i]? with
  | some .box => .ret ()
  | _ => .bad
def compr (step : PyData → Dr (Option PyData)) : List PyData → Dr (List PyData)
  | [] => .ret []
  | d :: r => (step d).bind fun o => (compr step r).bind fun l => .ret (o.toList ++ l)
/-- the written dicts: HEARD_AT, OTHER_HAND, OTHER_WAY -/
def gds : Nat → Str → Option PyData
  | 0, z => if z = "R+" then some (.int 0) else if z = "R-" then some (.int 1) else if z = "L+" then some (.int 2) else if z = "L-" then some (.int 3) else none
  | 1, z => if z = "L+" then some (.str "R+") else if z = "L-" then some (.str "R-") else if z = "R+" then some (.str "L+") else if z = "R-" then some (.str "L-") else none
  | 2, z => if z = "L+" then some (.str "L-") else if z = "L-" then some (.str "L+") else if z = "R+" then some (.str "R-") else if z = "R-" then some (.str "R+") else none
  | _, _ => none
def gdAt (i : Nat) : PyData → Dr PyData
  | .str z => .opt (gds i z)
  | _ => .bad
/-- the written tuples of texts: INS, BREATHS -/
def gts : Nat → List Str
  | 0 => ["L+", "R+"]
  | 1 => ["L+", "L-", "R+", "R-"]
  | _ => []
def ginAt (i : Nat) : PyData → Dr PyData
  | .str z => .ret (.bool ((gts i).contains z))
  | _ => .bad
def revRg : PyData → Dr (List PyData)
  | .int n => if n < 2 ^ 62 ∧ -(2 ^ 62) ≤ n then .ret ((List.range n.toNat).reverse.map fun k => .int (k : Nat)) else .bad
  | _ => .bad
def slPut (ds : List PyData) : PyData → PyData → Dr (List PyData)
  | .list es, .int k => if 0 ≤ k ∧ k ≤ ds.length ∧ ds.length + es.length ≤ 100000 then .ret (es ++ ds.drop k.toNat) else .bad
  | _, _ => .bad
def exPut (ds : List PyData) : PyData → Dr (List PyData)
  | .list es => if ds.length + es.length ≤ 100000 then .ret (ds ++ es) else .bad
  | _ => .bad
def insPut (ds : List PyData) (x : PyData) : PyData → Dr (List PyData)
  | .int k => if 0 ≤ k ∧ k < 2 ^ 63 ∧ ds.length ≤ 100000 then .ret (ds.take k.toNat ++ [x] ++ ds.drop k.toNat) else .bad
  | _ => .bad
/-- what is no list and no tuple -/
def flatR : PyData → Dr PyData
  | .int i => .ret (.int i)
  | .bool b => .ret (.bool b)
  | .str s => .ret (.str s)
  | .none => .ret .none
  | _ => .bad
def cutD (ds : List PyData) (lo hi : Option Int) : List PyData := (ds.drop (HT.sIx ds.length 0 lo)).take (HT.sIx ds.length ds.length hi - HT.sIx ds.length 0 lo)
def andB (t : Dr PyData) : PyData → Dr PyData
  | .bool true => t
  | .bool false => .ret (.bool false)
  | _ => .bad
def orB (t : Dr PyData) : PyData → Dr PyData
  | .bool false => t
  | .bool true => .ret (.bool true)
  | _ => .bad
def asInt : PyData → Dr (Option Int)
  | .int i => .ret (some i)
  | _ => .bad
def small (l : List PyData) (t : Dr PyData) : Dr PyData := if l.length ≤ 100000 then t else .bad
/-- the targets' names are the comprehension's own -/
def within (us vs : List Nat) (t : Dr PyData) : Dr PyData := if us.all (vs.contains ·) = true then t else .bad
/-- one turn of a comprehension -/
def cstep (c : En → Dr Bool) (e : En → Dr PyData) (g : Tt) (env : En) : PyData → Dr (Option PyData) := fun d => (Dr.opt (g.put env d)).bind fun env' => (c env').bind fun q => if q = true then (e env').bind fun v => .ret (some v) else .ret none
mutual
def evE : E → En → Dr PyData
  | .var i, env => slot env i
  | .con c, _ => .ret c.d
  | .op o a b, env => (evE a env).bind fun x => (evE b env).bind fun y => .opt (o.f x y)
  | .un o a, env => (evE a env).bind fun x => .opt (o.f x)
  | .cb o as, env => (evA as env).bind fun xs => .opt (o.f xs)
  | .sl o e l h, env => (evE e env).bind fun x => (evP l env).bind fun u => (evP h env).bind fun w => .opt (o.f x u w)
  | .call f as, env => (evA as env).bind fun xs => (f xs).pur
  | .callN f p as ks, env => (evA as env).bind fun xs => (evA ks env).bind fun ys => if xs.length = p.n ∧ ys.length = p.m then (f (p.gD xs ys)).pur else .bad
  | .callB f i as, env => (boxAt env i).bind fun _ => (evA as env).bind f
  | .lst as, env => (evA as env).bind fun xs => small xs (.ret (.list xs))
  | .tup as, env => (evA as env).bind fun xs => small xs (.ret (.tuple xs))
  | .ite c a b, env => (evT c env).bind fun q => if q = true then evE a env else evE b env
  | .and a b, env => (evE a env).bind fun x => andB (evE b env) x
  | .or a b, env => (evE a env).bind fun x => orB (evE b env) x
  | .chain o o' a b c, env => (evE a env).bind fun x => (evE b env).bind fun y => (Dr.opt (o.f x y)).bind fun q => andB ((evE c env).bind fun z => .opt (o'.f y z)) q
  | .lc it g vs c e, env => (evI it env).bind fun its => small its (within g.vs vs ((compr (cstep (evT c) (evE e) g (wipeX env vs)) its).bind fun l => .ret (.list l)))
  | .gd i e, env => (evE e env).bind fun x => gdAt i x
  | .gin i e, env => (evE e env).bind fun x => ginAt i x
  | .bm o e as, env => (evE e env).bind fun x => if o.td x = true then (evA as env).bind fun xs => .opt (o.f x xs) else .bad
  | .bm0 o e, env => (evE e env).bind fun x => if o.td x = true then .opt (o.f x []) else .bad
  | .olen i, env => (ownAt env i).bind fun ds => .ret (.int ds.length)
  | .oix i e, env => (ownAt env i).bind fun ds => (evE e env).bind fun x => match x with
    | .int n => .opt (atI ds n)
    | _ => .bad
  | .osl i l h, env => (ownAt env i).bind fun ds => (evP l env).bind fun u => (evP h env).bind fun w => .ret (.list (cutD ds u w))
  | .otup i, env => (ownAt env i).bind fun ds => .ret (.tuple ds)
  | .olst i, env => (ownAt env i).bind fun ds => .ret (.list ds)
  | .brw i e, env => (ownAt env i).bind fun ds => (evE e (env.set i (.dat (.list ds)))).bind fun x => flatR x
  | .isi o e, env => (evE e env).bind fun x => .ret (.bool (o.kb x))
def evA : A → En → Dr (List PyData)
  | .nil, _ => .ret []
  | .cons e r, env => (evE e env).bind fun x => (evA r env).bind fun xs => .ret (x :: xs)
def evP : P → En → Dr (Option Int)
  | .no, _ => .ret none
  | .at e, env => (evE e env).bind fun x => asInt x
def evT : T → En → Dr Bool
  | .tru o e, env => (evE e env).bind fun x => .opt (o.f x)
  | .not t, env => (evT t env).bind fun q => .ret (!q)
  | .and t u, env => (evT t env).bind fun q => if q = true then evT u env else .ret false
  | .or t u, env => (evT t env).bind fun q => if q = true then .ret true else evT u env
  | .yes, _ => .ret true
  | .otru i, env => (ownAt env i).bind fun ds => .ret (!ds.isEmpty)
  | .ite c a b, env => (evT c env).bind fun q => if q = true then evT a env else evT b env
def evI : I → En → Dr (List PyData)
  | .one o e, env => (evE e env).bind fun x => .opt (o.f x)
  | .many o as, env => (evA as env).bind fun xs => .opt (o.f xs)
  | .gl i, _ => .ret ((gts i).map PyData.str)
  | .rrg e, env => (evE e env).bind fun x => revRg x
end
def asLst : PyData → Dr (List PyData)
  | .list ds => .ret ds
  | _ => .bad
def evF : FE → En → Dr (List PyData)
  | .lst as, env => (evA as env).bind fun xs => if xs.length ≤ 100000 then .ret xs else .bad
  | .op o a b, env => (evE a env).bind fun x => (evE b env).bind fun y => .opt (o.f x y)
  | .cb o as, env => (evA as env).bind fun xs => .opt (o.f xs)
  | .un o e, env => (evE e env).bind fun x => .opt (o.f x)
  | .call f as, env => (evA as env).bind fun xs => ((f xs).pur).bind asLst
  | .callN f p as ks, env => (evA as env).bind fun xs => (evA ks env).bind fun ys => if xs.length = p.n ∧ ys.length = p.m then ((f (p.gD xs ys)).pur).bind asLst else .bad
  | .ite c a b, env => (evT c env).bind fun q => if q = true then evF a env else evF b env
  | .lc it g vs c e, env => (evI it env).bind fun its => if its.length ≤ 100000 ∧ g.vs.all (vs.contains ·) = true then compr (cstep (evT c) (evE e) g (wipeX env vs)) its else .bad
def evB : B → En → Dr (List Sl)
  | .nil, _ => .ret []
  | .consE e r, env => (evE e env).bind fun x => (evB r env).bind fun xs => .ret (.dat x :: xs)
  | .consF f r, env => (evF f env).bind fun x => (evB r env).bind fun xs => .ret (.own x :: xs)
def put2 (env : En) (i j : Nat) : List Sl → Dr En
  | [x, y] => .ret ((env.set i x).set j y)
  | _ => .bad
def put3 (env : En) (i j k : Nat) : List Sl → Dr En
  | [x, y, z] => .ret (((env.set i x).set j y).set k z)
  | _ => .bad
inductive Fl where
  | nx (env : En)
  | rt (d : PyData)
  | rtO (ds : List PyData)
  | bk (env : En)
  | ct (env : En)
  | ex (c : Nat) (fs : List (Str × PyData))
def Fl.then (k : En → Dr Fl) : Fl → Dr Fl
  | .nx env => k env
  | f => .ret f
def forL (step : PyData → En → Dr Fl) : List PyData → En → Dr Fl
  | [], env => .ret (.nx env)
  | d :: r, env => (step d env).bind fun f => match f with
    | .nx env' => forL step r env'
    | .ct env' => forL step r env'
    | .bk env' => .ret (.nx env')
    | .rt v => .ret (.rt v)
    | .rtO v => .ret (.rtO v)
    | .ex c fs => .ret (.ex c fs)
def whileL (c : En → Dr Bool) (b : En → Dr Fl) : Nat → En → Dr Fl
  | 0, _ => .bad
  | m + 1, env => (c env).bind fun q => if q = true then (b env).bind fun f => match f with
      | .nx env' => whileL c b m env'
      | .ct env' => whileL c b m env'
      | .bk env' => .ret (.nx env')
      | .rt v => .ret (.rt v)
      | .rtO v => .ret (.rtO v)
      | .ex c fs => .ret (.ex c fs)
    else .ret (.nx env)
def asIx (n : Nat) : PyData → Dr Nat
  | .int i => .opt (ixN n i)
  | _ => .bad
def asSeq : PyData → Dr (List PyData)
  | .list ds => .ret ds
  | .tuple ds => .ret ds
  | _ => .bad
/-- one turn of a loop -/
def lstep (b : En → Dr Fl) (g : Tt) : PyData → En → Dr Fl := fun d env => (Dr.opt (g.put env d)).bind b
def evS : S → En → Dr Fl
  | .next, env => .ret (.nx env)
  | .seq a b, env => (evS a env).bind fun f => f.then fun env' => evS b env'
  | .asg g e, env => (evE e env).bind fun x => (Dr.opt (g.put env x)).bind fun env' => .ret (.nx env')
  | .asg2 i j e, env => (evE e env).bind fun x => .ret (.nx ((env.set i (.dat x)).set j (.dat x)))
  | .par i j as, env => (evA as env).bind fun xs => match xs with
    | [x, y] => .ret (.nx ((env.set i (.dat x)).set j (.dat y)))
    | _ => .bad
  | .par3 i j k as, env => (evA as env).bind fun xs => match xs with
    | [x, y, z] => .ret (.nx (((env.set i (.dat x)).set j (.dat y)).set k (.dat z)))
    | _ => .bad
  | .aug i o e, env => (slot env i).bind fun x => (evE e env).bind fun y => (Dr.opt (o.f x y)).bind fun z => .ret (.nx (env.set i (.dat z)))
  | .newO i as, env => (evA as env).bind fun xs => if xs.length ≤ 100000 then .ret (.nx (env.set i (.own xs))) else .bad
  | .newL i e, env => (evE e env).bind fun x => (asSeq x).bind fun xs => .ret (.nx (env.set i (.own xs)))
  | .app i e, env => (ownAt env i).bind fun ds => (evE e env).bind fun x => if ds.length ≤ 100000 then .ret (.nx (env.set i (.own (ds ++ [x])))) else .bad
  | .setix i ix e, env => (ownAt env i).bind fun ds => (evE e env).bind fun x => (evE ix env).bind fun y => (asIx ds.length y).bind fun m => .ret (.nx (env.set i (.own (ds.set m x))))
  | .augix i ix o e, env => (ownAt env i).bind fun ds => (evE ix env).bind fun y => (asIx ds.length y).bind fun m => (Dr.opt ds[m]?).bind fun x => (evE e env).bind fun u => (Dr.opt (o.f x u)).bind fun z => .ret (.nx (env.set i (.own (ds.set m z))))
  | .rev i, env => (ownAt env i).bind fun ds => .ret (.nx (env.set i (.own ds.reverse)))
  | .setsl i ix e, env => (ownAt env i).bind fun ds => (evE e env).bind fun x => (evE ix env).bind fun y => (slPut ds x y).bind fun zs => .ret (.nx (env.set i (.own zs)))
  | .ext i e, env => (ownAt env i).bind fun ds => (evE e env).bind fun x => (exPut ds x).bind fun zs => .ret (.nx (env.set i (.own zs)))
  | .clr i, env => (ownAt env i).bind fun _ => .ret (.nx (env.set i (.own [])))
  | .pop i, env => (ownAt env i).bind fun ds => if ds.isEmpty = true then .bad else .ret (.nx (env.set i (.own ds.dropLast)))
  | .popA g i e, env => (ownAt env i).bind fun ds => (evE e env).bind fun y => (asIx ds.length y).bind fun m => if ds.length ≤ 100000 then (Dr.opt ds[m]?).bind fun x => (Dr.opt (g.put (env.set i (.own (ds.eraseIdx m))) x)).bind fun env' => .ret (.nx env') else .bad
  | .ins i ix e, env => (ownAt env i).bind fun ds => (evE ix env).bind fun y => (evE e env).bind fun x => (insPut ds x y).bind fun zs => .ret (.nx (env.set i (.own zs)))
  | .newE i e, env => (evF e env).bind fun xs => .ret (.nx (env.set i (.own xs)))
  | .par2B i j b, env => (evB b env).bind fun xs => (put2 env i j xs).bind fun env' => .ret (.nx env')
  | .par3B i j k b, env => (evB b env).bind fun xs => (put3 env i j k xs).bind fun env' => .ret (.nx env')
  | .retO i, env => (ownAt env i).bind fun ds => .ret (.rtO ds)
  | .retF e, env => (evF e env).bind fun ds => .ret (.rtO ds)
  | .frz i s, env => (ownAt env i).bind fun ds => evS s (env.set i (.dat (.list ds)))
  | .ret e, env => (evE e env).bind fun x => .ret (.rt x)
  | .cond c a b, env => (evT c env).bind fun q => if q = true then evS a env else evS b env
  | .loop it g b, env => (evI it env).bind fun its => forL (lstep (evS b) g) its env
  | .whil m c b, env => whileL (evT c) (evS b) m env
  | .brk, env => .ret (.bk env)
  | .cnt, env => .ret (.ct env)
  | .drop e, env => (evE e env).bind fun _ => .ret (.nx env)
  | .stuck, _ => .bad
  | .raise c f as, env => (evA as env).bind fun xs => match xs with
    | [x] => .ret (.ex c [(f, x)])
    | _ => .bad
/-! ## defs -/
def startE (N : Nat) (ds : List PyData) : En := ds.map Sl.dat ++ List.replicate (N - ds.length) Sl.unk
def startX (N : Nat) (ds : List PyData) : En := .box :: (ds.map Sl.dat ++ List.replicate (N - (ds.length + 1)) Sl.unk)
def told : Fl → Dr PyData
  | .rt d => .ret d
  | .rtO ds => .ret (.list ds)
  | _ => .bad
/-- a def with p parameters and N slots -/
def run (N p : Nat) (b : S) : Fs := fun ds => if ds.length = p then (evS b (startE N ds)).bind told else .bad
/-- the first parameter a box -/
def runB (N p : Nat) (b : S) : Fs := fun ds => if ds.length + 1 = p then (evS b (startX N ds)).bind told else .bad
/-- may raise -/
inductive Ou where
  | val (d : PyData)
  | exc (c : Nat) (fs : List (Str × PyData))
def toldX : Fl → Dr Ou
  | .rt d => .ret (.val d)
  | .rtO ds => .ret (.val (.list ds))
  | .ex c fs => .ret (.exc c fs)
  | _ => .bad
def runX (N p : Nat) (b : S) : List PyData → Dr Ou := fun ds => if ds.length = p then (evS b (startE N ds)).bind toldX else .bad
end DP

namespace DP
open PySem PySem.Spec PyProof.Rows L2 ZX DL RT
/-- a place: what is written, the addresses of the dicts and classes, what may be raised -/
structure Gq where
  K : PySem.W.Frag
  w : World
  da : Nat → Option Addr
  cls : Nat → Addr
  E : XK
def spD (K : PySem.W.Frag) (f : Fs) : Sp := fun vs H Q _ => ∃ b vs' G ds n Φ, vs = .ref b :: vs' ∧ DDs K G vs' ds ∧ Wd (bx b) n G H ∧ (f ds).ok n Φ ∧ ∀ v d n' G2 H2, Mv (bx b).M G H G2 H2 → Wd (bx b) n' G2 H2 → DD K G2 v d → Φ d n' → Q v H2
abbrev spF (K : PySem.W.Frag) (f : Fs) : Sp := spP K fun ds d => f ds = .ret d
abbrev rLen (K : PySem.W.Frag) : List V → Hp → VK → Prop := fun xs H Q => ∃ p ys, xs = [.ref p] ∧ (SqL K H p ys ∨ SqT K H p ys) ∧ Q (.int ys.length) H
abbrev rList (K : PySem.W.Frag) : List V → Hp → VK → Prop := fun xs H Q => ∃ p ys, xs = [.ref p] ∧ (SqL K H p ys ∨ SqT K H p ys) ∧ ∀ l, H l = none → Q (.ref l) (upd H l (.lst ys))
abbrev rTup (K : PySem.W.Frag) : List V → Hp → VK → Prop := fun xs H Q => ∃ p ys, xs = [.ref p] ∧ ((SqL K H p ys ∧ ∀ l, H l = none → Q (.ref l) (upd H l (.tup ys))) ∨ (SqT K H p ys ∧ Q (.ref p) H))
def gdT (q : Gq) (i : Nat) (te : TE) : TE := match q.da i with
  | some a => tOp (rIxD q.K q.w) (tC (.ref a)) te
  | none => fun _ _ _ => True
/-- a written tuple -/
def KT (K : PySem.W.Frag) (a : Addr) (xs : List V) : Prop := ∃ (o : Obj) (its : Array Value) (n : Nat), K.lookup a = some o ∧ o.cls = .type "tuple" ∧ o.data = .seq its n ∧ its.size ≤ sizeLine ∧ Vals xs its.toList
/-- what is known of the written things -/
structure HD (K : PySem.W.Frag) (w : World) (da : Nat → Option Addr) : Prop where
  d : ∀ i a z d, da i = some a → gds i z = some d → ∃ v, KDct K w a z v ∧ ∀ G, DD K G v d
  t : ∀ i a, da (10 + i) = some a → KT K a ((gts i).map V.str)
def ginT (q : Gq) (i : Nat) (te : TE) : TE := match q.da (10 + i) with
  | some a => tOp (rIn q.K false) te (tC (.ref a))
  | none => fun _ _ _ => True
def glT (q : Gq) (i : Nat) : TI := match q.da (10 + i) with
  | some a => iSeqX q.K (tC (.ref a))
  | none => fun _ _ _ => True
/-- told is a list of its own -/
def spN (K : PySem.W.Frag) (f : Fs) : Sp := fun vs H Q _ => ∃ G ds zs, (∀ a o, G a = some o → H a = some o) ∧ DDs K G vs ds ∧ f ds = .ret (.list zs) ∧ ∀ l xs G2 H2, Mv (fun _ => False) G H G2 H2 → H l = none → G2 l = none → H2 l = some (.lst xs) → DDs K G2 xs zs → Q (.ref l) H2
def Ts.len : Ts → Nat
  | .nil => 0
  | .cons _ r => r.len + 1
mutual
def tG (K : PySem.W.Frag) : Tt → TG
  | .nm i => gName i
  | .tp ts => SS0.gSeq K ts.len (tGs K ts)
def tGs (K : PySem.W.Frag) : Ts → TGs
  | .nil => gNil
  | .cons t r => gCons (tG K t) (tGs K r)
end
mutual
def tE (q : Gq) : E → TE
  | .var i => tVar i
  | .con c => tC c.v
  | .op o a b => tOp (o.rel q.K) (tE q a) (tE q b)
  | .un o a => tUn (o.rel q.K) (tE q a)
  | .cb o as => tCB (o.rel q.K) (tA q as)
  | .sl o e l h => L2.tSl (o.rel q.K) (tE q e) (tP q l) (tP q h)
  | .call f as => tCall (spF q.K f) [] E0 (tA q as)
  | .callN f p as ks => tCallN p.n p.m (spF q.K f) p.gV E0 (tA q as) (tA q ks)
  | .callB f i as => tCall (spD q.K f) [] E0 (tCons (tVar i) (tA q as))
  | .lst as => tLst (tA q as)
  | .tup as => tTup (tA q as)
  | .ite c a b => tIf (tT q c) (tE q a) (tE q b)
  | .and a b => tAndV (tE q a) (tE q b)
  | .or a b => tOrV (tE q a) (tE q b)
  | .chain o o' a b c => tChain (o.rel q.K) (o'.rel q.K) (tE q a) (tE q b) (tE q c)
  | .lc it g vs c e => tLc (tI q it) (tG q.K g) (tT q c) (tE q e) vs
  | .gd i e => gdT q i (tE q e)
  | .gin i e => ginT q i (tE q e)
  | .bm o e as => tBM q.K o.ty (o.rel q.K) (tE q e) (tA q as)
  | .bm0 o e => tBM0 q.K o.ty (o.rel q.K) (tE q e)
  | .olen i => tCB (rLen q.K) (tCons (tVar i) tNil)
  | .oix i e => tOp (rIxL q.K) (tVar i) (tE q e)
  | .osl i l h => L2.tSl (rSlL q.K) (tVar i) (tP q l) (tP q h)
  | .otup i => tCB (rTup q.K) (tCons (tVar i) tNil)
  | .olst i => tCB (rList q.K) (tCons (tVar i) tNil)
  | .brw i e => tE q e
  | .isi o e => tCB (rIsi q.K) (tCons (tE q e) (tCons (tC (.ty o.n)) tNil))
def tA (q : Gq) : A → TA
  | .nil => tNil
  | .cons e r => tCons (tE q e) (tA q r)
def tP (q : Gq) : P → TO
  | .no => tNoPart
  | .at e => tPart (tE q e)
def tT (q : Gq) : T → TT
  | .tru o e => fun σ H Q => tE q e σ H fun x H1 => o.rel q.K x H1 Q
  | .not t => tNot (tT q t)
  | .and t u => tAnd (tT q t) (tT q u)
  | .or t u => tOr (tT q t) (tT q u)
  | .yes => tYes
  | .otru i => fun σ H Q => tVar i σ H fun x H1 => ∃ k, TruV q.K x H1 k ∧ Q k H1
  | .ite c a b => SS0.tIfT (tT q c) (tT q a) (tT q b)
def tI (q : Gq) : I → TI
  | .one o e => fun σ H R => tE q e σ H fun x H1 => o.rel q.K x H1 R
  | .many o as => fun σ H R => tA q as σ H fun xs H1 => o.rel q.K xs H1 R
  | .gl i => glT q i
  | .rrg e => iRevR (tRg1 (tE q e))
end
def tF (q : Gq) : FE → TE
  | .lst as => tLst (tA q as)
  | .op o a b => tOp (o.rel q.K) (tE q a) (tE q b)
  | .cb o as => tCB (o.rel q.K) (tA q as)
  | .un o e => tUn (o.rel q.K) (tE q e)
  | .call f as => tCall (spN q.K f) [] E0 (tA q as)
  | .callN f p as ks => tCallN p.n p.m (spN q.K f) p.gV E0 (tA q as) (tA q ks)
  | .ite c a b => tIf (tT q c) (tF q a) (tF q b)
  | .lc it g vs c e => tLc (tI q it) (tG q.K g) (tT q c) (tE q e) vs
def tB (q : Gq) : B → TA
  | .nil => tNil
  | .consE e r => tCons (tE q e) (tB q r)
  | .consF f r => tCons (tF q f) (tB q r)
/-! ## slots -/
structure Rp (ob : Option Addr) (env : En) (δ : List SD) (W : Own) : Prop where
  len : δ.length = env.length
  dat : ∀ (i : Nat) (d : PyData), env[i]? = some (.dat d) → δ[i]? = some (.dat d)
  own : ∀ (i : Nat) (ds : List PyData), env[i]? = some (.own ds) → ∃ l, δ[i]? = some (.ref l) ∧ (l, .lst ds) ∈ W
  box : ∀ (i : Nat), env[i]? = some Sl.box → ∃ b, ob = some b ∧ δ[i]? = some (.ref b)
  inj : ∀ (i j : Nat) (ds es : List PyData) (l : Addr), env[i]? = some (.own ds) → env[j]? = some (.own es) → δ[i]? = some (.ref l) → δ[j]? = some (.ref l) → i = j
section
variable {ob : Option Addr} {env : En} {δ : List SD} {W : Own} {i : Nat} {d : PyData} {ds es : List PyData} {l : Addr}
theorem set_of {α : Type} {xs : List α} {i j : Nat} {a b : α} (h : (xs.set i a)[j]? = some b) : (i = j ∧ b = a ∧ i < xs.length) ∨ (i ≠ j ∧ xs[j]? = some b) := by
  by_cases e : i = j
  · subst e
    by_cases hi : i < xs.length
    · rw [List.getElem?_set_self hi] at h
      exact .inl ⟨rfl, (Option.some.inj h).symm, hi⟩
    · rw [List.getElem?_eq_none (by rw [List.length_set]; omega)] at h
      cases h
  · rw [List.getElem?_set_ne e] at h
    exact .inr ⟨e, h⟩
theorem Rp.setD (r : Rp ob env δ W) (i : Nat) (d : PyData) : Rp ob (env.set i (.dat d)) (δ.set i (.dat d)) W := by
  refine ⟨by rw [List.length_set, List.length_set, r.len], fun j e h => ?_, fun j ds h => ?_, fun j h => ?_, fun j k ds es l h1 h2 h3 h4 => ?_⟩
  · rcases set_of h with ⟨rfl, e1, hi⟩ | ⟨ne, h⟩
    · cases e1
      exact List.getElem?_set_self (by rw [r.len]; exact hi)
    · rw [List.getElem?_set_ne ne]
      exact r.dat j e h
  · rcases set_of h with ⟨rfl, e1, hi⟩ | ⟨ne, h⟩
    · cases e1
    · rw [List.getElem?_set_ne ne]
      exact r.own j ds h
  · rcases set_of h with ⟨rfl, e1, hi⟩ | ⟨ne, h⟩
    · cases e1
    · rw [List.getElem?_set_ne ne]
      exact r.box j h
  · rcases set_of h1 with ⟨rfl, e1, hi⟩ | ⟨n1, h1⟩
    · cases e1
    · rcases set_of h2 with ⟨rfl, e1, hi⟩ | ⟨n2, h2⟩
      · cases e1
      · rw [List.getElem?_set_ne n1] at h3
        rw [List.getElem?_set_ne n2] at h4
        exact r.inj j k ds es l h1 h2 h3 h4
theorem Rp.setU (r : Rp ob env δ W) (i : Nat) : Rp ob (env.set i .unk) (δ.set i .unk) W := by
  refine ⟨by rw [List.length_set, List.length_set, r.len], fun j e h => ?_, fun j ds h => ?_, fun j h => ?_, fun j k ds es l h1 h2 h3 h4 => ?_⟩
  · rcases set_of h with ⟨rfl, e1, hi⟩ | ⟨ne, h⟩
    · cases e1
    · rw [List.getElem?_set_ne ne]
      exact r.dat j e h
  · rcases set_of h with ⟨rfl, e1, hi⟩ | ⟨ne, h⟩
    · cases e1
    · rw [List.getElem?_set_ne ne]
      exact r.own j ds h
  · rcases set_of h with ⟨rfl, e1, hi⟩ | ⟨ne, h⟩
    · cases e1
    · rw [List.getElem?_set_ne ne]
      exact r.box j h
  · rcases set_of h1 with ⟨rfl, e1, hi⟩ | ⟨n1, h1⟩
    · cases e1
    · rcases set_of h2 with ⟨rfl, e1, hi⟩ | ⟨n2, h2⟩
      · cases e1
      · rw [List.getElem?_set_ne n1] at h3
        rw [List.getElem?_set_ne n2] at h4
        exact r.inj j k ds es l h1 h2 h3 h4
theorem Rp.wipe (r : Rp ob env δ W) : ∀ vs : List Nat, Rp ob (wipeX env vs) (wipeD δ vs) W
  | [] => r
  | v :: vs => (Rp.wipe r vs).setU v
/-- a new own list -/
theorem Rp.new (r : Rp ob env δ W) (h : ∀ c, (l, c) ∉ W) (i : Nat) (ds : List PyData) : Rp ob (env.set i (.own ds)) (δ.set i (.ref l)) ((l, .lst ds) :: W) := by
  refine ⟨by rw [List.length_set, List.length_set, r.len], fun j e h => ?_, fun j es h => ?_, fun j h => ?_, fun j k ds es l' h1 h2 h3 h4 => ?_⟩
  · rcases set_of h with ⟨rfl, e1, hi⟩ | ⟨ne, h⟩
    · cases e1
    · rw [List.getElem?_set_ne ne]
      exact r.dat j e h
  · rcases set_of h with ⟨rfl, e1, hi⟩ | ⟨ne, h⟩
    · cases e1
      exact ⟨l, List.getElem?_set_self (by rw [r.len]; exact hi), List.mem_cons_self ..⟩
    · rw [List.getElem?_set_ne ne]
      obtain ⟨l', a, b⟩ := r.own j es h
      exact ⟨l', a, List.mem_cons_of_mem _ b⟩
  · rcases set_of h with ⟨rfl, e1, hi⟩ | ⟨ne, h⟩
    · cases e1
    · rw [List.getElem?_set_ne ne]
      exact r.box j h
  · have key : ∀ (j : Nat) (ds : List PyData), env[j]? = some (.own ds) → δ[j]? = some (.ref l') → l' ≠ l := fun j ds h1 h3 e => by
      obtain ⟨l2, a, b⟩ := r.own j ds h1
      rw [h3] at a
      cases a
      subst e
      exact h _ b
    rcases set_of h1 with ⟨rfl, e1, hi⟩ | ⟨n1, h1⟩
    · rw [List.getElem?_set_self (by rw [r.len]; exact hi)] at h3
      cases h3
      rcases set_of h2 with ⟨rfl, e1, hi⟩ | ⟨n2, h2⟩
      · rfl
      · rw [List.getElem?_set_ne n2] at h4
        exact absurd rfl (key k es h2 h4)
    · rw [List.getElem?_set_ne n1] at h3
      rcases set_of h2 with ⟨rfl, e1, hi⟩ | ⟨n2, h2⟩
      · rw [List.getElem?_set_self (by rw [r.len]; exact hi)] at h4
        cases h4
        exact absurd rfl (key j ds h1 h3)
      · rw [List.getElem?_set_ne n2] at h4
        exact r.inj j k ds es l' h1 h2 h3 h4
/-- another content -/
theorem Rp.put {j : Nat} (r : Rp ob env δ W) (h : env[i]? = some (.own ds)) (hl : δ[i]? = some (.ref l)) (hW : W[j]? = some (l, .lst ds)) (es : List PyData) : Rp ob (env.set i (.own es)) δ (W.set j (l, .lst es)) := by
  have hj : j < W.length := (List.getElem?_eq_some_iff.mp hW).1
  refine ⟨by rw [List.length_set, r.len], fun k e h => ?_, fun k fs h2 => ?_, fun k h => ?_, fun a b ds' es' l' h1 h2 h3 h4 => ?_⟩
  · rcases set_of h with ⟨rfl, e1, hi⟩ | ⟨ne, h⟩
    · cases e1
    · exact r.dat k e h
  · rcases set_of h2 with ⟨rfl, e1, hi⟩ | ⟨ne, h2⟩
    · cases e1
      exact ⟨l, hl, List.mem_of_getElem? (List.getElem?_set_self hj)⟩
    · obtain ⟨l', a, b⟩ := r.own k fs h2
      refine ⟨l', a, ?_⟩
      obtain ⟨m, hm⟩ := List.mem_iff_getElem?.mp b
      by_cases e : j = m
      · subst e
        rw [hW] at hm
        cases hm
        exact absurd (r.inj i k _ _ l h h2 hl a) ne
      · exact List.mem_of_getElem? (by rw [List.getElem?_set_ne e]; exact hm)
  · rcases set_of h with ⟨rfl, e1, hi⟩ | ⟨ne, h⟩
    · cases e1
    · exact r.box k h
  · have fix : ∀ (a : Nat) (ds' : List PyData), (env.set i (.own es))[a]? = some (.own ds') → ∃ fs, env[a]? = some (.own fs) := fun a ds' h1 => by
      rcases set_of h1 with ⟨rfl, e1, hi⟩ | ⟨ne, h1⟩
      · exact ⟨_, h⟩
      · exact ⟨_, h1⟩
    obtain ⟨f1, g1⟩ := fix a ds' h1
    obtain ⟨f2, g2⟩ := fix b es' h2
    exact r.inj a b f1 f2 l' g1 g2 h3 h4
theorem Rp.frz {j : Nat} (r : Rp ob env δ W) (h : env[i]? = some (.own ds)) (hl : δ[i]? = some (.ref l)) (hW : W[j]? = some (l, .lst ds)) : Rp ob (env.set i (.dat (.list ds))) (δ.set i (.dat (.list ds))) (W.eraseIdx j) := by
  have r1 := r.setD i (.list ds)
  refine ⟨r1.len, r1.dat, fun k fs h2 => ?_, r1.box, r1.inj⟩
  rcases set_of h2 with ⟨rfl, e1, hi⟩ | ⟨ne, h2⟩
  · cases e1
  · rw [List.getElem?_set_ne ne]
    obtain ⟨l', a, b⟩ := r.own k fs h2
    refine ⟨l', a, ?_⟩
    obtain ⟨m, hm⟩ := List.mem_iff_getElem?.mp b
    by_cases e : m = j
    · subst e
      rw [hW] at hm
      cases hm
      exact absurd (r.inj i k _ _ l h h2 hl a) ne
    · exact List.mem_eraseIdx_iff_getElem?.mpr ⟨m, e, hm⟩
end
def mS : Option Addr → MS
  | none => pu
  | some b => bx b
/-- a reading and what it tells -/
def Sm {α ω : Type} (K : PySem.W.Frag) (ob : Option Addr) (tr : L2.St → Hp → (ω → Hp → Prop) → Prop) (rel : Hp → ω → α → Prop) (env : En) (t : Dr α) : Prop :=
  ∀ δ W n Φ, Rp ob env δ W → t.ok n Φ → ∀ σ G H, SlD K G σ δ → Wd (ows K (mS ob) W) n G H → ∀ Q : ω → Hp → Prop, (∀ v a n' G2 H2, Mv (mS ob).M G H G2 H2 → Wd (ows K (mS ob) W) n' G2 H2 → rel G2 v a → Φ a n' → Q v H2) → tr σ H Q
abbrev SE (K : PySem.W.Frag) (ob : Option Addr) (te : TE) (env : En) (t : Dr PyData) : Prop := Sm K ob te (fun G v d => DD K G v d) env t
abbrev SA (K : PySem.W.Frag) (ob : Option Addr) (ta : TA) (env : En) (t : Dr (List PyData)) : Prop := Sm K ob ta (fun G vs ds => DDs K G vs ds) env t
abbrev ST (K : PySem.W.Frag) (ob : Option Addr) (tt : TT) (env : En) (t : Dr Bool) : Prop := Sm K ob tt (fun _ c q => c = q) env t
abbrev SO (K : PySem.W.Frag) (ob : Option Addr) (to : TO) (env : En) (t : Dr (Option Int)) : Prop := Sm K ob to (fun _ c q => c = q) env t
/-- a new list -/
def SF (K : PySem.W.Frag) (ob : Option Addr) (tr : TE) (env : En) (t : Dr (List PyData)) : Prop :=
  ∀ δ W n Φ, Rp ob env δ W → t.ok n Φ → ∀ σ G H, SlD K G σ δ → Wd (ows K (mS ob) W) n G H → ∀ Q : VK, (∀ l xs ds n' G2 H2, Mv (mS ob).M G H G2 H2 → Wd (ows K (mS ob) W) n' G2 H2 → H l = none → G2 l = none → H2 l = some (.lst xs) → DDs K G2 xs ds → Φ ds n' → Q (.ref l) H2) → tr σ H Q
abbrev SI (K : PySem.W.Frag) (ob : Option Addr) (ti : TI) (env : En) (t : Dr (List PyData)) : Prop := Sm K ob ti (fun G J its => Wk K G J its) env t
/-- targets -/
def Tgs (K : PySem.W.Frag) (g : TGs) (ds : List PyData) (δ δ' : List SD) (vs : List Nat) : Prop :=
  ∀ xs σ G H, SlD K G σ δ → DDs K G xs ds → (∀ a o, G a = some o → H a = some o) → ∀ Q : L2.St → Hp → Prop, (∀ σ2, SlD K G σ2 δ' → wipe σ2 vs = wipe σ vs → Q σ2 H) → g xs σ H Q
theorem wipe_set (σ : L2.St) (i : Nat) (o : Option V) : ∀ vs : List Nat, i ∈ vs → wipe (σ.set i o) vs = wipe σ vs := fun vs h => by
  refine List.ext_getElem? fun j => ?_
  by_cases hj : j < σ.length
  · by_cases hm : j ∈ vs
    · rw [wipe_get _ vs j (by rw [List.length_set]; exact hj) hm, wipe_get σ vs j hj hm]
    · rw [wipe_out hm, wipe_out hm, List.getElem?_set_ne (show i ≠ j from fun e => hm (e ▸ h))]
  · rw [List.getElem?_eq_none (by rw [wipe_length, List.length_set]; omega), List.getElem?_eq_none (by rw [wipe_length]; omega)]
theorem wipe_more (σ σ2 : L2.St) (hl : σ.length = σ2.length) (vs us : List Nat) (hs : ∀ i ∈ vs, i ∈ us) (h : wipe σ2 vs = wipe σ vs) : wipe σ2 us = wipe σ us := by
  refine List.ext_getElem? fun j => ?_
  by_cases hj : j < σ.length
  · by_cases hm : j ∈ us
    · rw [wipe_get _ us j (by omega) hm, wipe_get σ us j hj hm]
    · rw [wipe_out hm, wipe_out hm]
      have n : j ∉ vs := fun z => hm (hs j z)
      have := congrArg (fun l : L2.St => l[j]?) h
      simp only [wipe_out n] at this
      exact this
  · rw [List.getElem?_eq_none (by rw [wipe_length]; omega), List.getElem?_eq_none (by rw [wipe_length]; omega)]
section
variable {K : PySem.W.Frag} {ob : Option Addr} {W : Own}
theorem SlD.len {G : Hp} {σ : L2.St} {δ : List SD} (q : SlD K G σ δ) : σ.length = δ.length := q.1
mutual
theorem sG : ∀ (g : Tt) {env env' : En} {d : PyData} {δ : List SD}, g.put env d = some env' → Rp ob env δ W → ∃ δ', Rp ob env' δ' W ∧ δ'.length = δ.length ∧ Tg K (tG K g) d δ δ' g.vs
  | .nm i, env, env', d, δ, h, r => by
    cases h
    exact ⟨_, r.setD i d, by rw [List.length_set], tg_name⟩
  | .tp ts, env, env', d, δ, h, r => by
    cases d with
    | tuple ds =>
      obtain ⟨δ', r', hl, n, t⟩ := sGs ts (show ts.puts env ds = some env' from h) r
      refine ⟨δ', r', hl, fun x σ G H q hx hs Q hQ => ?_⟩
      cases hx with
      | @tup a xs _ hh tt => exact .inl ⟨a, xs, rfl, .inl (.inl (hs _ _ hh)), by rw [tt.len]; exact n, t xs σ G H q tt hs Q hQ⟩
    | none => cases h
    | bool _ => cases h
    | int _ => cases h
    | str _ => cases h
    | list ds =>
      obtain ⟨δ', r', hl, n, t⟩ := sGs ts (show ts.puts env ds = some env' from h) r
      refine ⟨δ', r', hl, fun x σ G H q hx hs Q hQ => ?_⟩
      cases hx with
      | @lst a xs _ hh tt => exact .inr ⟨a, xs, rfl, .inl (.inl (hs _ _ hh)), by rw [tt.len]; exact n, t xs σ G H q tt hs Q hQ⟩
    | dict _ => cases h
theorem sGs : ∀ (g : Ts) {env env' : En} {ds : List PyData} {δ : List SD}, g.puts env ds = some env' → Rp ob env δ W → ∃ δ', Rp ob env' δ' W ∧ δ'.length = δ.length ∧ ds.length = g.len ∧ Tgs K (tGs K g) ds δ δ' g.vs
  | .nil, env, env', ds, δ, h, r => by
    cases ds with
    | nil =>
      cases h
      refine ⟨δ, r, rfl, rfl, fun xs σ G H q hx hs Q hQ => ?_⟩
      cases hx
      exact ⟨rfl, hQ σ q rfl⟩
    | cons d ds => cases h
  | .cons t g, env, env', ds, δ, h, r => by
    cases ds with
    | nil => cases h
    | cons d ds =>
      obtain ⟨env1, h1, h2⟩ := Option.bind_eq_some_iff.mp (show (t.put env d).bind _ = some env' from h)
      obtain ⟨δ1, r1, l1, t1⟩ := sG t h1 r
      obtain ⟨δ2, r2, l2, n2, t2⟩ := sGs g h2 r1
      refine ⟨δ2, r2, l2.trans l1, congrArg Nat.succ n2, fun xs σ G H q hx hs Q hQ => ?_⟩
      cases hx with
      | cons hx ht =>
        refine ⟨_, _, rfl, t1 _ σ G H q hx hs _ fun σ1 q1 e1 => t2 _ σ1 G H q1 ht hs _ fun σ2 q2 e2 => hQ σ2 q2 ?_⟩
        have a1 : σ.length = σ1.length := by rw [q.1, q1.1, l1]
        have a2 : σ1.length = σ2.length := by rw [q1.1, q2.1, l2]
        have b1 := wipe_more σ σ1 a1 _ (Ts.vs (.cons t g)) (fun i hi => by simp [Ts.vs, hi]) e1
        have b2 := wipe_more σ1 σ2 a2 _ (Ts.vs (.cons t g)) (fun i hi => by simp [Ts.vs, hi]) e2
        exact b2.trans b1
end
end
end DP

namespace DP
open PySem PySem.Spec PyProof.Rows L2 ZX DL RT
theorem slot_ok {env : En} {i n : Nat} {Φ : PyData → Nat → Prop} (h : (slot env i).ok n Φ) : ∃ d, env[i]? = some (.dat d) ∧ Φ d n := by
  unfold slot at h
  split at h
  · rename_i d e
    exact ⟨d, e, h⟩
  · exact h.elim
theorem own_ok {env : En} {i n : Nat} {Φ : List PyData → Nat → Prop} (h : (ownAt env i).ok n Φ) : ∃ ds, env[i]? = some (.own ds) ∧ Φ ds n := by
  unfold ownAt at h
  split at h
  · rename_i d e
    exact ⟨d, e, h⟩
  · exact h.elim
theorem box_ok {env : En} {i n : Nat} {Φ : Unit → Nat → Prop} (h : (boxAt env i).ok n Φ) : env[i]? = some Sl.box ∧ Φ () n := by
  unfold boxAt at h
  split at h
  · rename_i e
    exact ⟨e, h⟩
  · exact h.elim
theorem small_ok {l : List PyData} {t : Dr PyData} {n : Nat} {Φ : PyData → Nat → Prop} (h : (small l t).ok n Φ) : l.length ≤ 100000 ∧ t.ok n Φ := by
  unfold small at h
  split at h
  · rename_i e
    exact ⟨e, h⟩
  · exact h.elim
theorem within_ok {us vs : List Nat} {t : Dr PyData} {n : Nat} {Φ : PyData → Nat → Prop} (h : (within us vs t).ok n Φ) : (∀ i ∈ us, i ∈ vs) ∧ t.ok n Φ := by
  unfold within at h
  split at h
  · rename_i e
    exact ⟨fun i hi => by simpa using List.all_eq_true.mp e i hi, h⟩
  · exact h.elim
theorem vds_dat {K : PySem.W.Frag} {G : Hp} : ∀ {vs : List V} {ds : List PyData}, DDs K G vs ds → VDs K G vs (ds.map SD.dat)
  | _, _, .nil => .nil
  | _, _, .cons h t => .cons h (vds_dat t)
theorem ows_box' {K : PySem.W.Frag} {ob : Option Addr} {b : Addr} {W : Own} {r r' : Nat} {G H G2 H2 : Hp} (eb : ob = some b) (w : Wd (ows K (mS ob) W) r' G H) (m : Mv (bx b).M G H G2 H2) (w2 : Wd (bx b) r G2 H2) : Mv (ows K (mS ob) W).M G H G2 H2 ∧ Wd (ows K (mS ob) W) r G2 H2 := by
  subst eb
  exact ows_box w m w2
theorem ows_down' {K : PySem.W.Frag} {ob : Option Addr} {b : Addr} {W : Own} {r : Nat} {G H : Hp} (eb : ob = some b) (w : Wd (ows K (mS ob) W) r G H) : Wd (bx b) r G H := by
  subst eb
  exact ows_down w
theorem in_strs' (z : Str) : ∀ ss : List Str, inV (.str z) (ss.map V.str) = ss.contains z
  | [] => rfl
  | x :: ss => by
    show (eqV (.str x) (.str z) || inV (.str z) (ss.map V.str)) = ((z == x) || ss.contains z)
    rw [in_strs' z ss]
    congr 1
    show (x == z) = (z == x)
    by_cases e : x = z
    · subst e
      rfl
    · rw [beq_eq_false_iff_ne.mpr e, beq_eq_false_iff_ne.mpr (Ne.symm e)]
theorem flat_strs' : ∀ ss : List Str, (ss.map V.str).all flatV = true
  | [] => rfl
  | x :: ss => by
    show (true && (ss.map V.str).all flatV) = true
    rw [flat_strs' ss]
    rfl
theorem revRg_ok {d : PyData} {n : Nat} {Φ : List PyData → Nat → Prop} (h : (revRg d).ok n Φ) : ∃ k, d = .int k ∧ k < 2 ^ 62 ∧ -(2 ^ 62) ≤ k ∧ Φ ((List.range k.toNat).reverse.map fun j => .int (j : Nat)) n := by
  unfold revRg at h
  split at h
  · split at h
    · rename_i k hc
      exact ⟨k, rfl, hc.1, hc.2, h⟩
    · exact h.elim
  · exact h.elim
theorem both_ok {l : List PyData} {us vs : List Nat} {t : Dr (List PyData)} {n : Nat} {Φ : List PyData → Nat → Prop} (h : (if l.length ≤ 100000 ∧ us.all (vs.contains ·) = true then t else .bad).ok n Φ) : l.length ≤ 100000 ∧ (∀ i ∈ us, i ∈ vs) ∧ t.ok n Φ := by
  split at h
  · rename_i hc
    refine ⟨hc.1, fun i hi => ?_, h⟩
    simpa using List.all_eq_true.mp hc.2 i hi
  · exact h.elim
theorem mS_any : ∀ (ob : Option Addr) {r : Nat} {G G' H : Hp}, (mS ob).inv r G H → (mS ob).inv r G' H
  | none, _, _, _, _, h => h
  | some _, _, _, _, _, h => h
theorem flatR_ok {K : PySem.W.Frag} {G : Hp} {v : V} {d : PyData} {n : Nat} {Φ : PyData → Nat → Prop} (hv : DD K G v d) (h : (flatR d).ok n Φ) : (∀ G', DD K G' v d) ∧ Φ d n := by
  cases hv with
  | non => exact ⟨fun _ => .non, h⟩
  | bl b => exact ⟨fun _ => .bl b, h⟩
  | int i => exact ⟨fun _ => .int i, h⟩
  | str x => exact ⟨fun _ => .str x, h⟩
  | lst _ _ => exact h.elim
  | tup _ _ => exact h.elim
/-- an own list is known for a while -/
theorem own_brw {K : PySem.W.Frag} {S0 : MS} {W : Own} {r j : Nat} {l : Addr} {ds : List PyData} {G H : Hp} (hG : ∀ {r G G' H}, S0.inv r G H → S0.inv r G' H) (w : Wd (ows K S0 W) r G H) (hW : W[j]? = some (l, .lst ds)) :
    ∃ G1, DD K G1 (.ref l) (.list ds) ∧ (∀ a o, G a = some o → G1 a = some o) ∧ Wd (ows K S0 (W.eraseIdx j)) r G1 H ∧ ∀ {n' G2 H2}, Mv S0.M G1 H G2 H2 → Wd (ows K S0 (W.eraseIdx j)) n' G2 H2 → ∃ G3, Mv S0.M G H G3 H2 ∧ Wd (ows K S0 W) n' G3 H2 := by
  obtain ⟨nM, nG, xs, hl, dd⟩ := own_lst w hW
  have hj : j < W.length := (List.getElem?_eq_some_iff.mp hW).1
  obtain ⟨h1, nd, h2⟩ := w.inv
  have g1 : ∀ a o, G a = some o → upd G l (.lst xs) a = some o := fun a o e => by
    rw [upd_ne (ne_of_none e nG)]
    exact e
  have sub1 : ∀ a o, upd G l (.lst xs) a = some o → H a = some o := fun a o e => by
    by_cases ea : a = l
    · rw [ea, upd_same] at e
      rw [ea, ← e]
      exact hl
    · rw [upd_ne ea] at e
      exact w.sub a o e
  have hin : ∀ {a}, Own.has (W.eraseIdx j) a → W.has a := fun ⟨c, m⟩ => ⟨c, List.mem_of_mem_eraseIdx m⟩
  have hne : ∀ {a}, Own.has (W.eraseIdx j) a → a ≠ l := fun {a} ⟨c, m⟩ z => by
    subst z
    obtain ⟨i', hi', hn, e2⟩ := List.mem_eraseIdx_iff_getElem.mp m
    have e1 : (W.map (·.1))[j]'(by rw [List.length_map]; exact hj) = a := by rw [List.getElem_map, (List.getElem?_eq_some_iff.mp hW).2]
    have e3 : (W.map (·.1))[i']'(by rw [List.length_map]; exact hi') = a := by rw [List.getElem_map, e2]
    exact hn ((List.getElem_inj nd).mp (e3.trans e1.symm))
  refine ⟨upd G l (.lst xs), DD.lst upd_same (dd.mono g1), g1, ?_, fun {n' G2 H2} m w2 => ?_⟩
  · refine ⟨sub1, fun a m => ?_, S0.fr h1 g1 fun _ _ _ e => e, ?_, fun l' c hm => ?_⟩
    · rcases m with m | m
      · rw [upd_ne (show a ≠ l from fun z => nM (z ▸ m))]
        exact w.no a (.inl m)
      · rw [upd_ne (hne m)]
        exact w.no a (.inr (hin m))
    · exact List.Pairwise.sublist ((List.eraseIdx_sublist W j).map _) nd
    · obtain ⟨n, o, e, q⟩ := h2 l' c (List.mem_of_mem_eraseIdx hm)
      exact ⟨n, o, e, q.mono g1⟩
  · let G3 : Hp := fun a => if a = l then none else G2 a
    have e3 : ∀ a, a ≠ l → G3 a = G2 a := fun a n => if_neg n
    have e0 : G3 l = none := if_pos rfl
    have gr3 : ∀ a o, G a = some o → G3 a = some o := fun a o e => by
      rw [e3 a (ne_of_none e nG)]
      exact m.gr a o (g1 a o e)
    have sub3 : ∀ a o, G3 a = some o → G2 a = some o := fun a o e => by
      by_cases ea : a = l
      · rw [ea, e0] at e
        cases e
      · rw [← e3 a ea]
        exact e
    have old3 : ∀ a o, H a = some o → G3 a = G a := fun a o e => by
      by_cases ea : a = l
      · rw [ea, e0, nG]
      · rw [e3 a ea, m.old a o e, upd_ne ea]
    refine ⟨G3, ⟨gr3, fun a o e => m.sub a o (sub3 a o e), old3, m.kp, m.dom⟩, fun a o e => w2.sub a o (sub3 a o e), fun a ha => ?_, ?_, nd, fun l' c hm => ?_⟩
    · obtain ⟨o, eo⟩ := (ows K S0 W).dom w.inv ha
      rw [old3 a o eo]
      exact w.no a ha
    · exact hG w2.inv.1
    · obtain ⟨n, o, e, q⟩ := h2 l' c hm
      exact ⟨n, o, m.kp l' o e n, q.mono gr3⟩
theorem asLst_ok {d : PyData} {n : Nat} {Φ : List PyData → Nat → Prop} (h : (asLst d).ok n Φ) : ∃ ds, d = .list ds ∧ Φ ds n := by
  cases d with
  | list ds => exact ⟨ds, rfl, h⟩
  | tuple ds => exact h.elim
  | none => exact h.elim
  | bool _ => exact h.elim
  | int _ => exact h.elim
  | str _ => exact h.elim
  | dict _ => exact h.elim
theorem old_none {M : Addr → Prop} {G H G1 H1 : Hp} {l : Addr} (m : Mv M G H G1 H1) (h : H1 l = none) : H l = none := by
  cases e : H l with
  | none => rfl
  | some o =>
    obtain ⟨u, eu⟩ := m.dom l o e
    rw [h] at eu
    cases eu
/-- a new thing, not yet known -/
theorem new_side {M : Addr → Prop} {S : MS} {G H G1 H1 : Hp} {n : Nat} {p : Addr} (m : Mv M G H G1 H1) (w : Wd S n G1 H1) (np : H1 p = none) (o : HO) : Mv M G H G1 (upd H1 p o) ∧ Wd S n G1 (upd H1 p o) ∧ H p = none ∧ G1 p = none := by
  have k : ∀ a u, H1 a = some u → upd H1 p o a = some u := fun a u e => by
    rw [upd_ne (ne_of_none e np)]
    exact e
  refine ⟨⟨m.gr, fun a u e => k a u (m.sub a u e), m.old, fun a u e n => k a u (m.kp a u e n), fun a u e => ?_⟩, ⟨fun a u e => k a u (w.sub a u e), w.no, S.fr w.inv (fun _ _ e => e) fun a u _ e => k a u e⟩, old_none m np, ?_⟩
  · obtain ⟨z, ez⟩ := m.dom a u e
    exact ⟨z, k a z ez⟩
  · cases e : G1 p with
    | none => rfl
    | some u =>
      rw [w.sub p u e] at np
      cases np
section
variable {q : Gq} {ob : Option Addr} (hD : HD q.K q.w q.da)
include hD
mutual
theorem sE : ∀ (e : E) (env : En), SE q.K ob (tE q e) env (evE e env)
  | .var i, env => fun δ W n Φ hR hk σ G H hq w Q hQ => by
    obtain ⟨d, e, hk⟩ := slot_ok hk
    obtain ⟨v, ev, dv⟩ := hq.dat (hR.dat i d e)
    exact ⟨v, ev, hQ v d n G H (Mv.refl w.sub) w dv hk⟩
  | .con c, env => fun δ W n Φ hR hk σ G H hq w Q hQ => hQ c.v c.d n G H (Mv.refl w.sub) w (c.ok q.K G) hk
  | .op o a b, env => fun δ W n Φ hR hk σ G H hq w Q hQ => by
    refine sE a env δ W n _ hR (Dr.ok_bind.mp hk) σ G H hq w _ fun v d n1 G1 H1 m1 w1 hv hk1 => ?_
    refine sE b env δ W n1 _ hR (Dr.ok_bind.mp hk1) σ G1 H1 (hq.mono m1.gr) w1 _ fun u e n2 G2 H2 m2 w2 hu hk2 => ?_
    obtain ⟨z, ez, hk3⟩ := Dr.ok_opt hk2
    refine o.ok q.K d e z ez v u G2 H2 (hv.mono m2.gr) hu w2.sub Q fun y s G3 H3 m3 hy hs => ?_
    subst hs
    exact hQ y z n2 G3 H3 ((m1.trans m2).trans (m3.weak fun _ f => f.elim)) (w2.pure m3) hy hk3
  | .un o a, env => fun δ W n Φ hR hk σ G H hq w Q hQ => by
    refine sE a env δ W n _ hR (Dr.ok_bind.mp hk) σ G H hq w _ fun v d n1 G1 H1 m1 w1 hv hk1 => ?_
    obtain ⟨z, ez, hk3⟩ := Dr.ok_opt hk1
    exact o.ok q.K d z ez v G1 H1 hv w1.sub Q fun y G3 H3 m3 hy => hQ y z n1 G3 H3 (m1.trans (m3.weak fun _ f => f.elim)) (w1.pure m3) hy hk3
  | .cb o as, env => fun δ W n Φ hR hk σ G H hq w Q hQ => by
    refine sA as env δ W n _ hR (Dr.ok_bind.mp hk) σ G H hq w _ fun v d n1 G1 H1 m1 w1 hv hk1 => ?_
    obtain ⟨z, ez, hk3⟩ := Dr.ok_opt hk1
    refine o.ok q.K d z ez v G1 H1 (vds_dat hv) w1.sub Q fun y s G3 H3 m3 hy hs => ?_
    subst hs
    exact hQ y z n1 G3 H3 (m1.trans (m3.weak fun _ f => f.elim)) (w1.pure m3) hy hk3
  | .sl o e l h, env => fun δ W n Φ hR hk σ G H hq w Q hQ => by
    refine sE e env δ W n _ hR (Dr.ok_bind.mp hk) σ G H hq w _ fun v d n1 G1 H1 m1 w1 hv hk1 => ?_
    refine sP l env δ W n1 _ hR (Dr.ok_bind.mp hk1) σ G1 H1 (hq.mono m1.gr) w1 _ fun u e2 n2 G2 H2 m2 w2 hu hk2 => ?_
    refine sP h env δ W n2 _ hR (Dr.ok_bind.mp hk2) σ G2 H2 ((hq.mono m1.gr).mono m2.gr) w2 _ fun u3 e3 n3 G3 H3 m3 w3 hu3 hk3 => ?_
    obtain ⟨z, ez, hk4⟩ := Dr.ok_opt hk3
    subst hu hu3
    exact o.ok q.K d _ _ z ez v G3 H3 ((hv.mono m2.gr).mono m3.gr) w3.sub Q fun y G4 H4 m4 hy => hQ y z n3 G4 H4 (((m1.trans m2).trans m3).trans (m4.weak fun _ f => f.elim)) (w3.pure m4) hy hk4
  | .call f as, env => fun δ W n Φ hR hk σ G H hq w Q hQ => by
    refine sA as env δ W n _ hR (Dr.ok_bind.mp hk) σ G H hq w _ fun v d n1 G1 H1 m1 w1 hv hk1 => ?_
    obtain ⟨z, ez, hk3⟩ := Dr.ok_pur hk1
    rw [List.append_nil]
    exact ⟨G1, d, z, w1.sub, hv, ez, fun y G3 H3 m3 hy => hQ y z n1 G3 H3 (m1.trans (m3.weak fun _ f => f.elim)) (w1.pure m3) hy hk3⟩
  | .callN f p as ks, env => fun δ W n Φ hR hk σ G H hq w Q hQ => by
    refine sA as env δ W n _ hR (Dr.ok_bind.mp hk) σ G H hq w _ fun v d n1 G1 H1 m1 w1 hv hk1 => ?_
    refine sA ks env δ W n1 _ hR (Dr.ok_bind.mp hk1) σ G1 H1 (hq.mono m1.gr) w1 _ fun u e n2 G2 H2 m2 w2 hu hk2 => ?_
    by_cases hc : d.length = p.n ∧ e.length = p.m
    · rw [if_pos hc] at hk2
      obtain ⟨z, ez, hk3⟩ := Dr.ok_pur hk2
      have hv2 := hv.mono m2.gr
      exact ⟨hv.len.trans hc.1, hu.len.trans hc.2, G2, _, z, w2.sub, p.ok q.K G2 _ _ _ _ hv2 hu hc.1 hc.2, ez, fun y G3 H3 m3 hy => hQ y z n2 G3 H3 ((m1.trans m2).trans (m3.weak fun _ f => f.elim)) (w2.pure m3) hy hk3⟩
    · rw [if_neg hc] at hk2
      exact hk2.elim
  | .callB f i as, env => fun δ W n Φ hR hk σ G H hq w Q hQ => by
    obtain ⟨hb, hk⟩ := box_ok (Dr.ok_bind.mp hk)
    obtain ⟨b, eb, hδ⟩ := hR.box i hb
    refine ⟨_, hq.ref hδ, ?_⟩
    refine sA as env δ W n _ hR (Dr.ok_bind.mp hk) σ G H hq w _ fun v d n1 G1 H1 m1 w1 hv hk1 => ?_
    show spD q.K f ((V.ref b :: v) ++ []) H1 Q E0
    rw [List.append_nil]
    refine ⟨b, v, G1, d, n1, Φ, rfl, hv, ows_down' eb w1, hk1, fun y z n2 G3 H3 m3 w3 hy hz => ?_⟩
    obtain ⟨_, w4⟩ := ows_box' eb w1 m3 w3
    have m4 : Mv (mS ob).M G1 H1 G3 H3 := by
      subst eb
      exact m3
    exact hQ y z n2 G3 H3 (m1.trans m4) w4 hy hz
  | .lst as, env => fun δ W n Φ hR hk σ G H hq w Q hQ => by
    refine sA as env δ W n _ hR (Dr.ok_bind.mp hk) σ G H hq w _ fun v d n1 G1 H1 m1 w1 hv hk1 => ?_
    obtain ⟨hl, hk2⟩ := small_ok hk1
    exact ⟨Nat.le_trans (by rw [hv.len]; exact hl) (by decide), fun p np => hQ _ (.list d) n1 _ _ (m1.trans (Mv.new w1.sub np)) (w1.new np) (DD.lst upd_same (hv.mono (Mv.new (M := (ows q.K (mS ob) W).M) w1.sub np).gr)) hk2⟩
  | .tup as, env => fun δ W n Φ hR hk σ G H hq w Q hQ => by
    refine sA as env δ W n _ hR (Dr.ok_bind.mp hk) σ G H hq w _ fun v d n1 G1 H1 m1 w1 hv hk1 => ?_
    obtain ⟨hl, hk2⟩ := small_ok hk1
    exact ⟨Nat.le_trans (by rw [hv.len]; exact hl) (by decide), fun p np => hQ _ (.tuple d) n1 _ _ (m1.trans (Mv.new w1.sub np)) (w1.new np) (DD.tup upd_same (hv.mono (Mv.new (M := (ows q.K (mS ob) W).M) w1.sub np).gr)) hk2⟩
  | .ite c a b, env => fun δ W n Φ hR hk σ G H hq w Q hQ => by
    refine sT c env δ W n _ hR (Dr.ok_bind.mp hk) σ G H hq w _ fun v d n1 G1 H1 m1 w1 hv hk1 => ?_
    cases hv
    cases v with
    | true => exact iteT (sE a env δ W n1 _ hR hk1 σ G1 H1 (hq.mono m1.gr) w1 Q fun y z n2 G2 H2 m2 w2 hy hz => hQ y z n2 G2 H2 (m1.trans m2) w2 hy hz)
    | false => exact iteF (sE b env δ W n1 _ hR hk1 σ G1 H1 (hq.mono m1.gr) w1 Q fun y z n2 G2 H2 m2 w2 hy hz => hQ y z n2 G2 H2 (m1.trans m2) w2 hy hz)
  | .and a b, env => fun δ W n Φ hR hk σ G H hq w Q hQ => by
    refine sE a env δ W n _ hR (Dr.ok_bind.mp hk) σ G H hq w _ fun v d n1 G1 H1 m1 w1 hv hk1 => ?_
    cases hv with
    | bl c =>
      refine ⟨c, rfl, ?_⟩
      cases c with
      | true => exact iteT (sE b env δ W n1 _ hR hk1 σ G1 H1 (hq.mono m1.gr) w1 Q fun y z n2 G2 H2 m2 w2 hy hz => hQ y z n2 G2 H2 (m1.trans m2) w2 hy hz)
      | false => exact iteF (hQ _ (.bool false) n1 G1 H1 m1 w1 (.bl false) hk1)
    | non => exact hk1.elim
    | int _ => exact hk1.elim
    | str _ => exact hk1.elim
    | lst _ _ => exact hk1.elim
    | tup _ _ => exact hk1.elim
  | .or a b, env => fun δ W n Φ hR hk σ G H hq w Q hQ => by
    refine sE a env δ W n _ hR (Dr.ok_bind.mp hk) σ G H hq w _ fun v d n1 G1 H1 m1 w1 hv hk1 => ?_
    cases hv with
    | bl c =>
      refine ⟨c, rfl, ?_⟩
      cases c with
      | false => exact iteF (sE b env δ W n1 _ hR hk1 σ G1 H1 (hq.mono m1.gr) w1 Q fun y z n2 G2 H2 m2 w2 hy hz => hQ y z n2 G2 H2 (m1.trans m2) w2 hy hz)
      | true => exact iteT (hQ _ (.bool true) n1 G1 H1 m1 w1 (.bl true) hk1)
    | non => exact hk1.elim
    | int _ => exact hk1.elim
    | str _ => exact hk1.elim
    | lst _ _ => exact hk1.elim
    | tup _ _ => exact hk1.elim
  | .chain o o' a b c, env => fun δ W n Φ hR hk σ G H hq w Q hQ => by
    refine sE a env δ W n _ hR (Dr.ok_bind.mp hk) σ G H hq w _ fun v d n1 G1 H1 m1 w1 hv hk1 => ?_
    refine sE b env δ W n1 _ hR (Dr.ok_bind.mp hk1) σ G1 H1 (hq.mono m1.gr) w1 _ fun u e n2 G2 H2 m2 w2 hu hk2 => ?_
    obtain ⟨z, ez, hk3⟩ := Dr.ok_opt (Dr.ok_bind.mp hk2)
    refine o.ok q.K d e z ez v u G2 H2 (hv.mono m2.gr) hu w2.sub _ fun y s G3 H3 m3 hy hs => ?_
    subst hs
    have w3 := w2.pure m3
    have m03 := (m1.trans m2).trans (m3.weak (M' := (mS ob).M) fun _ f => f.elim)
    cases (show DD q.K G3 y z from hy) with
    | bl k =>
      refine ⟨k, rfl, ?_⟩
      cases k with
      | false => exact iteF (hQ _ (.bool false) n2 G3 H3 m03 w3 (.bl false) hk3)
      | true =>
        refine iteT (sE c env δ W n2 _ hR (Dr.ok_bind.mp hk3) σ G3 H3 (hq.mono m03.gr) w3 _ fun x5 d5 n5 G5 H5 m5 w5 h5 hk5 => ?_)
        obtain ⟨z6, ez6, hk6⟩ := Dr.ok_opt hk5
        refine o'.ok q.K e d5 z6 ez6 u x5 G5 H5 ((hu.mono m3.gr).mono m5.gr) h5 w5.sub Q fun y6 s6 G6 H6 m6 h6 e6 => ?_
        subst e6
        exact hQ y6 z6 n5 G6 H6 ((m03.trans m5).trans (m6.weak fun _ f => f.elim)) (w5.pure m6) h6 hk6
    | non => exact hk3.elim
    | int _ => exact hk3.elim
    | str _ => exact hk3.elim
    | lst _ _ => exact hk3.elim
    | tup _ _ => exact hk3.elim
  | .lc it g vs c e, env => fun δ W n Φ hR hk σ G H hq w Q hQ => by
    refine sI it env δ W n _ hR (Dr.ok_bind.mp hk) σ G H hq w _ fun J its n2 G2 H2 m w2 ⟨A, Y, wk, hA, hY⟩ hk1 D nD => ?_
    obtain ⟨hl, hk2'⟩ := small_ok hk1
    obtain ⟨hvs, hk2⟩ := within_ok hk2'
    have nG : G2 D = none := by
      cases e : G2 D with
      | none => rfl
      | some o =>
        rw [w2.sub D o e] at nD
        cases nD
    have nM : ¬ (ows q.K (mS ob) W).M D := fun z => by
      obtain ⟨o, e⟩ := (ows q.K (mS ob) W).dom w2.inv z
      rw [e] at nD
      cases nD
    refine lc_it wk (fun i H3 => ∃ G3 acc ds n3, Mv (mS ob).M G2 H2 G3 H3 ∧ G3 D = none ∧ H3 D = some (.lst acc) ∧ Wd (ows q.K (mS ob) W) n3 G3 H3 ∧ DDs q.K G3 acc ds ∧ ds.length ≤ i ∧ ((compr _ (its.drop i)).bind fun l => Dr.ret (.list (ds ++ l))).ok n3 Φ)
      ⟨G2, [], [], n2, (Mv.refl w2.sub).loc nD nG, nG, upd_same, w2.loc nG nM, .nil, Nat.le_refl _, hk2⟩ (fun i H3 _ ⟨G3, acc, ds, n3, m3, _⟩ => hA H3 fun a o e => m3.sub a o (m3.gr a o e)) ?_ ?_
    · rintro i x H3 H4 hi ⟨G3, acc, ds, n3, m3, n3', h3, w3, dd, el, hk3⟩ y
      have hd : its[i]? = some its[i] := List.getElem?_eq_getElem hi
      obtain ⟨G4, m4', dx⟩ := hY i its[i] G3 H3 x H4 hd m3.gr w3.sub y
      have m4 := m4'.weak (M' := (mS ob).M) fun _ f => f.elim
      have w4 := w3.pure m4'
      have n4 : G4 D = none := (m4.old D _ h3).trans n3'
      have h4 : H4 D = some (.lst acc) := m4.kp D _ h3 fun z => nM (.inl z)
      rw [List.drop_eq_getElem_cons hi] at hk3
      have hk4 := Dr.ok_bind.mp (Dr.ok_bind.mp (Dr.ok_bind.mp hk3))
      obtain ⟨env', ep, hk5⟩ := Dr.ok_opt hk4
      obtain ⟨δ', hR', hlen, tg⟩ := sG (K := q.K) g ep (hR.wipe vs)
      have q4 := hq.mono fun a o e => m4.gr a o (m3.gr a o (m.gr a o e))
      refine tg x (wipe σ vs) G4 H4 (q4.wipe vs) dx w4.sub _ fun σ2 q2 e2 => ⟨(wipe_more _ _ (by rw [q2.1, hlen, (q4.wipe vs).1]) g.vs vs hvs e2).trans (wipe_idem σ vs), ?_⟩
      refine sT c env' δ' W n3 _ hR' (Dr.ok_bind.mp hk5) σ2 G4 H4 q2 w4 _ fun b b' n5 G5 H5 m5 w5 hb hk6 => ?_
      cases hb
      have n5' : G5 D = none := (m5.old D _ h4).trans n4
      have h5 : H5 D = some (.lst acc) := m5.kp D _ h4 fun z => nM (.inl z)
      cases b with
      | true =>
        refine iteT (sE e env' δ' W n5 _ hR' (Dr.ok_bind.mp hk6) σ2 G5 H5 (q2.mono m5.gr) w5 _ fun v d n6 G6 H6 m6 w6 hv hk7 => ?_)
        have n6' : G6 D = none := (m6.old D _ h5).trans n5'
        have h6 : H6 D = some (.lst acc) := m6.kp D _ h5 fun z => nM (.inl z)
        have el2 := dd.len
        refine ⟨acc, h6, Nat.lt_of_le_of_lt (show acc.length ≤ 100000 by omega) (by decide), G6, acc ++ [v], ds ++ [d], n6, (m3.trans (m4.trans (m5.trans m6))).loc nD n6', n6', upd_same, w6.loc n6' nM, (dd.mono fun a o z => m6.gr a o (m5.gr a o (m4.gr a o z))).snoc hv, by rw [List.length_append]; show ds.length + 1 ≤ i + 1; omega, ?_⟩
        have hk8 := Dr.ok_bind.mp (show ((compr _ (its.drop (i + 1))).bind fun l => Dr.ret ((some d).toList ++ l)).ok n6 _ from hk7)
        refine Dr.ok_bind.mpr (Dr.ok_mono (fun a n h => ?_) hk8)
        show Φ (.list (ds ++ [d] ++ a)) n
        rw [List.append_assoc]
        exact h
      | false =>
        refine iteF ⟨G5, acc, ds, n5, m3.trans (m4.trans m5), n5', h5, w5, dd.mono fun a o z => m5.gr a o (m4.gr a o z), by omega, ?_⟩
        have hk8 := Dr.ok_bind.mp (show ((compr _ (its.drop (i + 1))).bind fun l => Dr.ret ((none : Option PyData).toList ++ l)).ok n5 _ from hk6)
        exact Dr.ok_bind.mpr (Dr.ok_mono (fun a n h => h) hk8)
    · rintro H3 ⟨G3, acc, ds, n3, m3, n3', h3, w3, dd, el, hk3⟩
      rw [List.drop_length] at hk3
      have hk4 : Φ (.list (ds ++ [])) n3 := hk3
      rw [List.append_nil] at hk4
      exact hQ (.ref D) (.list ds) n3 (upd G3 D (.lst acc)) H3 (m.trans (m3.know nD n3' h3)) (w3.know h3 nM) (DD.lst upd_same (dd.mono fun a o e => by
        rw [upd_ne (ne_of_none e n3')]
        exact e)) hk4
  | .gd i e, env => fun δ W n Φ hR hk σ G H hq w Q hQ => by
    show gdT q i (tE q e) σ H Q
    unfold gdT
    cases ea : q.da i with
    | none => trivial
    | some a =>
      show tE q e σ H _
      refine sE e env δ W n _ hR (Dr.ok_bind.mp hk) σ G H hq w _ fun v d n1 G1 H1 m1 w1 hv hk1 => ?_
      cases hv with
      | str z =>
        obtain ⟨y, ey, hk2⟩ := Dr.ok_opt (show (Dr.opt (gds i z)).ok n1 Φ from hk1)
        obtain ⟨u, hu, du⟩ := hD.d i a z y ea ey
        exact ⟨a, z, u, rfl, rfl, hu, hQ u y n1 G1 H1 m1 w1 (du G1) hk2⟩
      | non => exact hk1.elim
      | int _ => exact hk1.elim
      | bl _ => exact hk1.elim
      | lst _ _ => exact hk1.elim
      | tup _ _ => exact hk1.elim
  | .gin i e, env => fun δ W n Φ hR hk σ G H hq w Q hQ => by
    show ginT q i (tE q e) σ H Q
    unfold ginT
    cases ea : q.da (10 + i) with
    | none => trivial
    | some a =>
      refine sE e env δ W n _ hR (Dr.ok_bind.mp hk) σ G H hq w _ fun v d n1 G1 H1 m1 w1 hv hk1 => ?_
      cases hv with
      | str z =>
        refine ⟨a, (gts i).map V.str, rfl, .inr (.inr (hD.t i a ea)), rfl, flat_strs' _, hQ _ (.bool ((gts i).contains z)) n1 G1 H1 m1 w1 ?_ hk1⟩
        show DD q.K G1 (.bl (inV (.str z) ((gts i).map V.str))) _
        rw [in_strs']
        exact DD.bl _
      | non => exact hk1.elim
      | int _ => exact hk1.elim
      | bl _ => exact hk1.elim
      | lst _ _ => exact hk1.elim
      | tup _ _ => exact hk1.elim
  | .bm o e as, env => fun δ W n Φ hR hk σ G H hq w Q hQ => by
    refine sE e env δ W n _ hR (Dr.ok_bind.mp hk) σ G H hq w _ fun v d n1 G1 H1 m1 w1 hv hk1 => ?_
    by_cases hc : o.td d = true
    · rw [if_pos hc] at hk1
      refine ⟨o.ty_ok q.K d hc v G1 H1 hv w1.sub, sA as env δ W n1 _ hR (Dr.ok_bind.mp hk1) σ G1 H1 (hq.mono m1.gr) w1 _ fun vs ds n2 G2 H2 m2 w2 hvs hk2 => ?_⟩
      obtain ⟨z, ez, hk3⟩ := Dr.ok_opt hk2
      exact o.ok q.K d ds z ez v vs G2 H2 (hv.mono m2.gr) hvs w2.sub Q fun y G3 H3 m3 hy => hQ y z n2 G3 H3 ((m1.trans m2).trans (m3.weak fun _ f => f.elim)) (w2.pure m3) hy hk3
    · rw [if_neg hc] at hk1
      exact hk1.elim
  | .bm0 o e, env => fun δ W n Φ hR hk σ G H hq w Q hQ => by
    refine sE e env δ W n _ hR (Dr.ok_bind.mp hk) σ G H hq w _ fun v d n1 G1 H1 m1 w1 hv hk1 => ?_
    by_cases hc : o.td d = true
    · rw [if_pos hc] at hk1
      obtain ⟨z, ez, hk3⟩ := Dr.ok_opt hk1
      exact ⟨o.ty_ok q.K d hc v G1 H1 hv w1.sub, o.ok q.K d [] z ez v [] G1 H1 hv .nil w1.sub Q fun y G3 H3 m3 hy => hQ y z n1 G3 H3 (m1.trans (m3.weak fun _ f => f.elim)) (w1.pure m3) hy hk3⟩
    · rw [if_neg hc] at hk1
      exact hk1.elim
  | .osl i l h, env => fun δ W n Φ hR hk σ G H hq w Q hQ => by
    obtain ⟨ds, eo, hk1⟩ := own_ok (Dr.ok_bind.mp hk)
    obtain ⟨p, hl, hm⟩ := hR.own i ds eo
    obtain ⟨j, hW⟩ := List.mem_iff_getElem?.mp hm
    refine ⟨.ref p, hq.ref hl, sP l env δ W n _ hR (Dr.ok_bind.mp hk1) σ G H hq w _ fun u u' n1 G1 H1 m1 w1 hu hk2 => sP h env δ W n1 _ hR (Dr.ok_bind.mp hk2) σ G1 H1 (hq.mono m1.gr) w1 _ fun v v' n2 G2 H2 m2 w2 hv hk3 => ?_⟩
    cases hu
    cases hv
    obtain ⟨_, _, xs, hx, dd⟩ := own_lst w2 hW
    have cut : DDs q.K G2 (cutV xs u v) (cutD ds u v) := by
      unfold cutV cutD
      rw [dd.len]
      exact (dd.drop _).take _
    exact ⟨p, xs, rfl, .inl (.inl hx), fun z nz => hQ _ _ n2 _ _ ((m1.trans m2).trans (Mv.new w2.sub nz)) (w2.new nz) (DD.lst upd_same (cut.mono (Mv.new (M := fun _ => False) w2.sub nz).gr)) hk3⟩
  | .otup i, env => fun δ W n Φ hR hk σ G H hq w Q hQ => by
    obtain ⟨ds, eo, hk1⟩ := own_ok (Dr.ok_bind.mp hk)
    obtain ⟨p, hl, hm⟩ := hR.own i ds eo
    obtain ⟨j, hW⟩ := List.mem_iff_getElem?.mp hm
    obtain ⟨_, _, xs, hx, dd⟩ := own_lst w hW
    exact ⟨.ref p, hq.ref hl, p, xs, rfl, .inl ⟨.inl (.inl hx), fun z nz => hQ _ _ n _ _ (Mv.new w.sub nz) (w.new nz) (DD.tup upd_same (dd.mono (Mv.new (M := fun _ => False) w.sub nz).gr)) hk1⟩⟩
  | .olst i, env => fun δ W n Φ hR hk σ G H hq w Q hQ => by
    obtain ⟨ds, eo, hk1⟩ := own_ok (Dr.ok_bind.mp hk)
    obtain ⟨p, hl, hm⟩ := hR.own i ds eo
    obtain ⟨j, hW⟩ := List.mem_iff_getElem?.mp hm
    obtain ⟨_, _, xs, hx, dd⟩ := own_lst w hW
    exact ⟨.ref p, hq.ref hl, p, xs, rfl, .inl (.inl (.inl hx)), fun z nz => hQ _ _ n _ _ (Mv.new w.sub nz) (w.new nz) (DD.lst upd_same (dd.mono (Mv.new (M := fun _ => False) w.sub nz).gr)) hk1⟩
  | .isi o e, env => fun δ W n Φ hR hk σ G H hq w Q hQ => by
    refine sE e env δ W n _ hR (Dr.ok_bind.mp hk) σ G H hq w _ fun v d n1 G1 H1 m1 w1 hv hk1 => ?_
    exact ⟨v, .ty o.n, _, _, o.kb d, rfl, .ty o.n, tyX hv w1.sub, kit_ty (o.ok d), hQ _ (.bool (o.kb d)) n1 G1 H1 m1 w1 (DD.bl _) hk1⟩
  | .brw i e, env => fun δ W n Φ hR hk σ G H hq w Q hQ => by
    obtain ⟨ds, eo, hk1⟩ := own_ok (Dr.ok_bind.mp hk)
    obtain ⟨l, hl, hm⟩ := hR.own i ds eo
    obtain ⟨j, hW⟩ := List.mem_iff_getElem?.mp hm
    obtain ⟨G1, d1, g1, w1, fix⟩ := own_brw (mS_any ob) w hW
    have q1 : SlD q.K G1 σ (δ.set i (.dat (.list ds))) := by
      have := (hq.mono g1).set (s := .dat (.list ds)) (v := .ref l) d1 i
      rwa [set_same_get (hq.ref hl)] at this
    refine sE e _ _ _ n _ (hR.frz eo hl hW) (Dr.ok_bind.mp hk1) σ G1 H q1 w1 Q fun v d n' G2 H2 m2 w2 hv hk2 => ?_
    obtain ⟨G3, m3, w3⟩ := fix m2 w2
    obtain ⟨dv, hk3⟩ := flatR_ok hv hk2
    exact hQ v d n' G3 H2 m3 w3 (dv G3) hk3
  | .olen i, env => fun δ W n Φ hR hk σ G H hq w Q hQ => by
    obtain ⟨ds, eo, hk1⟩ := own_ok (Dr.ok_bind.mp hk)
    obtain ⟨l, hl, hm⟩ := hR.own i ds eo
    obtain ⟨j, hW⟩ := List.mem_iff_getElem?.mp hm
    obtain ⟨_, _, xs, h, dd⟩ := own_lst w hW
    exact ⟨.ref l, hq.ref hl, l, xs, rfl, .inl (.inl (.inl h)), hQ _ (.int ds.length) n G H (Mv.refl w.sub) w (by rw [dd.len]; exact DD.int _) hk1⟩
  | .oix i e, env => fun δ W n Φ hR hk σ G H hq w Q hQ => by
    obtain ⟨ds, eo, hk1⟩ := own_ok (Dr.ok_bind.mp hk)
    obtain ⟨l, hl, hm⟩ := hR.own i ds eo
    obtain ⟨j, hW⟩ := List.mem_iff_getElem?.mp hm
    refine ⟨.ref l, hq.ref hl, ?_⟩
    refine sE e env δ W n _ hR (Dr.ok_bind.mp hk1) σ G H hq w _ fun y d n1 G1 H1 m1 w1 hy hk2 => ?_
    cases hy with
    | int k =>
      obtain ⟨z, ez, hk3⟩ := Dr.ok_opt (show (Dr.opt (atI ds k)).ok n1 Φ from hk2)
      obtain ⟨_, _, xs, h, dd⟩ := own_lst w1 hW
      obtain ⟨v, hv, dv⟩ := atI_dd dd ez
      exact ⟨l, xs, k, v, rfl, rfl, .inl (.inl h), hv, hQ v z n1 G1 H1 m1 w1 dv hk3⟩
    | non => exact hk2.elim
    | str _ => exact hk2.elim
    | bl _ => exact hk2.elim
    | lst _ _ => exact hk2.elim
    | tup _ _ => exact hk2.elim
theorem sA : ∀ (e : A) (env : En), SA q.K ob (tA q e) env (evA e env)
  | .nil, env => fun δ W n Φ hR hk σ G H hq w Q hQ => hQ [] [] n G H (Mv.refl w.sub) w .nil hk
  | .cons e r, env => fun δ W n Φ hR hk σ G H hq w Q hQ => by
    refine sE e env δ W n _ hR (Dr.ok_bind.mp hk) σ G H hq w _ fun v d n1 G1 H1 m1 w1 hv hk1 => ?_
    refine sA r env δ W n1 _ hR (Dr.ok_bind.mp hk1) σ G1 H1 (hq.mono m1.gr) w1 _ fun u e n2 G2 H2 m2 w2 hu hk2 => ?_
    exact hQ _ (d :: e) n2 G2 H2 (m1.trans m2) w2 (.cons (hv.mono m2.gr) hu) hk2
theorem sP : ∀ (e : P) (env : En), SO q.K ob (tP q e) env (evP e env)
  | .no, env => fun δ W n Φ hR hk σ G H hq w Q hQ => hQ none none n G H (Mv.refl w.sub) w rfl hk
  | .at e, env => fun δ W n Φ hR hk σ G H hq w Q hQ => by
    refine sE e env δ W n _ hR (Dr.ok_bind.mp hk) σ G H hq w _ fun v d n1 G1 H1 m1 w1 hv hk1 => ?_
    cases hv with
    | int i => exact ⟨i, rfl, hQ _ (some i) n1 G1 H1 m1 w1 rfl hk1⟩
    | non => exact hk1.elim
    | str _ => exact hk1.elim
    | bl _ => exact hk1.elim
    | lst _ _ => exact hk1.elim
    | tup _ _ => exact hk1.elim
theorem sT : ∀ (e : T) (env : En), ST q.K ob (tT q e) env (evT e env)
  | .tru o e, env => fun δ W n Φ hR hk σ G H hq w Q hQ => by
    refine sE e env δ W n _ hR (Dr.ok_bind.mp hk) σ G H hq w _ fun v d n1 G1 H1 m1 w1 hv hk1 => ?_
    obtain ⟨z, ez, hk2⟩ := Dr.ok_opt hk1
    exact o.ok q.K d z ez v G1 H1 hv w1.sub Q (hQ z z n1 G1 H1 m1 w1 rfl hk2)
  | .not t, env => fun δ W n Φ hR hk σ G H hq w Q hQ => by
    refine sT t env δ W n _ hR (Dr.ok_bind.mp hk) σ G H hq w _ fun v d n1 G1 H1 m1 w1 hv hk1 => ?_
    cases hv
    exact hQ _ _ n1 G1 H1 m1 w1 rfl hk1
  | .and t u, env => fun δ W n Φ hR hk σ G H hq w Q hQ => by
    refine sT t env δ W n _ hR (Dr.ok_bind.mp hk) σ G H hq w _ fun v d n1 G1 H1 m1 w1 hv hk1 => ?_
    cases hv
    cases v with
    | true => exact iteT (sT u env δ W n1 _ hR hk1 σ G1 H1 (hq.mono m1.gr) w1 Q fun y z n2 G2 H2 m2 w2 hy hz => hQ y z n2 G2 H2 (m1.trans m2) w2 hy hz)
    | false => exact iteF (hQ false false n1 G1 H1 m1 w1 rfl hk1)
  | .or t u, env => fun δ W n Φ hR hk σ G H hq w Q hQ => by
    refine sT t env δ W n _ hR (Dr.ok_bind.mp hk) σ G H hq w _ fun v d n1 G1 H1 m1 w1 hv hk1 => ?_
    cases hv
    cases v with
    | false => exact iteF (sT u env δ W n1 _ hR hk1 σ G1 H1 (hq.mono m1.gr) w1 Q fun y z n2 G2 H2 m2 w2 hy hz => hQ y z n2 G2 H2 (m1.trans m2) w2 hy hz)
    | true => exact iteT (hQ true true n1 G1 H1 m1 w1 rfl hk1)
  | .yes, env => fun δ W n Φ hR hk σ G H hq w Q hQ => hQ true true n G H (Mv.refl w.sub) w rfl hk
  | .otru i, env => fun δ W n Φ hR hk σ G H hq w Q hQ => by
    obtain ⟨ds, eo, hk1⟩ := own_ok (Dr.ok_bind.mp hk)
    obtain ⟨l, hl, hm⟩ := hR.own i ds eo
    obtain ⟨j, hW⟩ := List.mem_iff_getElem?.mp hm
    obtain ⟨_, _, xs, h, dd⟩ := own_lst w hW
    refine ⟨.ref l, hq.ref hl, _, .inl ⟨xs, .inl (.inl h), rfl⟩, hQ _ (!ds.isEmpty) n G H (Mv.refl w.sub) w ?_ hk1⟩
    cases dd <;> rfl
  | .ite c a b, env => fun δ W n Φ hR hk σ G H hq w Q hQ => by
    refine sT c env δ W n _ hR (Dr.ok_bind.mp hk) σ G H hq w _ fun v d n1 G1 H1 m1 w1 hv hk1 => ?_
    cases hv
    cases v with
    | true => exact iteT (sT a env δ W n1 _ hR hk1 σ G1 H1 (hq.mono m1.gr) w1 Q fun y z n2 G2 H2 m2 w2 hy hz => hQ y z n2 G2 H2 (m1.trans m2) w2 hy hz)
    | false => exact iteF (sT b env δ W n1 _ hR hk1 σ G1 H1 (hq.mono m1.gr) w1 Q fun y z n2 G2 H2 m2 w2 hy hz => hQ y z n2 G2 H2 (m1.trans m2) w2 hy hz)
theorem sI : ∀ (e : I) (env : En), SI q.K ob (tI q e) env (evI e env)
  | .one o e, env => fun δ W n Φ hR hk σ G H hq w Q hQ => by
    refine sE e env δ W n _ hR (Dr.ok_bind.mp hk) σ G H hq w _ fun v d n1 G1 H1 m1 w1 hv hk1 => ?_
    obtain ⟨z, ez, hk2⟩ := Dr.ok_opt hk1
    exact o.ok q.K d z ez v G1 H1 hv w1.sub Q fun J hJ => hQ J z n1 G1 H1 m1 w1 hJ hk2
  | .many o as, env => fun δ W n Φ hR hk σ G H hq w Q hQ => by
    refine sA as env δ W n _ hR (Dr.ok_bind.mp hk) σ G H hq w _ fun v d n1 G1 H1 m1 w1 hv hk1 => ?_
    obtain ⟨z, ez, hk2⟩ := Dr.ok_opt hk1
    exact o.ok q.K d z ez v G1 H1 hv w1.sub Q fun J hJ => hQ J z n1 G1 H1 m1 w1 hJ hk2
  | .gl i, env => fun δ W n Φ hR hk σ G H hq w Q hQ => by
    show glT q i σ H Q
    unfold glT
    cases ea : q.da (10 + i) with
    | none => trivial
    | some a =>
      have hT := hD.t i a ea
      refine ⟨a, (gts i).map V.str, rfl, .inr ⟨.inr hT, hQ _ _ n G H (Mv.refl w.sub) w ⟨fun H => SqT q.K H a ((gts i).map V.str), _, by rw [List.length_map, ← List.length_map (f := V.str)]; exact walk_tup (xs := (gts i).map V.str), fun _ _ => .inr hT, fun k d G3 H3 x H4 hd g1 g2 y => ?_⟩ hk⟩⟩
      obtain ⟨rfl, hy⟩ := y
      rw [List.getElem?_map] at hy hd
      obtain ⟨z, hz, rfl⟩ := Option.map_eq_some_iff.mp hy
      rw [hz] at hd
      cases hd
      exact ⟨G3, Mv.refl g2, .str _⟩
  | .rrg e, env => fun δ W n Φ hR hk σ G H hq w Q hQ => by
    refine sE e env δ W n _ hR (Dr.ok_bind.mp hk) σ G H hq w _ fun v d n1 G1 H1 m1 w1 hv hk1 => ?_
    obtain ⟨k, rfl, c1, c2, hk2⟩ := revRg_ok hk1
    cases hv
    refine ⟨k, rfl, by decide, by decide, c2, c1, hQ _ _ n1 G1 H1 m1 w1 ⟨_, YFn fun i => .int (0 + (((k - 0).toNat : Nat) : Int) - 1 + (i : Nat) * (-1)), ?_, fun _ _ => trivial, fun i d G3 H3 x H4 hd g1 g2 y => ?_⟩ hk2⟩
    · have e : ((List.range k.toNat).reverse.map fun j => PyData.int (j : Nat)).length = (k - 0).toNat := by simp
      rw [e]
      exact walk_rangeC
    · obtain ⟨rfl, rfl⟩ := y
      rw [List.getElem?_map] at hd
      obtain ⟨m, hm, rfl⟩ := Option.map_eq_some_iff.mp hd
      have hi : i < k.toNat := by
        have := (List.getElem?_eq_some_iff.mp hm).1
        simpa using this
      rw [List.getElem?_reverse (by simpa using hi), List.length_range, List.getElem?_range (by omega)] at hm
      cases hm
      have e : 0 + (((k - 0).toNat : Nat) : Int) - 1 + (i : Nat) * (-1) = ((k.toNat - 1 - i : Nat) : Int) := by
        rw [Int.sub_zero]
        omega
      refine ⟨G3, Mv.refl g2, ?_⟩
      show DD q.K G3 (.int (0 + (((k - 0).toNat : Nat) : Int) - 1 + (i : Nat) * (-1))) _
      rw [e]
      exact .int _
end
theorem sF : ∀ (e : FE) (env : En), SF q.K ob (tF q e) env (evF e env)
  | .lst as, env => fun δ W n Φ hR hk σ G H hq w Q hQ => by
    refine sA hD as env δ W n _ hR (Dr.ok_bind.mp hk) σ G H hq w _ fun vs ds n1 G1 H1 m1 w1 hv hk1 => ?_
    by_cases hl : ds.length ≤ 100000
    · rw [if_pos hl] at hk1
      refine ⟨Nat.le_trans (by rw [hv.len]; exact hl) (by decide), fun p np => ?_⟩
      obtain ⟨m2, w2, n0, g0⟩ := new_side m1 w1 np (.lst vs)
      exact hQ p vs ds n1 G1 _ m2 w2 n0 g0 upd_same hv hk1
    · rw [if_neg hl] at hk1
      exact hk1.elim
  | .op o a b, env => fun δ W n Φ hR hk σ G H hq w Q hQ => by
    refine sE hD a env δ W n _ hR (Dr.ok_bind.mp hk) σ G H hq w _ fun v d n1 G1 H1 m1 w1 hv hk1 => ?_
    refine sE hD b env δ W n1 _ hR (Dr.ok_bind.mp hk1) σ G1 H1 (hq.mono m1.gr) w1 _ fun u e n2 G2 H2 m2 w2 hu hk2 => ?_
    obtain ⟨zs, ez, hk3⟩ := Dr.ok_opt hk2
    refine o.ok q.K d e zs ez v u G2 H2 (hv.mono m2.gr) hu w2.sub Q fun xs p dd np => ?_
    obtain ⟨m3, w3, n0, g0⟩ := new_side (m1.trans m2) w2 np (.lst xs)
    exact hQ p xs zs n2 G2 _ m3 w3 n0 g0 upd_same dd hk3
  | .cb o as, env => fun δ W n Φ hR hk σ G H hq w Q hQ => by
    refine sA hD as env δ W n _ hR (Dr.ok_bind.mp hk) σ G H hq w _ fun vs ds n1 G1 H1 m1 w1 hv hk1 => ?_
    obtain ⟨zs, ez, hk3⟩ := Dr.ok_opt hk1
    refine o.ok q.K ds zs ez vs G1 H1 hv w1.sub Q fun xs p dd np => ?_
    obtain ⟨m3, w3, n0, g0⟩ := new_side m1 w1 np (.lst xs)
    exact hQ p xs zs n1 G1 _ m3 w3 n0 g0 upd_same dd hk3
  | .un o e, env => fun δ W n Φ hR hk σ G H hq w Q hQ => by
    refine sE hD e env δ W n _ hR (Dr.ok_bind.mp hk) σ G H hq w _ fun v d n1 G1 H1 m1 w1 hv hk1 => ?_
    obtain ⟨zs, ez, hk3⟩ := Dr.ok_opt hk1
    refine o.ok q.K d zs ez v G1 H1 hv w1.sub Q fun xs p dd np => ?_
    obtain ⟨m3, w3, n0, g0⟩ := new_side m1 w1 np (.lst xs)
    exact hQ p xs zs n1 G1 _ m3 w3 n0 g0 upd_same dd hk3
  | .call f as, env => fun δ W n Φ hR hk σ G H hq w Q hQ => by
    refine sA hD as env δ W n _ hR (Dr.ok_bind.mp hk) σ G H hq w _ fun v d n1 G1 H1 m1 w1 hv hk1 => ?_
    obtain ⟨z, ez, hk3⟩ := Dr.ok_pur (Dr.ok_bind.mp hk1)
    obtain ⟨zs, rfl, hk4⟩ := asLst_ok hk3
    show spN q.K f (v ++ []) H1 Q E0
    rw [List.append_nil]
    refine ⟨G1, d, zs, w1.sub, hv, ez, fun l xs G3 H3 m3 h1 h2 h3 h4 => hQ l xs zs n1 G3 H3 (m1.trans (m3.weak fun _ f => f.elim)) (w1.pure m3) (old_none m1 h1) h2 h3 h4 hk4⟩
  | .callN f p as ks, env => fun δ W n Φ hR hk σ G H hq w Q hQ => by
    refine sA hD as env δ W n _ hR (Dr.ok_bind.mp hk) σ G H hq w _ fun v d n1 G1 H1 m1 w1 hv hk1 => ?_
    refine sA hD ks env δ W n1 _ hR (Dr.ok_bind.mp hk1) σ G1 H1 (hq.mono m1.gr) w1 _ fun u e n2 G2 H2 m2 w2 hu hk2 => ?_
    by_cases hc : d.length = p.n ∧ e.length = p.m
    · rw [if_pos hc] at hk2
      obtain ⟨z, ez, hk3⟩ := Dr.ok_pur (Dr.ok_bind.mp hk2)
      obtain ⟨zs, rfl, hk4⟩ := asLst_ok hk3
      exact ⟨hv.len.trans hc.1, hu.len.trans hc.2, G2, _, zs, w2.sub, p.ok q.K G2 _ _ _ _ (hv.mono m2.gr) hu hc.1 hc.2, ez, fun l xs G3 H3 m3 h1 h2 h3 h4 => hQ l xs zs n2 G3 H3 ((m1.trans m2).trans (m3.weak fun _ f => f.elim)) (w2.pure m3) (old_none (m1.trans m2) h1) h2 h3 h4 hk4⟩
    · rw [if_neg hc] at hk2
      exact hk2.elim
  | .ite c a b, env => fun δ W n Φ hR hk σ G H hq w Q hQ => by
    refine sT hD c env δ W n _ hR (Dr.ok_bind.mp hk) σ G H hq w _ fun v d n1 G1 H1 m1 w1 hv hk1 => ?_
    cases hv
    cases v with
    | true => exact iteT (sF a env δ W n1 _ hR hk1 σ G1 H1 (hq.mono m1.gr) w1 Q fun l xs ds n' G2 H2 m2 w2 h1 h2 h3 h4 h5 => hQ l xs ds n' G2 H2 (m1.trans m2) w2 (old_none m1 h1) h2 h3 h4 h5)
    | false => exact iteF (sF b env δ W n1 _ hR hk1 σ G1 H1 (hq.mono m1.gr) w1 Q fun l xs ds n' G2 H2 m2 w2 h1 h2 h3 h4 h5 => hQ l xs ds n' G2 H2 (m1.trans m2) w2 (old_none m1 h1) h2 h3 h4 h5)
  | .lc it g vs c e, env => fun δ W n Φ hR hk σ G H hq w Q hQ => by
    refine sI hD it env δ W n _ hR (Dr.ok_bind.mp hk) σ G H hq w _ fun J its n2 G2 H2 m w2 ⟨A, Y, wk, hA, hY⟩ hk1 D nD => ?_
    obtain ⟨hl, hvs, hk2⟩ := both_ok hk1
    have nG : G2 D = none := by
      cases e : G2 D with
      | none => rfl
      | some o =>
        rw [w2.sub D o e] at nD
        cases nD
    have nM : ¬ (ows q.K (mS ob) W).M D := fun z => by
      obtain ⟨o, e⟩ := (ows q.K (mS ob) W).dom w2.inv z
      rw [e] at nD
      cases nD
    refine lc_it wk (fun i H3 => ∃ G3 acc ds n3, Mv (mS ob).M G2 H2 G3 H3 ∧ G3 D = none ∧ H3 D = some (.lst acc) ∧ Wd (ows q.K (mS ob) W) n3 G3 H3 ∧ DDs q.K G3 acc ds ∧ ds.length ≤ i ∧ ((compr _ (its.drop i)).bind fun l => Dr.ret (ds ++ l)).ok n3 Φ)
      ⟨G2, [], [], n2, (Mv.refl w2.sub).loc nD nG, nG, upd_same, w2.loc nG nM, .nil, Nat.le_refl _, Dr.ok_bind.mpr (Dr.ok_mono (fun a n h => h) hk2)⟩ (fun i H3 _ ⟨G3, acc, ds, n3, m3, _⟩ => hA H3 fun a o e => m3.sub a o (m3.gr a o e)) ?_ ?_
    · rintro i x H3 H4 hi ⟨G3, acc, ds, n3, m3, n3', h3, w3, dd, el, hk3⟩ y
      have hd : its[i]? = some its[i] := List.getElem?_eq_getElem hi
      obtain ⟨G4, m4', dx⟩ := hY i its[i] G3 H3 x H4 hd m3.gr w3.sub y
      have m4 := m4'.weak (M' := (mS ob).M) fun _ f => f.elim
      have w4 := w3.pure m4'
      have n4 : G4 D = none := (m4.old D _ h3).trans n3'
      have h4 : H4 D = some (.lst acc) := m4.kp D _ h3 fun z => nM (.inl z)
      rw [List.drop_eq_getElem_cons hi] at hk3
      have hk4 := Dr.ok_bind.mp (Dr.ok_bind.mp (Dr.ok_bind.mp hk3))
      obtain ⟨env', ep, hk5⟩ := Dr.ok_opt hk4
      obtain ⟨δ', hR', hlen, tg⟩ := sG (K := q.K) g ep (hR.wipe vs)
      have q4 := hq.mono fun a o e => m4.gr a o (m3.gr a o (m.gr a o e))
      refine tg x (wipe σ vs) G4 H4 (q4.wipe vs) dx w4.sub _ fun σ2 q2 e2 => ⟨(wipe_more _ _ (by rw [q2.1, hlen, (q4.wipe vs).1]) g.vs vs hvs e2).trans (wipe_idem σ vs), ?_⟩
      refine sT hD c env' δ' W n3 _ hR' (Dr.ok_bind.mp hk5) σ2 G4 H4 q2 w4 _ fun b b' n5 G5 H5 m5 w5 hb hk6 => ?_
      cases hb
      have n5' : G5 D = none := (m5.old D _ h4).trans n4
      have h5 : H5 D = some (.lst acc) := m5.kp D _ h4 fun z => nM (.inl z)
      cases b with
      | true =>
        refine iteT (sE hD e env' δ' W n5 _ hR' (Dr.ok_bind.mp hk6) σ2 G5 H5 (q2.mono m5.gr) w5 _ fun v d n6 G6 H6 m6 w6 hv hk7 => ?_)
        have n6' : G6 D = none := (m6.old D _ h5).trans n5'
        have h6 : H6 D = some (.lst acc) := m6.kp D _ h5 fun z => nM (.inl z)
        have el2 := dd.len
        refine ⟨acc, h6, Nat.lt_of_le_of_lt (show acc.length ≤ 100000 by omega) (by decide), G6, acc ++ [v], ds ++ [d], n6, (m3.trans (m4.trans (m5.trans m6))).loc nD n6', n6', upd_same, w6.loc n6' nM, (dd.mono fun a o z => m6.gr a o (m5.gr a o (m4.gr a o z))).snoc hv, by rw [List.length_append]; show ds.length + 1 ≤ i + 1; omega, ?_⟩
        have hk8 := Dr.ok_bind.mp (show ((compr _ (its.drop (i + 1))).bind fun l => Dr.ret ((some d).toList ++ l)).ok n6 _ from hk7)
        refine Dr.ok_bind.mpr (Dr.ok_mono (fun a n h => ?_) hk8)
        show Φ (ds ++ [d] ++ a) n
        rw [List.append_assoc]
        exact h
      | false =>
        refine iteF ⟨G5, acc, ds, n5, m3.trans (m4.trans m5), n5', h5, w5, dd.mono fun a o z => m5.gr a o (m4.gr a o z), by omega, ?_⟩
        have hk8 := Dr.ok_bind.mp (show ((compr _ (its.drop (i + 1))).bind fun l => Dr.ret ((none : Option PyData).toList ++ l)).ok n5 _ from hk6)
        exact Dr.ok_bind.mpr (Dr.ok_mono (fun a n h => h) hk8)
    · rintro H3 ⟨G3, acc, ds, n3, m3, n3', h3, w3, dd, el, hk3⟩
      rw [List.drop_length] at hk3
      have hk4 : Φ (ds ++ []) n3 := hk3
      rw [List.append_nil] at hk4
      exact hQ D acc ds n3 G3 H3 (m.trans m3) w3 (old_none m nD) n3' h3 dd hk4
end
end DP

namespace DP
open PySem PySem.Spec PyProof.Rows L2 ZX DL RT
/-- x[i], to be changed -/
theorem get_list {X : Cx} : PGet X (rIxL X.K) := by
  intro pins s σ H x y v u Q I rx ry h
  obtain ⟨p, xs, i, z, rfl, rfl, hq, he, q⟩ := h
  cases rx
  obtain ⟨t, rfl⟩ := ry
  obtain ⟨its, r, pl, hz⟩ := I.list hq
  obtain ⟨j, h1, h2, h3, h4, h5⟩ := atI_get he
  obtain ⟨w, ew, rw'⟩ := r.get h2
  have hl := r.length
  have hn := line63
  have fin : EP X pins σ Q w s := ⟨z, H, I, rw', q⟩
  by_cases h0 : 0 ≤ i
  · have hj : i.toNat = j := by
      rw [seqIndex_of h0 h5] at h1
      exact Option.some.inj h1
    exact wpAny_getItem_list pl.isList h0 (by omega) (by rw [hj]; simpa using ew) fin
  · have hj : (i + (its.toArray.size : Int)).toNat = j := by
      rw [seqIndex_neg (by omega) h4] at h1
      rw [List.size_toArray, ← hl]
      exact Option.some.inj h1
    exact wpAny_getItem_list_neg (Q := EP X pins σ Q) pl.isList (by omega) (by rw [List.size_toArray] <;> omega) (by omega) (by rw [hj]; simpa using ew) fin
def rIns : V → List V → Hp → VK → Prop := fun x vs H Q => ∃ (l : Addr) (xs : List V) (i : Int) (y : V), x = .ref l ∧ vs = [.int i, y] ∧ H l = some (.lst xs) ∧ xs.length < sizeLine ∧ 0 ≤ i ∧ i < 2 ^ 63 ∧ Q .non (upd H l (.lst (xs.take i.toNat ++ [y] ++ xs.drop i.toNat)))
theorem mt_ins {X : Cx} : MtR X "list.insert" rIns := mt_insert
def tS (q : Gq) : S → TS
  | .next => tNext
  | .seq a b => tSeq (tS q a) (tS q b)
  | .asg g e => tAsg (tE q e) (tG q.K g)
  | .asg2 i j e => tAsg2 (tE q e) (gName i) (gName j)
  | .par i j as => tPar i j (tA q as)
  | .par3 i j k as => tPar3 i j k (tA q as)
  | .aug i o e => tAug i (tE q e) (o.rel q.K)
  | .newO i as => tAsg (tLst (tA q as)) (gName i)
  | .newL i e => tAsg (tCB (rList q.K) (tCons (tE q e) tNil)) (gName i)
  | .app i e => tDrop (tBM q.K "list" rAppend (tVar i) (tCons (tE q e) tNil))
  | .setix i ix e => tAsg (tE q e) (gSub (tVar i) (tE q ix) rSetL)
  | .augix i ix o e => tAugS (tVar i) (tE q ix) (tE q e) (rIxL q.K) (o.rel q.K) rSetL
  | .rev i => tDrop (tBM0 q.K "list" rReverse (tVar i))
  | .setsl i ix e => tAsg (tE q e) (SS0.gSl0 (tVar i) (tE q ix))
  | .ext i e => tDrop (tBM q.K "list" rExtend (tVar i) (tCons (tE q e) tNil))
  | .clr i => tDrop (tBM0 q.K "list" rClear (tVar i))
  | .pop i => tDrop (tBM0 q.K "list" rPop (tVar i))
  | .popA g i e => tAsg (tBM q.K "list" rPopAt (tVar i) (tCons (tE q e) tNil)) (tG q.K g)
  | .ins i ix e => tDrop (tBM q.K "list" rIns (tVar i) (tCons (tE q ix) (tCons (tE q e) tNil)))
  | .newE i e => tAsg (tF q e) (gName i)
  | .par2B i j b => tPar i j (tB q b)
  | .par3B i j k b => tPar3 i j k (tB q b)
  | .retO i => tRet (tVar i)
  | .retF e => tRet (tF q e)
  | .frz i s => tS q s
  | .ret e => tRet (tE q e)
  | .cond c a b => tIfS (tT q c) (tS q a) (tS q b)
  | .loop it g b => tFor (tI q it) (tG q.K g) (tS q b)
  | .whil m c b => tWhile (tT q c) (tS q b)
  | .brk => tBreak
  | .cnt => tCont
  | .drop e => tDrop (tE q e)
  | .stuck => fun _ _ _ => False
  | .raise c f as => fun _ σ H => tA q as σ H fun vs H1 => ∃ v, vs = [v] ∧ ∀ dd, H1 dd = none → q.E (.ref (q.cls c)) (some dd) (upd H1 dd (.xd [(f, v)]))
/-- what is wanted behind a statement -/
structure Dn (q : Gq) (ob : Option Addr) (W : Own) (G H : Hp) (Φ : Fl → Nat → Prop) (D : Ends) : Prop where
  nx : ∀ σ' env' δ' W' n' G2 H2, Ms (mS ob).M W W' G H G2 H2 → Wd (ows q.K (mS ob) W') n' G2 H2 → SlD q.K G2 σ' δ' → Rp ob env' δ' W' → Φ (.nx env') n' → D.nx σ' H2
  rt : ∀ v d W' n' G2 H2, Ms (mS ob).M W W' G H G2 H2 → Wd (ows q.K (mS ob) W') n' G2 H2 → DD q.K G2 v d → Φ (.rt d) n' → D.rt v H2
  rtO : ∀ l xs ds W' n' G2 H2, Ms (mS ob).M W W' G H G2 H2 → Wd (ows q.K (mS ob) W') n' G2 H2 → (W.has l ∨ H l = none) → G2 l = none → H2 l = some (.lst xs) → DDs q.K G2 xs ds → Φ (.rtO ds) n' → D.rt (.ref l) H2
  bk : ∀ σ' env' δ' W' n' G2 H2, Ms (mS ob).M W W' G H G2 H2 → Wd (ows q.K (mS ob) W') n' G2 H2 → SlD q.K G2 σ' δ' → Rp ob env' δ' W' → Φ (.bk env') n' → D.bk σ' H2
  ct : ∀ σ' env' δ' W' n' G2 H2, Ms (mS ob).M W W' G H G2 H2 → Wd (ows q.K (mS ob) W') n' G2 H2 → SlD q.K G2 σ' δ' → Rp ob env' δ' W' → Φ (.ct env') n' → D.ct σ' H2
  ex : ∀ c fs W' n' G2 H2, Ms (mS ob).M W W' G H G2 H2 → Wd (ows q.K (mS ob) W') n' G2 H2 → Φ (.ex c fs) n' → ∀ dd vs, H2 dd = none → FV q.K G2 vs fs → q.E (.ref (q.cls c)) (some dd) (upd H2 dd (.xd vs))
theorem back_at {M : Addr → Prop} {W W1 : Own} {G H G1 H1 : Hp} {l : Addr} (m : Ms M W W1 G H G1 H1) (h : W1.has l ∨ H1 l = none) : W.has l ∨ H l = none := by
  rcases h with h | h
  · exact m.nw l h
  · refine .inr ?_
    cases e : H l with
    | none => rfl
    | some o =>
      obtain ⟨u, eu⟩ := m.dom l o e
      rw [h] at eu
      cases eu
theorem Dn.at {q : Gq} {ob : Option Addr} {W W1 : Own} {G H G1 H1 : Hp} {Φ : Fl → Nat → Prop} {D : Ends} (x : Dn q ob W G H Φ D) (m : Ms (mS ob).M W W1 G H G1 H1) : Dn q ob W1 G1 H1 Φ D :=
  ⟨fun a b c d e f g m2 => x.nx a b c d e f g (m.trans m2), fun a b d e f g m2 => x.rt a b d e f g (m.trans m2), fun a b c d e f g m2 w2 b2 => x.rtO a b c d e f g (m.trans m2) w2 (back_at m b2), fun a b c d e f g m2 => x.bk a b c d e f g (m.trans m2), fun a b c d e f g m2 => x.ct a b c d e f g (m.trans m2), fun a b d e f g m2 => x.ex a b d e f g (m.trans m2)⟩
def SS (q : Gq) (ob : Option Addr) (ts : TS) (env : En) (t : Dr Fl) : Prop :=
  ∀ δ W n Φ, Rp ob env δ W → t.ok n Φ → ∀ σ G H, SlD q.K G σ δ → Wd (ows q.K (mS ob) W) n G H → ∀ D : Ends, Dn q ob W G H Φ D → ts D σ H
theorem has_of {W : Own} {l : Addr} {r : Nat} {K : PySem.W.Frag} {S0 : MS} {G H : Hp} (w : Wd (ows K S0 W) r G H) (n : H l = none) : ∀ c, (l, c) ∉ W := fun c h => by
  obtain ⟨_, _, h2⟩ := w.inv
  obtain ⟨_, o, e, _⟩ := h2 l c h
  rw [n] at e
  cases e
theorem own_frz {K : PySem.W.Frag} {S0 : MS} {W : Own} {r j : Nat} {l : Addr} {ds : List PyData} {G H : Hp} (w : Wd (ows K S0 W) r G H) (hW : W[j]? = some (l, .lst ds)) :
    ∃ G1, DD K G1 (.ref l) (.list ds) ∧ (∀ a o, G a = some o → G1 a = some o) ∧ Wd (ows K S0 (W.eraseIdx j)) r G1 H ∧ ∀ {W' G2 H2}, Ms S0.M (W.eraseIdx j) W' G1 H G2 H2 → Ms S0.M W W' G H G2 H2 := by
  obtain ⟨nM, nG, xs, hl, dd⟩ := own_lst w hW
  have hj : j < W.length := (List.getElem?_eq_some_iff.mp hW).1
  obtain ⟨h1, nd, h2⟩ := w.inv
  have g1 : ∀ a o, G a = some o → upd G l (.lst xs) a = some o := fun a o e => by
    rw [upd_ne (ne_of_none e nG)]
    exact e
  have sub1 : ∀ a o, upd G l (.lst xs) a = some o → H a = some o := fun a o e => by
    by_cases ea : a = l
    · rw [ea, upd_same] at e
      rw [ea, ← e]
      exact hl
    · rw [upd_ne ea] at e
      exact w.sub a o e
  have hin : ∀ {a}, Own.has (W.eraseIdx j) a → W.has a := fun ⟨c, m⟩ => ⟨c, List.mem_of_mem_eraseIdx m⟩
  have hne : ∀ {a}, Own.has (W.eraseIdx j) a → a ≠ l := fun {a} ⟨c, m⟩ z => by
    subst z
    obtain ⟨i', hi', hn, e2⟩ := List.mem_eraseIdx_iff_getElem.mp m
    have e1 : (W.map (·.1))[j]'(by rw [List.length_map]; exact hj) = a := by rw [List.getElem_map, (List.getElem?_eq_some_iff.mp hW).2]
    have e3 : (W.map (·.1))[i']'(by rw [List.length_map]; exact hi') = a := by rw [List.getElem_map, e2]
    exact hn ((List.getElem_inj nd).mp (e3.trans e1.symm))
  refine ⟨upd G l (.lst xs), DD.lst upd_same (dd.mono g1), g1, ?_, fun {W' G2 H2} m => ?_⟩
  · refine ⟨sub1, fun a m => ?_, S0.fr h1 g1 fun _ _ _ e => e, ?_, fun l' c hm => ?_⟩
    · rcases m with m | m
      · rw [upd_ne (show a ≠ l from fun z => nM (z ▸ m))]
        exact w.no a (.inl m)
      · rw [upd_ne (hne m)]
        exact w.no a (.inr (hin m))
    · exact List.Pairwise.sublist ((List.eraseIdx_sublist W j).map _) nd
    · obtain ⟨n, o, e, q⟩ := h2 l' c (List.mem_of_mem_eraseIdx hm)
      exact ⟨n, o, e, q.mono g1⟩
  · refine ⟨fun a o e => m.gr a o (g1 a o e), m.sub, fun a o e n => ?_, fun a o e n1 n2 => m.kp a o e n1 fun z => n2 (hin z), m.dom, fun a h => (m.nw a h).imp hin fun z => z⟩
    have na : a ≠ l := fun z => n ⟨_, z ▸ List.mem_of_getElem? hW⟩
    rw [m.old a o e fun z => n (hin z), upd_ne na]
theorem back_frz {W : Own} {j : Nat} {l l' : Addr} {c : OC} {H : Hp} (hW : W[j]? = some (l', c)) (h : Own.has (W.eraseIdx j) l ∨ H l = none) : W.has l ∨ H l = none := h.imp (fun ⟨c, m⟩ => ⟨c, List.mem_of_mem_eraseIdx m⟩) fun z => z
theorem slPut_ok {ds : List PyData} {d e : PyData} {n : Nat} {Φ : List PyData → Nat → Prop} (h : (slPut ds d e).ok n Φ) : ∃ es k, d = .list es ∧ e = .int k ∧ 0 ≤ k ∧ k ≤ ds.length ∧ ds.length + es.length ≤ 100000 ∧ Φ (es ++ ds.drop k.toNat) n := by
  unfold slPut at h
  split at h
  · split at h
    · rename_i es k hc
      exact ⟨es, k, rfl, rfl, hc.1, hc.2.1, hc.2.2, h⟩
    · exact h.elim
  · exact h.elim
theorem exPut_ok {ds : List PyData} {d : PyData} {n : Nat} {Φ : List PyData → Nat → Prop} (h : (exPut ds d).ok n Φ) : ∃ es, d = .list es ∧ ds.length + es.length ≤ 100000 ∧ Φ (ds ++ es) n := by
  unfold exPut at h
  split at h
  · split at h
    · rename_i es hc
      exact ⟨es, rfl, hc, h⟩
    · exact h.elim
  · exact h.elim
theorem insPut_ok {ds : List PyData} {x d : PyData} {n : Nat} {Φ : List PyData → Nat → Prop} (h : (insPut ds x d).ok n Φ) : ∃ k, d = .int k ∧ 0 ≤ k ∧ k < 2 ^ 63 ∧ ds.length ≤ 100000 ∧ Φ (ds.take k.toNat ++ [x] ++ ds.drop k.toNat) n := by
  unfold insPut at h
  split at h
  · split at h
    · rename_i k hc
      exact ⟨k, rfl, hc.1, hc.2.1, hc.2.2, h⟩
    · exact h.elim
  · exact h.elim
theorem asIx_ok {m : Nat} {d : PyData} {n : Nat} {Φ : Nat → Nat → Prop} (h : (asIx m d).ok n Φ) : ∃ k j, d = .int k ∧ ixN m k = some j ∧ Φ j n := by
  unfold asIx at h
  split at h
  · obtain ⟨j, e, h⟩ := Dr.ok_opt h
    exact ⟨_, j, rfl, e, h⟩
  · exact h.elim
theorem DDs.app {K : PySem.W.Frag} {G : Hp} : ∀ {xs ys : List V} {ds es : List PyData}, DDs K G xs ds → DDs K G ys es → DDs K G (xs ++ ys) (ds ++ es)
  | _, _, _, _, .nil, h => h
  | _, _, _, _, .cons a t, h => .cons a (DDs.app t h)
theorem DDs.dr {K : PySem.W.Frag} {G : Hp} : ∀ (n : Nat) {xs : List V} {ds : List PyData}, DDs K G xs ds → DDs K G (xs.drop n) (ds.drop n)
  | 0, _, _, h => h
  | _ + 1, _, _, .nil => .nil
  | n + 1, _, _, .cons _ t => DDs.dr n t
theorem DDs.tk {K : PySem.W.Frag} {G : Hp} : ∀ (n : Nat) {xs : List V} {ds : List PyData}, DDs K G xs ds → DDs K G (xs.take n) (ds.take n)
  | 0, _, _, _ => .nil
  | _ + 1, _, _, .nil => .nil
  | n + 1, _, _, .cons a t => .cons a (DDs.tk n t)
theorem DDs.er {K : PySem.W.Frag} {G : Hp} : ∀ (n : Nat) {xs : List V} {ds : List PyData}, DDs K G xs ds → DDs K G (xs.eraseIdx n) (ds.eraseIdx n)
  | _, _, _, .nil => .nil
  | 0, _, _, .cons _ t => t
  | n + 1, _, _, .cons a t => .cons a (DDs.er n t)
theorem DDs.dl {K : PySem.W.Frag} {G : Hp} : ∀ {xs : List V} {ds : List PyData}, DDs K G xs ds → DDs K G xs.dropLast ds.dropLast := fun {xs ds} h => by
  rw [List.dropLast_eq_take, List.dropLast_eq_take, h.len]
  exact DDs.tk _ h
/-- a list told but not yet known becomes own -/
theorem own_side {K : PySem.W.Frag} {S0 : MS} {W : Own} {r r' : Nat} {G H G1 H1 : Hp} {l : Addr} {xs : List V} {ds : List PyData} (m : Mv S0.M G H G1 H1) (w0 : Wd (ows K S0 W) r' G H) (w : Wd (ows K S0 W) r G1 H1) (n0 : H l = none) (g0 : G1 l = none) (h0 : H1 l = some (.lst xs)) (dd : DDs K G1 xs ds) : Wd (ows K S0 ((l, .lst ds) :: W)) r G1 H1 ∧ Ms S0.M W ((l, .lst ds) :: W) G H G1 H1 := by
  have nM : ¬ (ows K S0 W).M l := fun z => by
    obtain ⟨o, e⟩ := (ows K S0 W).dom w0.inv z
    rw [n0] at e
    cases e
  obtain ⟨i1, i2, i3⟩ := w.inv
  have ms : Ms S0.M W W G H G1 H1 := ⟨m.gr, m.sub, fun a o e _ => m.old a o e, fun a o e n1 _ => m.kp a o e n1, m.dom, fun _ h => .inl h⟩
  refine ⟨⟨w.sub, fun a ha => ?_, i1, ?_, fun l' c hm => ?_⟩, ms.gr, ms.sub, ms.old, ms.kp, ms.dom, fun a ha => ?_⟩
  · rcases ha with ha | ⟨c, ha⟩
    · exact w.no a (.inl ha)
    · rcases List.mem_cons.mp ha with e | ha
      · cases e
        exact g0
      · exact w.no a (.inr ⟨c, ha⟩)
  · rw [List.map_cons, List.nodup_cons]
    refine ⟨fun z => ?_, i2⟩
    obtain ⟨⟨l', c⟩, hm, e⟩ := List.mem_map.mp z
    exact nM (.inr ⟨c, by cases e; exact hm⟩)
  · rcases List.mem_cons.mp hm with e | hm
    · cases e
      exact ⟨fun z => nM (.inl z), _, h0, xs, rfl, dd⟩
    · exact i3 l' c hm
  · obtain ⟨c, hc⟩ := ha
    rcases List.mem_cons.mp hc with e | hc
    · cases e
      exact .inr n0
    · exact .inl ⟨c, hc⟩
theorem few_ok {α : Type} {ds : List PyData} {t : Dr α} {n : Nat} {Φ : α → Nat → Prop} (h : (if ds.length ≤ 100000 then t else .bad).ok n Φ) : ds.length ≤ 100000 ∧ t.ok n Φ := by
  split at h
  · exact ⟨by assumption, h⟩
  · exact h.elim
theorem _root_.DL.Ms.ofMw {M : Addr → Prop} {W : Own} {G H G1 H1 : Hp} (m : Mv M G H G1 H1) : Ms M W W G H G1 H1 := ⟨m.gr, m.sub, fun a o e _ => m.old a o e, fun a o e n1 _ => m.kp a o e n1, m.dom, fun _ h => .inl h⟩
/-- several things told, W' behind; us: the addresses of the new lists -/
inductive BR (K : PySem.W.Frag) (G : Hp) (W' : Own) : List V → List Sl → List Addr → Prop
  | nil : BR K G W' [] [] []
  | dat {v : V} {d : PyData} {vs : List V} {ss : List Sl} {us : List Addr} (h : DD K G v d) (t : BR K G W' vs ss us) : BR K G W' (v :: vs) (.dat d :: ss) us
  | own {l : Addr} {ds : List PyData} {vs : List V} {ss : List Sl} {us : List Addr} (h : (l, .lst ds) ∈ W') (n : l ∉ us) (t : BR K G W' vs ss us) : BR K G W' (.ref l :: vs) (.own ds :: ss) (l :: us)
def Rx (ob : Option Addr) (env : En) (δ : List SD) (W : Own) (us : List Addr) : Prop := Rp ob env δ W ∧ ∀ (i : Nat) (ds : List PyData) (l : Addr), env[i]? = some (.own ds) → δ[i]? = some (.ref l) → l ∉ us
theorem Rx.dat {ob : Option Addr} {env : En} {δ : List SD} {W : Own} {us : List Addr} (r : Rx ob env δ W us) (i : Nat) (d : PyData) : Rx ob (env.set i (.dat d)) (δ.set i (.dat d)) W us := by
  refine ⟨r.1.setD i d, fun j ds l h1 h2 => ?_⟩
  rcases set_of h1 with ⟨rfl, e1, _⟩ | ⟨ne, h1⟩
  · cases e1
  · rw [List.getElem?_set_ne ne] at h2
    exact r.2 j ds l h1 h2
theorem Rx.own {ob : Option Addr} {env : En} {δ : List SD} {W : Own} {us : List Addr} {l : Addr} {ds : List PyData} (r : Rx ob env δ W (l :: us)) (hl : (l, .lst ds) ∈ W) (n : l ∉ us) (i : Nat) : Rx ob (env.set i (.own ds)) (δ.set i (.ref l)) W us := by
  have hno : ∀ (j : Nat) (es : List PyData) (l' : Addr), env[j]? = some (.own es) → δ[j]? = some (.ref l') → l' ≠ l := fun j es l' a b e => r.2 j es l' a b (e ▸ List.mem_cons_self ..)
  refine ⟨⟨by rw [List.length_set, List.length_set, r.1.len], fun j e h => ?_, fun j es h => ?_, fun j h => ?_, fun j k es fs l' h1 h2 h3 h4 => ?_⟩, fun j es l' h1 h2 => ?_⟩
  · rcases set_of h with ⟨rfl, e1, _⟩ | ⟨ne, h⟩
    · cases e1
    · rw [List.getElem?_set_ne ne]
      exact r.1.dat j e h
  · rcases set_of h with ⟨rfl, e1, hi⟩ | ⟨ne, h⟩
    · cases e1
      exact ⟨l, List.getElem?_set_self (by rw [r.1.len]; exact hi), hl⟩
    · rw [List.getElem?_set_ne ne]
      exact r.1.own j es h
  · rcases set_of h with ⟨rfl, e1, _⟩ | ⟨ne, h⟩
    · cases e1
    · rw [List.getElem?_set_ne ne]
      exact r.1.box j h
  · rcases set_of h1 with ⟨rfl, e1, hi⟩ | ⟨n1, h1⟩
    · rw [List.getElem?_set_self (by rw [r.1.len]; exact hi)] at h3
      cases h3
      rcases set_of h2 with ⟨rfl, _, _⟩ | ⟨n2, h2⟩
      · rfl
      · rw [List.getElem?_set_ne n2] at h4
        exact absurd rfl (hno k fs l h2 h4)
    · rw [List.getElem?_set_ne n1] at h3
      rcases set_of h2 with ⟨rfl, e1, hi⟩ | ⟨n2, h2⟩
      · rw [List.getElem?_set_self (by rw [r.1.len]; exact hi)] at h4
        cases h4
        exact absurd rfl (hno j es l h1 h3)
      · rw [List.getElem?_set_ne n2] at h4
        exact r.1.inj j k es fs l' h1 h2 h3 h4
  · rcases set_of h1 with ⟨rfl, e1, hi⟩ | ⟨ne, h1⟩
    · rw [List.getElem?_set_self (by rw [r.1.len]; exact hi)] at h2
      cases h2
      exact n
    · rw [List.getElem?_set_ne ne] at h2
      exact fun z => r.2 j es l' h1 h2 (List.mem_cons_of_mem _ z)
/-- one thing is laid in a slot -/
theorem Rx.put {K : PySem.W.Frag} {G : Hp} {ob : Option Addr} {env : En} {δ : List SD} {σ : L2.St} {W : Own} {v : V} {s : Sl} {vs : List V} {ss : List Sl} {us : List Addr} (r : Rx ob env δ W us) (hq : SlD K G σ δ) (b : BR K G W (v :: vs) (s :: ss) us) (i : Nat) :
    ∃ δ' us', Rx ob (env.set i s) δ' W us' ∧ SlD K G (σ.set i (some v)) δ' ∧ BR K G W vs ss us' := by
  cases b with
  | dat h t => exact ⟨_, _, r.dat i _, hq.set (s := .dat _) h i, t⟩
  | own h n t => exact ⟨_, _, r.own h n i, hq.set (s := .ref _) rfl i, t⟩
theorem BR.ne {K : PySem.W.Frag} {G : Hp} {W : Own} {vs : List V} {s : Sl} {ss : List Sl} {us : List Addr} (b : BR K G W vs (s :: ss) us) : ∃ v vs', vs = v :: vs' := by
  cases b with
  | dat _ _ => exact ⟨_, _, rfl⟩
  | own _ _ _ => exact ⟨_, _, rfl⟩
theorem Rp.more {ob : Option Addr} {env : En} {δ : List SD} {W W' : Own} (r : Rp ob env δ W) (h : ∀ x ∈ W, x ∈ W') : Rp ob env δ W' := ⟨r.len, r.dat, fun i ds e => by
  obtain ⟨l, a, b⟩ := r.own i ds e
  exact ⟨l, a, h _ b⟩, r.box, r.inj⟩
theorem BR.mono {K : PySem.W.Frag} {G G' : Hp} {W : Own} {vs : List V} {ss : List Sl} {us : List Addr} (b : BR K G W vs ss us) (g : ∀ a o, G a = some o → G' a = some o) : BR K G' W vs ss us := by
  induction b with
  | nil => exact .nil
  | dat h t ih => exact .dat (h.mono g) ih
  | own h n t ih => exact .own h n ih
theorem asSeq_ok {d : PyData} {n : Nat} {Φ : List PyData → Nat → Prop} (h : (asSeq d).ok n Φ) : ∃ ds, IsSeq d ds ∧ Φ ds n := by
  cases d with
  | list ds => exact ⟨ds, .inl rfl, h⟩
  | tuple ds => exact ⟨ds, .inr rfl, h⟩
  | none => exact h.elim
  | bool _ => exact h.elim
  | int _ => exact h.elim
  | str _ => exact h.elim
  | dict _ => exact h.elim
section
variable {q : Gq} {ob : Option Addr} (hD : HD q.K q.w q.da)
include hD
theorem sB : ∀ (b : B) (env : En) δ W n Φ, Rp ob env δ W → (evB b env).ok n Φ → ∀ σ G H, SlD q.K G σ δ → Wd (ows q.K (mS ob) W) n G H → ∀ Q : List V → Hp → Prop,
    (∀ vs ss us W' n' G2 H2, Ms (mS ob).M W W' G H G2 H2 → Wd (ows q.K (mS ob) W') n' G2 H2 → BR q.K G2 W' vs ss us → (∀ x ∈ W, x ∈ W') → (∀ l ∈ us, ∀ c, (l, c) ∉ W) → Φ ss n' → Q vs H2) → tB q b σ H Q
  | .nil, env, δ, W, n, Φ, hR, hk, σ, G, H, hq, w, Q, hQ => hQ [] [] [] W n G H (.ofMw (Mv.refl w.sub)) w .nil (fun _ h => h) (fun _ h => nomatch h) hk
  | .consE e r, env, δ, W, n, Φ, hR, hk, σ, G, H, hq, w, Q, hQ => by
    refine sE hD e env δ W n _ hR (Dr.ok_bind.mp hk) σ G H hq w _ fun v d n1 G1 H1 m1 w1 hv hk1 => ?_
    refine sB r env δ W n1 _ hR (Dr.ok_bind.mp hk1) σ G1 H1 (hq.mono m1.gr) w1 _ fun vs ss us W' n2 G2 H2 m2 w2 b2 s2 u2 hk2 => ?_
    exact hQ (v :: vs) (.dat d :: ss) us W' n2 G2 H2 ((Ms.ofMw m1).trans m2) w2 (.dat (hv.mono m2.gr) b2) s2 u2 hk2
  | .consF f r, env, δ, W, n, Φ, hR, hk, σ, G, H, hq, w, Q, hQ => by
    refine sF hD f env δ W n _ hR (Dr.ok_bind.mp hk) σ G H hq w _ fun l xs ds n1 G1 H1 m1 w1 n0 g0 h0 dd hk1 => ?_
    obtain ⟨w2, m2⟩ := own_side m1 w w1 n0 g0 h0 dd
    refine sB r env δ ((l, .lst ds) :: W) n1 _ (hR.more fun x hx => List.mem_cons_of_mem _ hx) (Dr.ok_bind.mp hk1) σ G1 H1 (hq.mono m1.gr) w2 _ fun vs ss us W' n2 G2 H2 m3 w3 b3 s3 u3 hk2 => ?_
    refine hQ (.ref l :: vs) (.own ds :: ss) (l :: us) W' n2 G2 H2 (m2.trans m3) w3 (.own (s3 _ (List.mem_cons_self ..)) (fun z => u3 l z _ (List.mem_cons_self ..)) b3) (fun x hx => s3 x (List.mem_cons_of_mem _ hx)) (fun l' hl' c hc => ?_) hk2
    rcases List.mem_cons.mp hl' with e | hl'
    · subst e
      exact has_of w n0 c hc
    · exact u3 l' hl' c (List.mem_cons_of_mem _ hc)
theorem sS : ∀ (s : S) (env : En), SS q ob (tS q s) env (evS s env)
  | .next, env => fun δ W n Φ hR hk σ G H hq w D x => x.nx σ env δ W n G H (.ofMw (Mv.refl w.sub)) w hq hR hk
  | .seq a b, env => fun δ W n Φ hR hk σ G H hq w D x => by
    refine sS a env δ W n _ hR (Dr.ok_bind.mp hk) σ G H hq w _ ⟨fun σ' env' δ' W' n' G2 H2 m w2 q2 r2 k2 => ?_, fun v d W' n' G2 H2 m w2 q2 k2 => x.rt v d W' n' G2 H2 m w2 q2 k2, fun l xs ds W' n' G2 H2 m w2 b2 g2 h2 d2 k2 => x.rtO l xs ds W' n' G2 H2 m w2 b2 g2 h2 d2 k2, fun σ' env' δ' W' n' G2 H2 m w2 q2 r2 k2 => x.bk σ' env' δ' W' n' G2 H2 m w2 q2 r2 k2, fun σ' env' δ' W' n' G2 H2 m w2 q2 r2 k2 => x.ct σ' env' δ' W' n' G2 H2 m w2 q2 r2 k2, fun c fs W' n' G2 H2 m w2 k2 => x.ex c fs W' n' G2 H2 m w2 k2⟩
    exact sS b env' δ' W' n' Φ r2 k2 σ' G2 H2 q2 w2 D (x.at m)
  | .asg g e, env => fun δ W n Φ hR hk σ G H hq w D x => by
    refine sE hD e env δ W n _ hR (Dr.ok_bind.mp hk) σ G H hq w _ fun v d n1 G1 H1 m1 w1 hv hk1 => ?_
    obtain ⟨env', ep, hk2⟩ := Dr.ok_opt (Dr.ok_bind.mp hk1)
    obtain ⟨δ', hR', _, tg⟩ := sG (K := q.K) g ep hR
    exact tg v σ G1 H1 (hq.mono m1.gr) hv w1.sub _ fun σ2 q2 _ => x.nx σ2 env' δ' W n1 G1 H1 (.ofMw m1) w1 q2 hR' hk2
  | .asg2 i j e, env => fun δ W n Φ hR hk σ G H hq w D x => by
    refine sE hD e env δ W n _ hR (Dr.ok_bind.mp hk) σ G H hq w _ fun v d n1 G1 H1 m1 w1 hv hk1 => ?_
    exact x.nx _ _ _ W n1 G1 H1 (.ofMw m1) w1 (((hq.mono m1.gr).set (s := .dat d) hv i).set (s := .dat d) hv j) ((hR.setD i _).setD j _) hk1
  | .par i j as, env => fun δ W n Φ hR hk σ G H hq w D x => by
    refine sA hD as env δ W n _ hR (Dr.ok_bind.mp hk) σ G H hq w _ fun vs ds n1 G1 H1 m1 w1 hv hk1 => ?_
    cases hv with
    | nil => exact hk1.elim
    | cons h1 t =>
      cases t with
      | nil => exact hk1.elim
      | cons h2 t =>
        cases t with
        | cons _ _ => exact hk1.elim
        | nil => exact ⟨_, _, rfl, x.nx _ _ _ W n1 G1 H1 (.ofMw m1) w1 (((hq.mono m1.gr).set (s := .dat _) h1 i).set (s := .dat _) h2 j) ((hR.setD i _).setD j _) hk1⟩
  | .par3 i j k as, env => fun δ W n Φ hR hk σ G H hq w D x => by
    refine sA hD as env δ W n _ hR (Dr.ok_bind.mp hk) σ G H hq w _ fun vs ds n1 G1 H1 m1 w1 hv hk1 => ?_
    cases hv with
    | nil => exact hk1.elim
    | cons h1 t =>
      cases t with
      | nil => exact hk1.elim
      | cons h2 t =>
        cases t with
        | nil => exact hk1.elim
        | cons h3 t =>
          cases t with
          | cons _ _ => exact hk1.elim
          | nil => exact ⟨_, _, _, rfl, x.nx _ _ _ W n1 G1 H1 (.ofMw m1) w1 ((((hq.mono m1.gr).set (s := .dat _) h1 i).set (s := .dat _) h2 j).set (s := .dat _) h3 k) (((hR.setD i _).setD j _).setD k _) hk1⟩
  | .aug i o e, env => fun δ W n Φ hR hk σ G H hq w D x => by
    obtain ⟨d, ed, hk1⟩ := slot_ok (Dr.ok_bind.mp hk)
    obtain ⟨v, ev, dv⟩ := hq.dat (hR.dat i d ed)
    refine ⟨v, ev, sE hD e env δ W n _ hR (Dr.ok_bind.mp hk1) σ G H hq w _ fun u d2 n1 G1 H1 m1 w1 hu hk2 => ?_⟩
    obtain ⟨z, ez, hk3⟩ := Dr.ok_opt (Dr.ok_bind.mp hk2)
    refine o.ok q.K d d2 z ez v u G1 H1 (dv.mono m1.gr) hu w1.sub _ fun y s G3 H3 m3 hy hs => ?_
    subst hs
    have mm := m1.trans (m3.weak (M' := (mS ob).M) fun _ f => f.elim)
    exact x.nx _ _ _ W n1 G3 H3 (.ofMw mm) (w1.pure m3) ((hq.mono mm.gr).set hy i) (hR.setD i z) hk3
  | .newO i as, env => fun δ W n Φ hR hk σ G H hq w D x => by
    refine sA hD as env δ W n _ hR (Dr.ok_bind.mp hk) σ G H hq w _ fun vs ds n1 G1 H1 m1 w1 hv hk1 => ?_
    by_cases hl : ds.length ≤ 100000
    · rw [if_pos hl] at hk1
      refine ⟨Nat.le_trans (by rw [hv.len]; exact hl) (by decide), fun p np => ?_⟩
      obtain ⟨w3, m3⟩ := own_new (c := .lst ds) w1 np ⟨_, rfl, hv⟩
      exact x.nx _ _ _ _ n1 G1 _ ((Ms.ofMw m1).trans m3) w3 ((hq.mono m1.gr).set (s := .ref p) (v := .ref p) rfl i) (hR.new (has_of w1 np) i ds) hk1
    · rw [if_neg hl] at hk1
      exact hk1.elim
  | .newL i e, env => fun δ W n Φ hR hk σ G H hq w D x => by
    refine sE hD e env δ W n _ hR (Dr.ok_bind.mp hk) σ G H hq w _ fun v d n1 G1 H1 m1 w1 hv hk1 => ?_
    obtain ⟨ds, hs, hk2⟩ := asSeq_ok (Dr.ok_bind.mp hk1)
    have sq : ∃ a ys, v = .ref a ∧ (SqL q.K H1 a ys ∨ SqT q.K H1 a ys) ∧ DDs q.K G1 ys ds := by
      rcases hs with rfl | rfl
      · cases hv with
        | @lst a ys _ hh t => exact ⟨a, ys, rfl, .inl (.inl (.inl (w1.sub _ _ hh))), t⟩
      · cases hv with
        | @tup a ys _ hh t => exact ⟨a, ys, rfl, .inr (.inl (.inl (w1.sub _ _ hh))), t⟩
    obtain ⟨p0, ys, rfl, hsq, dd⟩ := sq
    refine ⟨p0, ys, rfl, hsq, fun p np => ?_⟩
    obtain ⟨w3, m3⟩ := own_new (c := .lst ds) w1 np ⟨_, rfl, dd⟩
    exact x.nx _ _ _ _ n1 G1 _ ((Ms.ofMw m1).trans m3) w3 ((hq.mono m1.gr).set (s := .ref p) (v := .ref p) rfl i) (hR.new (has_of w1 np) i ds) hk2
  | .app i e, env => fun δ W n Φ hR hk σ G H hq w D x => by
    obtain ⟨ds, eo, hk1⟩ := own_ok (Dr.ok_bind.mp hk)
    obtain ⟨l, hl, hm⟩ := hR.own i ds eo
    obtain ⟨j, hW⟩ := List.mem_iff_getElem?.mp hm
    obtain ⟨_, _, xs0, h0, _⟩ := own_lst w hW
    refine ⟨.ref l, hq.ref hl, .inl ⟨rfl, _, .inl (.inl h0)⟩, sE hD e env δ W n _ hR (Dr.ok_bind.mp hk1) σ G H hq w _ fun v d n1 G1 H1 m1 w1 hv hk2 => ?_⟩
    by_cases hle : ds.length ≤ 100000
    · rw [if_pos hle] at hk2
      obtain ⟨_, nG, xs, hx, dd⟩ := own_lst w1 hW
      refine ⟨l, xs, v, rfl, rfl, hx, Nat.lt_of_le_of_lt (by rw [dd.len]; exact hle) (by decide), ?_⟩
      exact x.nx σ _ δ _ n1 G1 _ ((Ms.ofMw m1).trans (ms_put w1 hW)) (own_put w1 hW ⟨_, rfl, dd.snoc hv⟩) (hq.mono m1.gr) (hR.put eo hl hW _) hk2
    · rw [if_neg hle] at hk2
      exact hk2.elim
  | .setix i ix e, env => fun δ W n Φ hR hk σ G H hq w D x => by
    obtain ⟨ds, eo, hk1⟩ := own_ok (Dr.ok_bind.mp hk)
    obtain ⟨l, hl, hm⟩ := hR.own i ds eo
    obtain ⟨j, hW⟩ := List.mem_iff_getElem?.mp hm
    refine sE hD e env δ W n _ hR (Dr.ok_bind.mp hk1) σ G H hq w _ fun v d n1 G1 H1 m1 w1 hv hk2 => ?_
    refine ⟨.ref l, (hq.mono m1.gr).ref hl, sE hD ix env δ W n1 _ hR (Dr.ok_bind.mp hk2) σ G1 H1 (hq.mono m1.gr) w1 _ fun y d2 n2 G2 H2 m2 w2 hy hk3 => ?_⟩
    cases hy with
    | int k =>
      obtain ⟨m, em, hk4⟩ := Dr.ok_opt (show (Dr.opt (ixN ds.length k)).ok n2 _ from Dr.ok_bind.mp hk3)
      obtain ⟨_, nG, xs, hh, dd⟩ := own_lst w2 hW
      refine ⟨l, xs, k, m, rfl, rfl, hh, by rw [dd.len]; exact em, ?_⟩
      exact x.nx σ _ δ _ n2 G2 _ (((Ms.ofMw m1).trans (.ofMw m2)).trans (ms_put w2 hW)) (own_put w2 hW ⟨_, rfl, DDs.setAt (hv.mono m2.gr) dd⟩) ((hq.mono m1.gr).mono m2.gr) (hR.put eo hl hW _) hk4
    | non => exact (Dr.ok_bind.mp hk3).elim
    | bl _ => exact (Dr.ok_bind.mp hk3).elim
    | str _ => exact (Dr.ok_bind.mp hk3).elim
    | lst _ _ => exact (Dr.ok_bind.mp hk3).elim
    | tup _ _ => exact (Dr.ok_bind.mp hk3).elim
  | .augix i ix o e, env => fun δ W n Φ hR hk σ G H hq w D x => by
    obtain ⟨ds, eo, hk1⟩ := own_ok (Dr.ok_bind.mp hk)
    obtain ⟨l, hl, hm⟩ := hR.own i ds eo
    obtain ⟨j, hW⟩ := List.mem_iff_getElem?.mp hm
    refine ⟨.ref l, hq.ref hl, sE hD ix env δ W n _ hR (Dr.ok_bind.mp hk1) σ G H hq w _ fun y d2 n2 G2 H2 m2 w2 hy hk3 => ?_⟩
    cases hy with
    | int k =>
      obtain ⟨m, em, hk4⟩ := Dr.ok_opt (show (Dr.opt (ixN ds.length k)).ok n2 _ from Dr.ok_bind.mp hk3)
      obtain ⟨d, ed, hk5⟩ := Dr.ok_opt (Dr.ok_bind.mp hk4)
      obtain ⟨_, nG, xs, hh, dd⟩ := own_lst w2 hW
      have ea : atI ds k = some d := by
        unfold atI
        rw [em]
        exact ed
      obtain ⟨v, hv, dv⟩ := atI_dd dd ea
      refine ⟨l, xs, k, v, rfl, rfl, .inl (.inl hh), hv, sE hD e env δ W n2 _ hR (Dr.ok_bind.mp hk5) σ G2 H2 (hq.mono m2.gr) w2 _ fun u d3 n3 G3 H3 m3 w3 hu hk6 => ?_⟩
      obtain ⟨z, ez, hk7⟩ := Dr.ok_opt (Dr.ok_bind.mp hk6)
      refine o.ok q.K d d3 z ez v u G3 H3 (dv.mono m3.gr) hu w3.sub _ fun y2 s G4 H4 m4 hy2 hs => ?_
      subst hs
      have w4 := w3.pure m4
      obtain ⟨_, nG4, xs4, hh4, dd4⟩ := own_lst w4 hW
      refine ⟨l, xs4, k, m, rfl, rfl, hh4, by rw [dd4.len]; exact em, ?_⟩
      exact x.nx σ _ δ _ n3 G4 _ ((((Ms.ofMw m2).trans (.ofMw m3)).trans (.ofMw (m4.weak (M' := (mS ob).M) fun _ f => f.elim))).trans (ms_put w4 hW)) (own_put w4 hW ⟨_, rfl, DDs.setAt hy2 dd4⟩) (((hq.mono m2.gr).mono m3.gr).mono m4.gr) (hR.put eo hl hW _) hk7
    | non => exact (Dr.ok_bind.mp hk3).elim
    | bl _ => exact (Dr.ok_bind.mp hk3).elim
    | str _ => exact (Dr.ok_bind.mp hk3).elim
    | lst _ _ => exact (Dr.ok_bind.mp hk3).elim
    | tup _ _ => exact (Dr.ok_bind.mp hk3).elim
  | .rev i, env => fun δ W n Φ hR hk σ G H hq w D x => by
    obtain ⟨ds, eo, hk1⟩ := own_ok (Dr.ok_bind.mp hk)
    obtain ⟨l, hl, hm⟩ := hR.own i ds eo
    obtain ⟨j, hW⟩ := List.mem_iff_getElem?.mp hm
    obtain ⟨_, _, xs, h0, dd⟩ := own_lst w hW
    refine ⟨.ref l, hq.ref hl, .inl ⟨rfl, _, .inl (.inl h0)⟩, l, xs, rfl, rfl, h0, ?_⟩
    exact x.nx σ _ δ _ n G _ (ms_put w hW) (own_put w hW ⟨_, rfl, dd.reverse⟩) hq (hR.put eo hl hW _) hk1
  | .setsl i ix e, env => fun δ W n Φ hR hk σ G H hq w D x => by
    obtain ⟨ds, eo, hk1⟩ := own_ok (Dr.ok_bind.mp hk)
    obtain ⟨l, hl, hm⟩ := hR.own i ds eo
    obtain ⟨j, hW⟩ := List.mem_iff_getElem?.mp hm
    refine sE hD e env δ W n _ hR (Dr.ok_bind.mp hk1) σ G H hq w _ fun v d n1 G1 H1 m1 w1 hv hk2 => ?_
    refine ⟨.ref l, (hq.mono m1.gr).ref hl, sE hD ix env δ W n1 _ hR (Dr.ok_bind.mp hk2) σ G1 H1 (hq.mono m1.gr) w1 _ fun y d2 n2 G2 H2 m2 w2 hy hk3 => ?_⟩
    obtain ⟨es, k, rfl, rfl, k0, k1, k2, hk4⟩ := slPut_ok (Dr.ok_bind.mp hk3)
    obtain ⟨_, nG, xs, hh, dd⟩ := own_lst w2 hW
    cases hy
    cases hv.mono m2.gr with
    | @lst b ys _ hb t =>
      refine ⟨k, rfl, l, b, xs, ys, k, rfl, rfl, rfl, fun z => ?_, hh, w2.sub _ _ hb, k0, by rw [dd.len]; exact k1, Nat.le_trans (by rw [dd.len, t.len]; exact k2) (by decide), ?_⟩
      · subst z
        rw [nG] at hb
        cases hb
      · exact x.nx σ _ δ _ n2 G2 _ (((Ms.ofMw m1).trans (.ofMw m2)).trans (ms_put w2 hW)) (own_put w2 hW ⟨_, rfl, DDs.app t (DDs.dr _ dd)⟩) ((hq.mono m1.gr).mono m2.gr) (hR.put eo hl hW _) hk4
  | .ext i e, env => fun δ W n Φ hR hk σ G H hq w D x => by
    obtain ⟨ds, eo, hk1⟩ := own_ok (Dr.ok_bind.mp hk)
    obtain ⟨l, hl, hm⟩ := hR.own i ds eo
    obtain ⟨j, hW⟩ := List.mem_iff_getElem?.mp hm
    obtain ⟨_, _, xs0, h0, _⟩ := own_lst w hW
    refine ⟨.ref l, hq.ref hl, .inl ⟨rfl, _, .inl (.inl h0)⟩, sE hD e env δ W n _ hR (Dr.ok_bind.mp hk1) σ G H hq w _ fun v d n1 G1 H1 m1 w1 hv hk2 => ?_⟩
    obtain ⟨es, rfl, hle, hk3⟩ := exPut_ok (Dr.ok_bind.mp hk2)
    obtain ⟨_, nG, xs, hx, dd⟩ := own_lst w1 hW
    cases hv with
    | @lst b ys _ hb t =>
      refine ⟨l, b, xs, ys, rfl, rfl, hx, w1.sub _ _ hb, Nat.le_trans (by rw [dd.len, t.len]; exact hle) (by decide), ?_⟩
      exact x.nx σ _ δ _ n1 G1 _ ((Ms.ofMw m1).trans (ms_put w1 hW)) (own_put w1 hW ⟨_, rfl, DDs.app dd t⟩) (hq.mono m1.gr) (hR.put eo hl hW _) hk3
  | .clr i, env => fun δ W n Φ hR hk σ G H hq w D x => by
    obtain ⟨ds, eo, hk1⟩ := own_ok (Dr.ok_bind.mp hk)
    obtain ⟨l, hl, hm⟩ := hR.own i ds eo
    obtain ⟨j, hW⟩ := List.mem_iff_getElem?.mp hm
    obtain ⟨_, _, xs, h0, dd⟩ := own_lst w hW
    refine ⟨.ref l, hq.ref hl, .inl ⟨rfl, _, .inl (.inl h0)⟩, l, xs, rfl, rfl, h0, ?_⟩
    exact x.nx σ _ δ _ n G _ (ms_put w hW) (own_put w hW ⟨_, rfl, .nil⟩) hq (hR.put eo hl hW _) hk1
  | .pop i, env => fun δ W n Φ hR hk σ G H hq w D x => by
    obtain ⟨ds, eo, hk1⟩ := own_ok (Dr.ok_bind.mp hk)
    obtain ⟨l, hl, hm⟩ := hR.own i ds eo
    obtain ⟨j, hW⟩ := List.mem_iff_getElem?.mp hm
    obtain ⟨_, _, xs, h0, dd⟩ := own_lst w hW
    by_cases he : ds.isEmpty = true
    · rw [if_pos he] at hk1
      exact hk1.elim
    · rw [if_neg he] at hk1
      have hlen : 0 < xs.length := by
        rw [dd.len]
        cases ds with
        | nil => exact absurd rfl he
        | cons _ _ => exact Nat.succ_pos _
      refine ⟨.ref l, hq.ref hl, .inl ⟨rfl, _, .inl (.inl h0)⟩, l, xs, _, rfl, rfl, h0, List.getElem?_eq_getElem (by omega), ?_⟩
      exact x.nx σ _ δ _ n G _ (ms_put w hW) (own_put w hW ⟨_, rfl, DDs.dl dd⟩) hq (hR.put eo hl hW _) hk1
  | .popA g i e, env => fun δ W n Φ hR hk σ G H hq w D x => by
    obtain ⟨ds, eo, hk1⟩ := own_ok (Dr.ok_bind.mp hk)
    obtain ⟨l, hl, hm⟩ := hR.own i ds eo
    obtain ⟨j, hW⟩ := List.mem_iff_getElem?.mp hm
    obtain ⟨_, _, xs0, h0, _⟩ := own_lst w hW
    refine ⟨.ref l, hq.ref hl, .inl ⟨rfl, _, .inl (.inl h0)⟩, sE hD e env δ W n _ hR (Dr.ok_bind.mp hk1) σ G H hq w _ fun v d n1 G1 H1 m1 w1 hv hk2 => ?_⟩
    obtain ⟨k, m, rfl, em, hk3⟩ := asIx_ok (Dr.ok_bind.mp hk2)
    obtain ⟨hle, hk3⟩ := few_ok hk3
    obtain ⟨y, ey, hk4⟩ := Dr.ok_opt (Dr.ok_bind.mp hk3)
    obtain ⟨env', ep, hk5⟩ := Dr.ok_opt (Dr.ok_bind.mp hk4)
    obtain ⟨_, nG, xs, hx, dd⟩ := own_lst w1 hW
    cases hv
    obtain ⟨v, hv, dv⟩ := atI_dd dd (show atI ds k = some y by unfold atI; rw [em]; exact ey)
    obtain ⟨h1, h2, h3, h4⟩ := ixN_seq em
    have hr := hR.put eo hl hW (ds.eraseIdx m)
    obtain ⟨δ', hR', _, tg⟩ := sG (K := q.K) g ep hr
    have hxm : xs[m]? = some v := by
      have : atI xs k = xs[m]? := by
        unfold atI
        rw [show ixN xs.length k = some m by rw [dd.len]; exact em]
        rfl
      rw [← this]
      exact hv
    refine ⟨l, xs, k, m, v, rfl, rfl, hx, by have := dd.len; omega, by have := dd.len; omega, by rw [dd.len]; exact h1, hxm, ?_⟩
    have w3 := own_put w1 hW (c' := .lst (ds.eraseIdx m)) (o' := .lst (xs.eraseIdx m)) ⟨_, rfl, DDs.er m dd⟩
    exact tg v σ G1 _ (hq.mono m1.gr) dv w3.sub _ fun σ2 q2 _ => x.nx σ2 env' δ' _ n1 G1 _ ((Ms.ofMw m1).trans (ms_put w1 hW)) w3 q2 hR' hk5
  | .ins i ix e, env => fun δ W n Φ hR hk σ G H hq w D x => by
    obtain ⟨ds, eo, hk1⟩ := own_ok (Dr.ok_bind.mp hk)
    obtain ⟨l, hl, hm⟩ := hR.own i ds eo
    obtain ⟨j, hW⟩ := List.mem_iff_getElem?.mp hm
    obtain ⟨_, _, xs0, h0, _⟩ := own_lst w hW
    refine ⟨.ref l, hq.ref hl, .inl ⟨rfl, _, .inl (.inl h0)⟩, sE hD ix env δ W n _ hR (Dr.ok_bind.mp hk1) σ G H hq w _ fun v d n1 G1 H1 m1 w1 hv hk2 => ?_⟩
    refine sE hD e env δ W n1 _ hR (Dr.ok_bind.mp hk2) σ G1 H1 (hq.mono m1.gr) w1 _ fun u d2 n2 G2 H2 m2 w2 hu hk3 => ?_
    obtain ⟨k, rfl, k0, k1, k2, hk4⟩ := insPut_ok (Dr.ok_bind.mp hk3)
    obtain ⟨_, nG, xs, hx, dd⟩ := own_lst w2 hW
    cases hv
    refine ⟨l, xs, k, u, rfl, rfl, hx, Nat.lt_of_le_of_lt (by rw [dd.len]; exact k2) (by decide), k0, k1, ?_⟩
    exact x.nx σ _ δ _ n2 G2 _ (((Ms.ofMw m1).trans (.ofMw m2)).trans (ms_put w2 hW)) (own_put w2 hW ⟨_, rfl, DDs.app (DDs.app (DDs.tk _ dd) (.cons hu .nil)) (DDs.dr _ dd)⟩) ((hq.mono m1.gr).mono m2.gr) (hR.put eo hl hW _) hk4
  | .newE i e, env => fun δ W n Φ hR hk σ G H hq w D x => by
    refine sF hD e env δ W n _ hR (Dr.ok_bind.mp hk) σ G H hq w _ fun l xs ds n1 G1 H1 m1 w1 n0 g0 h0 dd hk1 => ?_
    obtain ⟨w2, m2⟩ := own_side m1 w w1 n0 g0 h0 dd
    exact x.nx _ _ _ _ n1 G1 H1 m2 w2 ((hq.mono m1.gr).set (s := .ref l) (v := .ref l) rfl i) (hR.new (has_of w n0) i ds) hk1
  | .par2B i j b, env => fun δ W n Φ hR hk σ G H hq w D x => by
    refine sB hD b env δ W n _ hR (Dr.ok_bind.mp hk) σ G H hq w _ fun vs ss us W' n1 G1 H1 m1 w1 br sW uW hk1 => ?_
    have hx : Rx ob env δ W' us := ⟨hR.more sW, fun i' ds l h1 h2 z => by
      obtain ⟨l2, a, c⟩ := hR.own i' ds h1
      rw [h2] at a
      cases a
      exact uW l z _ c⟩
    have q0 := hq.mono m1.gr
    match ss, hk1 with
    | [s1, s2], hk1 =>
      obtain ⟨v, vs, rfl⟩ := br.ne
      obtain ⟨δ1, us1, r1, q1, b1⟩ := hx.put q0 br i
      obtain ⟨u, vs, rfl⟩ := b1.ne
      obtain ⟨δ2, us2, r2, q2, b2⟩ := r1.put q1 b1 j
      cases b2
      exact ⟨v, u, rfl, x.nx _ _ δ2 W' n1 G1 H1 m1 w1 q2 r2.1 hk1⟩
    | [], hk1 => exact (Dr.ok_bind.mp hk1).elim
    | [_], hk1 => exact (Dr.ok_bind.mp hk1).elim
    | _ :: _ :: _ :: _, hk1 => exact (Dr.ok_bind.mp hk1).elim
  | .par3B i j k b, env => fun δ W n Φ hR hk σ G H hq w D x => by
    refine sB hD b env δ W n _ hR (Dr.ok_bind.mp hk) σ G H hq w _ fun vs ss us W' n1 G1 H1 m1 w1 br sW uW hk1 => ?_
    have hx : Rx ob env δ W' us := ⟨hR.more sW, fun i' ds l h1 h2 z => by
      obtain ⟨l2, a, c⟩ := hR.own i' ds h1
      rw [h2] at a
      cases a
      exact uW l z _ c⟩
    have q0 := hq.mono m1.gr
    match ss, hk1 with
    | [s1, s2, s3], hk1 =>
      obtain ⟨v, vs, rfl⟩ := br.ne
      obtain ⟨δ1, us1, r1, q1, b1⟩ := hx.put q0 br i
      obtain ⟨u, vs, rfl⟩ := b1.ne
      obtain ⟨δ2, us2, r2, q2, b2⟩ := r1.put q1 b1 j
      obtain ⟨t, vs, rfl⟩ := b2.ne
      obtain ⟨δ3, us3, r3, q3, b3⟩ := r2.put q2 b2 k
      cases b3
      exact ⟨v, u, t, rfl, x.nx _ _ δ3 W' n1 G1 H1 m1 w1 q3 r3.1 hk1⟩
    | [], hk1 => exact (Dr.ok_bind.mp hk1).elim
    | [_], hk1 => exact (Dr.ok_bind.mp hk1).elim
    | [_, _], hk1 => exact (Dr.ok_bind.mp hk1).elim
    | _ :: _ :: _ :: _ :: _, hk1 => exact (Dr.ok_bind.mp hk1).elim
  | .retO i, env => fun δ W n Φ hR hk σ G H hq w D x => by
    obtain ⟨ds, eo, hk1⟩ := own_ok (Dr.ok_bind.mp hk)
    obtain ⟨l, hl, hm⟩ := hR.own i ds eo
    obtain ⟨j, hW⟩ := List.mem_iff_getElem?.mp hm
    obtain ⟨_, nG, xs, h0, dd⟩ := own_lst w hW
    exact ⟨.ref l, hq.ref hl, x.rtO l xs ds W n G H (.ofMw (Mv.refl w.sub)) w (.inl ⟨_, hm⟩) nG h0 dd hk1⟩
  | .retF e, env => fun δ W n Φ hR hk σ G H hq w D x => by
    exact sF hD e env δ W n _ hR (Dr.ok_bind.mp hk) σ G H hq w _ fun l xs ds n1 G1 H1 m1 w1 n0 g0 h0 dd hk1 => x.rtO l xs ds W n1 G1 H1 (.ofMw m1) w1 (.inr n0) g0 h0 dd hk1
  | .frz i s, env => fun δ W n Φ hR hk σ G H hq w D x => by
    obtain ⟨ds, eo, hk1⟩ := own_ok (Dr.ok_bind.mp hk)
    obtain ⟨l, hl, hm⟩ := hR.own i ds eo
    obtain ⟨j, hW⟩ := List.mem_iff_getElem?.mp hm
    obtain ⟨G1, d1, g1, w1, fix⟩ := own_frz w hW
    have q1 : SlD q.K G1 σ (δ.set i (.dat (.list ds))) := by
      have := (hq.mono g1).set (s := .dat (.list ds)) (v := .ref l) d1 i
      rwa [set_same_get (hq.ref hl)] at this
    exact sS s _ _ _ n Φ (hR.frz eo hl hW) hk1 σ G1 H q1 w1 D ⟨fun a b c d e f g m2 => x.nx a b c d e f g (fix m2), fun a b d e f g m2 => x.rt a b d e f g (fix m2), fun a b c d e f g m2 w2 b2 => x.rtO a b c d e f g (fix m2) w2 (back_frz hW b2), fun a b c d e f g m2 => x.bk a b c d e f g (fix m2), fun a b c d e f g m2 => x.ct a b c d e f g (fix m2), fun a b d e f g m2 => x.ex a b d e f g (fix m2)⟩
  | .ret e, env => fun δ W n Φ hR hk σ G H hq w D x => by
    exact sE hD e env δ W n _ hR (Dr.ok_bind.mp hk) σ G H hq w _ fun v d n1 G1 H1 m1 w1 hv hk1 => x.rt v d W n1 G1 H1 (.ofMw m1) w1 hv hk1
  | .cond c a b, env => fun δ W n Φ hR hk σ G H hq w D x => by
    refine sT hD c env δ W n _ hR (Dr.ok_bind.mp hk) σ G H hq w _ fun v d n1 G1 H1 m1 w1 hv hk1 => ?_
    cases hv
    cases v with
    | true => exact iteT (sS a env δ W n1 Φ hR hk1 σ G1 H1 (hq.mono m1.gr) w1 D (x.at (.ofMw m1)))
    | false => exact iteF (sS b env δ W n1 Φ hR hk1 σ G1 H1 (hq.mono m1.gr) w1 D (x.at (.ofMw m1)))
  | .loop it g b, env => fun δ W n Φ hR hk σ G H hq w D x => by
    refine sI hD it env δ W n _ hR (Dr.ok_bind.mp hk) σ G H hq w _ fun J its n2 G2 H2 m w2 ⟨A, Y, wk, hA, hY⟩ hk1 => ?_
    have x2 := x.at (.ofMw m)
    refine for_it wk (fun i σ' H3 => ∃ G3 env' δ' W' n', Ms (mS ob).M W W' G2 H2 G3 H3 ∧ Wd (ows q.K (mS ob) W') n' G3 H3 ∧ SlD q.K G3 σ' δ' ∧ Rp ob env' δ' W' ∧ (forL _ (its.drop i) env').ok n' Φ) ⟨G2, env, δ, W, n2, .ofMw (Mv.refl w2.sub), w2, hq.mono m.gr, hR, hk1⟩ (fun i σ' H3 _ ⟨G3, _, _, _, _, m3, _⟩ => hA H3 fun a o e => m3.sub a o (m3.gr a o e)) ?_ ?_
    · rintro i y σ' H3 H4 hlt ⟨G3, env', δ', W', n', m3, w3, q3, r3, k3⟩ hy
      have hd' : its[i]? = some its[i] := List.getElem?_eq_getElem hlt
      obtain ⟨G4, m4, dx⟩ := hY i its[i] G3 H3 y H4 hd' m3.gr w3.sub hy
      have w4 := w3.pure m4
      have m34 : Ms (mS ob).M W W' G2 H2 G4 H4 := m3.trans (.ofMw (m4.weak fun _ f => f.elim))
      rw [List.drop_eq_getElem_cons hlt] at k3
      have k4 := Dr.ok_bind.mp (Dr.ok_bind.mp k3)
      obtain ⟨env2, ep, k5⟩ := Dr.ok_opt k4
      obtain ⟨δ2, r5, _, tg⟩ := sG (K := q.K) g ep r3
      refine tg y σ' G4 H4 (q3.mono m4.gr) dx w4.sub _ fun σ2 q2 _ => ?_
      refine sS b env2 δ2 W' n' _ r5 k5 σ2 G4 H4 q2 w4 _ ⟨fun a b c d e f g m2 w2 q2 r2 k2 => ⟨f, b, c, d, e, m34.trans m2, w2, q2, r2, k2⟩, fun a b d e f g m2 w2 q2 k2 => x2.rt a b d e f g (m34.trans m2) w2 q2 k2, fun a b c d e f g m2 w2 b2 => x2.rtO a b c d e f g (m34.trans m2) w2 (back_at m34 b2), fun a b c d e f g m2 w2 q2 r2 k2 => x2.nx a b c d e f g (m34.trans m2) w2 q2 r2 k2, fun a b c d e f g m2 w2 q2 r2 k2 => ⟨f, b, c, d, e, m34.trans m2, w2, q2, r2, k2⟩, fun a b d e f g m2 w2 k2 => x2.ex a b d e f g (m34.trans m2) w2 k2⟩
    · rintro σ' H3 ⟨G3, env', δ', W', n', m3, w3, q3, r3, k3⟩
      rw [List.drop_length] at k3
      exact x2.nx σ' env' δ' W' n' G3 H3 m3 w3 q3 r3 k3
  | .whil mx c b, env => fun δ W n Φ hR hk σ G H hq w D x => by
    refine ⟨fun m σ' H3 => ∃ G3 env' δ' W' n', Ms (mS ob).M W W' G H G3 H3 ∧ Wd (ows q.K (mS ob) W') n' G3 H3 ∧ SlD q.K G3 σ' δ' ∧ Rp ob env' δ' W' ∧ (whileL (evT c) (evS b) m env').ok n' Φ, ⟨mx, G, env, δ, W, n, .ofMw (Mv.refl w.sub), w, hq, hR, hk⟩, ?_⟩
    rintro m σ' H3 ⟨G3, env', δ', W', n', m3, w3, q3, r3, k3⟩
    cases m with
    | zero => exact k3.elim
    | succ m =>
      refine sT hD c env' δ' W' n' _ r3 (Dr.ok_bind.mp k3) σ' G3 H3 q3 w3 _ fun v d n1 G1 H1 m1 w1 hv hk1 => ?_
      cases hv
      have mm := m3.trans (.ofMw m1)
      cases v with
      | false => exact iteF (x.nx σ' env' δ' W' n1 G1 H1 mm w1 (q3.mono m1.gr) r3 hk1)
      | true =>
        refine iteT ⟨fun σ'' H4 => ∃ G3 env' δ' W' n', Ms (mS ob).M W W' G H G3 H4 ∧ Wd (ows q.K (mS ob) W') n' G3 H4 ∧ SlD q.K G3 σ'' δ' ∧ Rp ob env' δ' W' ∧ (whileL (evT c) (evS b) m env').ok n' Φ, fun σ'' H4 h => ⟨m, Nat.lt_succ_self m, h⟩, ?_⟩
        refine sS b env' δ' W' n1 _ r3 (Dr.ok_bind.mp hk1) σ' G1 H1 (q3.mono m1.gr) w1 _ ⟨fun a b c d e f g m2 w2 q2 r2 k2 => ⟨f, b, c, d, e, mm.trans m2, w2, q2, r2, k2⟩, fun a b d e f g m2 w2 q2 k2 => x.rt a b d e f g (mm.trans m2) w2 q2 k2, fun a b c d e f g m2 w2 b2 => x.rtO a b c d e f g (mm.trans m2) w2 (back_at mm b2), fun a b c d e f g m2 w2 q2 r2 k2 => x.nx a b c d e f g (mm.trans m2) w2 q2 r2 k2, fun a b c d e f g m2 w2 q2 r2 k2 => ⟨f, b, c, d, e, mm.trans m2, w2, q2, r2, k2⟩, fun a b d e f g m2 w2 k2 => x.ex a b d e f g (mm.trans m2) w2 k2⟩
  | .brk, env => fun δ W n Φ hR hk σ G H hq w D x => x.bk σ env δ W n G H (.ofMw (Mv.refl w.sub)) w hq hR hk
  | .cnt, env => fun δ W n Φ hR hk σ G H hq w D x => x.ct σ env δ W n G H (.ofMw (Mv.refl w.sub)) w hq hR hk
  | .drop e, env => fun δ W n Φ hR hk σ G H hq w D x => by
    exact sE hD e env δ W n _ hR (Dr.ok_bind.mp hk) σ G H hq w _ fun v d n1 G1 H1 m1 w1 hv hk1 => x.nx σ env δ W n1 G1 H1 (.ofMw m1) w1 (hq.mono m1.gr) hR hk1
  | .stuck, env => fun δ W n Φ hR hk σ G H hq w D x => hk.elim
  | .raise c f as, env => fun δ W n Φ hR hk σ G H hq w D x => by
    refine sA hD as env δ W n _ hR (Dr.ok_bind.mp hk) σ G H hq w _ fun vs ds n1 G1 H1 m1 w1 hv hk1 => ?_
    cases hv with
    | nil => exact hk1.elim
    | cons h1 t =>
      cases t with
      | cons _ _ => exact hk1.elim
      | nil => exact ⟨_, rfl, fun dd nd => x.ex c _ W n1 G1 H1 (.ofMw m1) w1 hk1 dd _ nd ⟨rfl, .cons h1 .nil⟩⟩
end
end DP

namespace DP
open PySem PySem.Spec PyProof.Rows L2 ZX DL RT
/-! ## sum of a tuple -/
def rSumX (K : PySem.W.Frag) : List V → Hp → VK → Prop := fun vs H Q => ∃ (a : Addr) (ns : List Int), vs = [V.ref a] ∧ (SqL K H a (ns.map V.int) ∨ SqT K H a (ns.map V.int)) ∧ Q (.int ns.sum) H
theorem cr_sumX {X : Cx} (hc : X.calm = true) : CallR X (.builtin "sum") (rSumX X.K) := by
  intro pins s σ H vs us Q I r h
  obtain ⟨a, ns, rfl, hs, q⟩ := h
  rw [Vals.ref1 r]
  rcases hs with hs | hs
  · obtain ⟨its, rv, hl, _⟩ := I.list hs
    exact sum_raw (I.ok.hd hc) hl.isList rv.ints fun h' tk t' hk => ⟨.int _, H, I.kept hk, ⟨_, rfl⟩, q⟩
  · obtain ⟨its, rv, hl, _⟩ := I.tuple hs
    have hi := rv.ints
    obtain ⟨xs, e⟩ := hi.allInts.items
    have hn : numsOf (intItems xs).toList = ns := by rw [← e]; exact hi.numsOf
    rw [nums_intItems] at hn
    have hl2 : s.heap.IsTuple a its.toArray := hl
    rw [e] at hl2
    refine PySem.W.ktm_sumG (I.ok.hd hc) hl2 fun h' tk t' hk => ?_
    rw [preSum_eq, List.take_of_length_le (by simp), hn]
    exact ⟨.int _, H, I.kept hk, ⟨_, rfl⟩, q⟩
theorem ki_sumX {X : Cx} {K : PySem.W.Frag} (h : X.K = K) (hc : X.calm = true) : CallR X (.builtin "sum") (rSumX K) := by
  subst h
  exact cr_sumX hc
/-! ## constants -/
abbrev cI (n : Int) : E := .con ⟨.int n, .int n, fun _ _ => .int n⟩
abbrev cS (x : Str) : E := .con ⟨.str x, .str x, fun _ _ => .str x⟩
abbrev cB (b : Bool) : E := .con ⟨.bl b, .bool b, fun _ _ => .bl b⟩
abbrev cN : E := .con ⟨.non, .none, fun _ _ => .non⟩
/-! ## operations -/
def i2 (g : Int → Int → PyData) : PyData → PyData → Option PyData
  | .int i, .int j => some (g i j)
  | _, _ => none
def i2c (C : Int → Int → Bool) (g : Int → Int → PyData) : PyData → PyData → Option PyData
  | .int i, .int j => if C i j = true then some (g i j) else none
  | _, _ => none
theorem i2_of {g : Int → Int → PyData} {d e z : PyData} (h : i2 g d e = some z) : ∃ i j, d = .int i ∧ e = .int j ∧ z = g i j := by
  unfold i2 at h
  split at h
  · cases h
    exact ⟨_, _, rfl, rfl, rfl⟩
  · cases h
theorem i2c_of {C : Int → Int → Bool} {g : Int → Int → PyData} {d e z : PyData} (h : i2c C g d e = some z) : ∃ i j, d = .int i ∧ e = .int j ∧ C i j = true ∧ z = g i j := by
  unfold i2c at h
  split at h
  · split at h
    · cases h
      exact ⟨_, _, rfl, rfl, by assumption, rfl⟩
    · cases h
  · cases h
def oI (g : Int → Int → V) (gd : Int → Int → PyData) (ok : ∀ K G i j, DD K G (g i j) (gd i j)) : O2 where
  rel := fun _ => rI0 g
  f := i2 gd
  ok := fun K d e z h => by
    obtain ⟨i, j, rfl, rfl, rfl⟩ := i2_of h
    exact rv_I0 fun G => ok K G i j
def oIc (C : Int → Int → Prop) (c : Int → Int → Bool) (g : Int → Int → V) (gd : Int → Int → PyData) (hc : ∀ i j, c i j = true → C i j) (ok : ∀ K G i j, DD K G (g i j) (gd i j)) : O2 where
  rel := fun _ => rI C g
  f := i2c c gd
  ok := fun K d e z h => by
    obtain ⟨i, j, rfl, rfl, h2, rfl⟩ := i2c_of h
    exact rv_I (hc i j h2) fun G => ok K G i j
def oAdd : O2 := oI (fun i j => .int (i + j)) (fun i j => .int (i + j)) fun _ _ _ _ => .int _
def oSub : O2 := oI (fun i j => .int (i - j)) (fun i j => .int (i - j)) fun _ _ _ _ => .int _
def oLt : O2 := oI (fun i j => .bl (decide (i < j))) (fun i j => .bool (decide (i < j))) fun _ _ _ _ => .bl _
def oLe : O2 := oI (fun i j => .bl (decide (i ≤ j))) (fun i j => .bool (decide (i ≤ j))) fun _ _ _ _ => .bl _
def oGt : O2 := oI (fun i j => .bl (decide (j < i))) (fun i j => .bool (decide (j < i))) fun _ _ _ _ => .bl _
def oGe : O2 := oI (fun i j => .bl (decide (j ≤ i))) (fun i j => .bool (decide (j ≤ i))) fun _ _ _ _ => .bl _
def oMul : O2 := oIc CMul (fun i j => (decide (-(2 ^ 64) < i) && decide (i < 2 ^ 64)) || (decide (-(2 ^ 64) < j) && decide (j < 2 ^ 64))) (fun i j => .int (i * j)) (fun i j => .int (i * j)) (fun i j h => by
  unfold CMul
  simpa using h) fun _ _ _ _ => .int _
def oMod : O2 := oIc (fun _ j => j ≠ 0) (fun _ j => decide (j ≠ 0)) (fun i j => .int (i.fmod j)) (fun i j => .int (i.fmod j)) (fun i j h => by simpa using h) fun _ _ _ _ => .int _
def oDiv : O2 := oIc CDiv (fun _ j => decide (0 < j) && decide (j < 1073741824)) (fun i j => .int (i / j)) (fun i j => .int (i / j)) (fun i j h => by
  unfold CDiv
  simpa using h) fun _ _ _ _ => .int _
def oPow : O2 := oIc CPow (fun i j => decide (0 ≤ j) && decide (j ≤ 1000000) && decide (i.natAbs < 2 ^ 64)) (fun i j => .int (i ^ j.toNat)) (fun i j => .int (i ^ j.toNat)) (fun i j h => by
  unfold CPow
  simpa [and_assoc] using h) fun _ _ _ _ => .int _
/-- += and -= of ints -/
def oAddA : O2 where
  rel := fun _ => ipI fun i j => i + j
  f := i2 fun i j => .int (i + j)
  ok := fun K d e z h => by
    obtain ⟨i, j, rfl, rfl, rfl⟩ := i2_of h
    intro x y G H hx hy hs Q hQ
    cases hx
    cases hy
    exact ⟨i, j, rfl, rfl, hQ _ (.i (i + j)) G H (Mv.refl hs) (DD.int _) rfl⟩
def oSubA : O2 where
  rel := fun _ => ipI fun i j => i - j
  f := i2 fun i j => .int (i - j)
  ok := fun K d e z h => by
    obtain ⟨i, j, rfl, rfl, rfl⟩ := i2_of h
    intro x y G H hx hy hs Q hQ
    cases hx
    cases hy
    exact ⟨i, j, rfl, rfl, hQ _ (.i (i - j)) G H (Mv.refl hs) (DD.int _) rfl⟩
/-- == of flat things of one kind -/
def eqF : PyData → PyData → Option Bool
  | .int i, .int j => some (decide (i = j))
  | .bool i, .bool j => some (i == j)
  | .str i, .str j => some (decide (i = j))
  | _, _ => none
theorem rv_eqS {K : PySem.W.Frag} {i j : Str} : RV K rEq (.dat (.str i)) (.dat (.str j)) (fun z => z = .b (decide (i = j))) := fun x y G H hx hy hs Q hQ => by
  cases hx
  cases hy
  refine ⟨rfl, hQ _ (.b (decide (i = j))) G H (Mv.refl hs) ?_ rfl⟩
  rw [show decide (V.str i = V.str j) = decide (i = j) from by
    by_cases h : i = j
    · subst h
      simp
    · rw [decide_eq_false h, decide_eq_false fun z => h (V.str.inj z)]]
  exact DD.bl _
theorem rv_neS {K : PySem.W.Frag} {i j : Str} : RV K rNe (.dat (.str i)) (.dat (.str j)) (fun z => z = .b (!decide (i = j))) := fun x y G H hx hy hs Q hQ => by
  cases hx
  cases hy
  refine ⟨rfl, hQ _ (.b (!decide (i = j))) G H (Mv.refl hs) ?_ rfl⟩
  rw [show decide (V.str i = V.str j) = decide (i = j) from by
    by_cases h : i = j
    · subst h
      simp
    · rw [decide_eq_false h, decide_eq_false fun z => h (V.str.inj z)]]
  exact DD.bl _
def oEq : O2 where
  rel := fun _ => rEq
  f := fun d e => (eqF d e).map .bool
  ok := fun K d e z h => by
    obtain ⟨c, hc, rfl⟩ := Option.map_eq_some_iff.mp h
    unfold eqF at hc
    split at hc
    · cases hc
      exact rv_eqI
    · cases hc
      exact rv_eqB
    · cases hc
      exact rv_eqS
    · cases hc
def oNe : O2 where
  rel := fun _ => rNe
  f := fun d e => (eqF d e).map fun c => .bool (!c)
  ok := fun K d e z h => by
    obtain ⟨c, hc, rfl⟩ := Option.map_eq_some_iff.mp h
    unfold eqF at hc
    split at hc
    · cases hc
      exact rv_neI
    · cases hc
      exact rv_neB
    · cases hc
      exact rv_neS
    · cases hc
def oEqD : O2 where
  rel := rEqD
  f := fun d e => if SeqAt.shaped d = true ∧ SeqAt.shaped e = true then some (.bool (PyData.eqv d e)) else none
  ok := fun K d e z h => by
    split at h
    · rename_i hc
      cases h
      exact rv_eqD hc.1 hc.2
    · cases h
def oNeD : O2 where
  rel := rNeD
  f := fun d e => if SeqAt.shaped d = true ∧ SeqAt.shaped e = true then some (.bool (!PyData.eqv d e)) else none
  ok := fun K d e z h => by
    split at h
    · rename_i hc
      cases h
      exact rv_neD hc.1 hc.2
    · cases h
def isNon : PyData → Bool
  | .none => true
  | _ => false
theorem rv_notN {K : PySem.W.Frag} {dd : PyData} : RV K (fun x y H Q => y = .non ∧ Q (.bl (!decide (x = .non))) H) (.dat dd) (.dat .none) (fun z => z = .b (!isNon dd)) := fun x y G H hx hy hs Q hQ => by
  cases hy
  refine ⟨rfl, hQ _ (.b _) G H (Mv.refl hs) ?_ rfl⟩
  cases hx <;> exact DD.bl _
def oIsN : O2 where
  rel := fun _ x y H Q => y = .non ∧ Q (.bl (decide (x = .non))) H
  f := fun d e => match e with
    | .none => some (.bool (isNon d))
    | _ => none
  ok := fun K d e z h => by
    split at h
    · cases h
      refine (rv_isN (s := .unk)).mono fun s e => ?_
      rw [e]
      cases d <;> rfl
    · cases h
def oNotN : O2 where
  rel := fun _ x y H Q => y = .non ∧ Q (.bl (!decide (x = .non))) H
  f := fun d e => match e with
    | .none => some (.bool (!isNon d))
    | _ => none
  ok := fun K d e z h => by
    split at h
    · cases h
      exact rv_notN
    · cases h
/-- in, of texts -/
def strsOf : List PyData → Option (List Str)
  | [] => some []
  | .str x :: r => (strsOf r).map (x :: ·)
  | _ :: _ => none
theorem strs_v {K : PySem.W.Frag} {G : Hp} : ∀ {ds : List PyData} {ss : List Str} {vs : List V}, strsOf ds = some ss → DDs K G vs ds → vs = ss.map V.str
  | [], _, _, h, .nil => by
    cases h
    rfl
  | .str x :: r, _, _, h, .cons a t => by
    obtain ⟨l, hl, rfl⟩ := Option.map_eq_some_iff.mp (show (strsOf r).map (x :: ·) = _ from h)
    cases a
    rw [strs_v hl t]
    rfl
def inS (x : PyData) (y : PyData) : Option PyData :=
  match x, y with
  | .str z, .tuple ds => (strsOf ds).map fun ss => .bool (ss.contains z)
  | .str z, .list ds => (strsOf ds).map fun ss => .bool (ss.contains z)
  | _, _ => none
theorem in_strs (z : Str) : ∀ ss : List Str, inV (.str z) (ss.map V.str) = ss.contains z
  | [] => rfl
  | x :: ss => by
    show (eqV (.str x) (.str z) || inV (.str z) (ss.map V.str)) = ((z == x) || ss.contains z)
    rw [in_strs z ss]
    congr 1
    show (x == z) = (z == x)
    by_cases e : x = z
    · subst e
      rfl
    · rw [beq_eq_false_iff_ne.mpr e, beq_eq_false_iff_ne.mpr (Ne.symm e)]
theorem flat_strs : ∀ ss : List Str, (ss.map V.str).all flatV = true
  | [] => rfl
  | x :: ss => by
    show (true && (ss.map V.str).all flatV) = true
    rw [flat_strs ss]
    rfl
def oInS : O2 where
  rel := fun K => rIn K false
  f := inS
  ok := fun K d e z h => by
    unfold inS at h
    split at h
    · rename_i x ds
      obtain ⟨ss, hs, rfl⟩ := Option.map_eq_some_iff.mp h
      intro u v G H hx hy hs2 Q hQ
      cases hx
      cases hy with
      | @tup a xs _ hh t =>
        have e := strs_v hs t
        subst e
        refine ⟨a, _, rfl, .inr (.inl (.inl (hs2 _ _ hh))), rfl, flat_strs ss, hQ _ (.b (ss.contains x)) G H (Mv.refl hs2) ?_ rfl⟩
        show DD K G (.bl (inV (.str x) (ss.map V.str))) _
        rw [in_strs]
        exact DD.bl _
    · rename_i x ds
      obtain ⟨ss, hs, rfl⟩ := Option.map_eq_some_iff.mp h
      intro u v G H hx hy hs2 Q hQ
      cases hx
      cases hy with
      | @lst a xs _ hh t =>
        have e := strs_v hs t
        subst e
        refine ⟨a, _, rfl, .inl (.inl (.inl (hs2 _ _ hh))), rfl, flat_strs ss, hQ _ (.b (ss.contains x)) G H (Mv.refl hs2) ?_ rfl⟩
        show DD K G (.bl (inV (.str x) (ss.map V.str))) _
        rw [in_strs]
        exact DD.bl _
    · cases h
def ixLf : PyData → PyData → Option PyData
  | .list ds, .int i => atI ds i
  | _, _ => none
def ixTf : PyData → PyData → Option PyData
  | .tuple ds, .int i => atI ds i
  | _, _ => none
def oIxL : O2 where
  rel := rIxL
  f := ixLf
  ok := fun K d e z h => by
    unfold ixLf at h
    split at h
    · exact rv_ixL h
    · cases h
def oIxT : O2 where
  rel := rIxT
  f := ixTf
  ok := fun K d e z h => by
    unfold ixTf at h
    split at h
    · exact rv_ixT h
    · cases h
def ixSf : PyData → PyData → Option PyData
  | .str z, .int i => if z.length ≤ 1000000 then (atI z.cps.toList i).map fun c => .str ⟨#[c]⟩ else none
  | _, _ => none
def oIxS : O2 where
  rel := fun _ => rIxS
  f := ixSf
  ok := fun K d e z h => by
    unfold ixSf at h
    split at h
    · split at h
      · obtain ⟨c, hc, rfl⟩ := Option.map_eq_some_iff.mp h
        exact rv_ixS (by assumption) hc
      · cases h
    · cases h
def catLf : PyData → PyData → Option PyData
  | .list ds, .list es => if ds.length + es.length ≤ 100000 then some (.list (ds ++ es)) else none
  | _, _ => none
def catTf : PyData → PyData → Option PyData
  | .tuple ds, .tuple es => if ds.length + es.length ≤ 100000 then some (.tuple (ds ++ es)) else none
  | _, _ => none
def oCatL : O2 where
  rel := fun _ => rCat
  f := catLf
  ok := fun K d e z h => by
    unfold catLf at h
    split at h
    · split at h
      · cases h
        exact rv_cat (by assumption)
      · cases h
    · cases h
def oCatT : O2 where
  rel := rCatA
  f := catTf
  ok := fun K d e z h => by
    unfold catTf at h
    split at h
    · split at h
      · cases h
        exact rv_catA (by assumption)
      · cases h
    · cases h
def repLf : PyData → PyData → Option PyData
  | .list ds, .int n => if (0 ≤ n ∧ n ≤ 1000) ∧ ds.length ≤ 1000 then some (.list (List.replicate n.toNat ds).flatten) else none
  | _, _ => none
def repTf : PyData → PyData → Option PyData
  | .tuple ds, .int n => if ((0 ≤ n ∧ n ≤ 1000) ∧ ds.length ≤ 1000) ∧ 0 < ds.length then some (.tuple (List.replicate n.toNat ds).flatten) else none
  | _, _ => none
theorem rep_dd {K : PySem.W.Frag} {G : Hp} {xs : List V} {ds : List PyData} (t : DDs K G xs ds) : ∀ m : Nat, DDs K G (List.replicate m xs).flatten (List.replicate m ds).flatten := fun m => by
  induction m with
  | zero => exact .nil
  | succ m ih =>
    rw [List.replicate_succ, List.replicate_succ, List.flatten_cons, List.flatten_cons]
    exact t.append ih
def oRepL : O2 where
  rel := fun _ => rRep
  f := repLf
  ok := fun K d e z h => by
    unfold repLf at h
    split at h
    · split at h
      · rename_i hc
        cases h
        intro x y G H hx hy hs Q hQ
        cases hy
        cases hx with
        | @lst a xs _ hh t =>
          refine ⟨a, _, xs, rfl, rfl, hs _ _ hh, by omega, by omega, ?_, fun p np => hQ _ (.dat (.list _)) _ _ (Mv.new hs np) (DD.lst upd_same ((rep_dd t _).mono (Mv.new (M := fun _ => False) hs np).gr)) rfl⟩
          rw [t.len]
          exact Nat.le_trans (Nat.mul_le_mul hc.2 (show _ ≤ 1000 by omega)) (by decide)
      · cases h
    · cases h
def oRepT : O2 where
  rel := rRepZ
  f := repTf
  ok := fun K d e z h => by
    unfold repTf at h
    split at h
    · split at h
      · rename_i ds n hc
        cases h
        intro x y G H hx hy hs Q hQ
        cases hy
        cases hx with
        | @tup a xs _ hh t =>
          have e0 := t.len
          refine ⟨a, _, xs, rfl, rfl, .inl (.inl (hs _ _ hh)), fun z => ?_, hc.1.1.1, hc.1.1.2, by omega, fun e => ?_, fun _ p np => hQ _ (.dat (.tuple _)) _ _ (Mv.new hs np) (DD.tup upd_same ((rep_dd t _).mono (Mv.new (M := fun _ => False) hs np).gr)) rfl⟩
          · subst z
            have : ds.length = 0 := e0.symm
            omega
          · subst e
            refine hQ _ (.dat (.tuple ds)) G H (Mv.refl hs) (DD.tup hh t) ?_
            show _ = SD.dat (.tuple (ds ++ []))
            rw [List.append_nil]
      · cases h
    · cases h
/-! one value -/
def uNeg : O1 where
  rel := fun _ => rU fun i => .int (-i)
  f := fun d => match d with
    | .int i => some (.int (-i))
    | _ => none
  ok := fun K d z h x G H hx hs Q hQ => by
    split at h
    · cases h
      cases hx
      exact ⟨_, rfl, hQ _ G H (Mv.refl hs) (DD.int _)⟩
    · cases h
def uNot : O1 where
  rel := fun _ x H1 Q => ∃ c, x = .bl c ∧ Q (.bl (!c)) H1
  f := fun d => match d with
    | .bool i => some (.bool (!i))
    | _ => none
  ok := fun K d z h x G H hx hs Q hQ => by
    split at h
    · cases h
      cases hx
      exact ⟨_, rfl, hQ _ G H (Mv.refl hs) (DD.bl _)⟩
    · cases h
def uRevL : O1 where
  rel := fun K x H1 Q => ∃ a xs, x = .ref a ∧ SqL K H1 a xs ∧ ∀ p, H1 p = none → Q (.ref p) (upd H1 p (.lst xs.reverse))
  f := fun d => match d with
    | .list ds => some (.list ds.reverse)
    | _ => none
  ok := fun K d z h x G H hx hs Q hQ => by
    split at h
    · cases h
      cases hx with
      | @lst a xs _ hh t => exact ⟨a, xs, rfl, .inl (.inl (hs _ _ hh)), fun p np => hQ _ _ _ (Mv.new hs np) (DD.lst upd_same (t.reverse.mono (Mv.new (M := fun _ => False) hs np).gr))⟩
    · cases h
/-- list(range(n)) -/
def uListRg : O1 where
  rel := fun _ x H1 Q => ∃ n, x = .int n ∧ RgOk 0 n ∧ ∀ q, H1 q = none → Q (.ref q) (upd H1 q (.lst (rgV 0 n)))
  f := fun d => match d with
    | .int n => if 0 ≤ n ∧ n ≤ 16777216 then some (.list (rangeD 0 n.toNat)) else none
    | _ => none
  ok := fun K d z h x G H hx hs Q hQ => by
    split at h
    · split at h
      · rename_i n hc
        cases h
        cases hx
        refine ⟨n, rfl, RgOk.of_le (by omega) hc.2 (by omega) hc.1, fun p np => hQ _ _ _ (Mv.new hs np) (DD.lst upd_same ?_)⟩
        show DDs K _ (rgV 0 n) _
        unfold rgV rangeD
        rw [Int.sub_zero]
        exact dds_rg _ _
      · cases h
    · cases h
/-! built-ins -/
def ob1 (g : PyData → Option PyData) : List PyData → Option PyData
  | [d] => g d
  | _ => none
def ob2 (g : Int → Int → PyData) : List PyData → Option PyData
  | [.int i, .int j] => some (g i j)
  | _ => none
def lenF : PyData → Option PyData
  | .list ds => some (.int ds.length)
  | .tuple ds => some (.int ds.length)
  | _ => none
def bLen : OB where
  rel := rLen
  f := ob1 lenF
  ok := fun K ds z h => by
    unfold ob1 at h
    split at h
    · unfold lenF at h
      split at h
      · cases h
        exact rc_lenL
      · cases h
        exact rc_lenT
      · cases h
    · cases h
def listF : PyData → Option PyData
  | .list ds => some (.list ds)
  | .tuple ds => some (.list ds)
  | _ => none
def bList : OB where
  rel := rList
  f := ob1 listF
  ok := fun K ds z h => by
    unfold ob1 at h
    split at h
    · unfold listF at h
      split at h
      · cases h
        exact rc_listL
      · cases h
        exact rc_listT
      · cases h
    · cases h
def tupF : PyData → Option PyData
  | .list ds => some (.tuple ds)
  | .tuple ds => some (.tuple ds)
  | _ => none
def bTup : OB where
  rel := fun K xs H Q => ∃ p ys, xs = [.ref p] ∧ ((SqL K H p ys ∧ ∀ l, H l = none → Q (.ref l) (upd H l (.tup ys))) ∨ (SqT K H p ys ∧ Q (.ref p) H))
  f := ob1 tupF
  ok := fun K ds z h => by
    unfold ob1 at h
    split at h
    · unfold tupF at h
      split at h
      · cases h
        exact rc_tupL
      · cases h
        exact rc_tupT
      · cases h
    · cases h
def absF : PyData → Option PyData
  | .int i => some (.int (if i < 0 then -i else i))
  | _ => none
def bAbs : OB where
  rel := fun _ xs H Q => ∃ i, xs = [.int i] ∧ Q (.int (if i < 0 then -i else i)) H
  f := ob1 absF
  ok := fun K ds z h => by
    unfold ob1 at h
    split at h
    · unfold absF at h
      split at h
      · cases h
        exact rc_abs
      · cases h
    · cases h
theorem ob2_of {g : Int → Int → PyData} {ds : List PyData} {z : PyData} (h : ob2 g ds = some z) : ∃ i j, ds = [.int i, .int j] ∧ z = g i j := by
  unfold ob2 at h
  split at h
  · cases h
    exact ⟨_, _, rfl, rfl⟩
  · cases h
def bMin : OB where
  rel := fun _ xs H Q => ∃ i j, xs = [.int i, .int j] ∧ Q (.int (if j < i then j else i)) H
  f := ob2 fun i j => .int (if j < i then j else i)
  ok := fun K ds z h => by
    obtain ⟨i, j, rfl, rfl⟩ := ob2_of h
    exact rc_min
def bMax : OB where
  rel := fun _ xs H Q => ∃ i j, xs = [.int i, .int j] ∧ Q (.int (if j > i then j else i)) H
  f := ob2 fun i j => .int (if j > i then j else i)
  ok := fun K ds z h => by
    obtain ⟨i, j, rfl, rfl⟩ := ob2_of h
    exact rc_max
def intsOf : List PyData → Option (List Int)
  | [] => some []
  | .int i :: r => (intsOf r).map (i :: ·)
  | _ :: _ => none
theorem intsOf_map : ∀ ns : List Int, intsOf (ns.map .int) = some ns
  | [] => rfl
  | n :: ns => by
    show (intsOf (ns.map .int)).map (n :: ·) = _
    rw [intsOf_map ns]
    rfl
theorem ints_v {K : PySem.W.Frag} {G : Hp} : ∀ {ds : List PyData} {ss : List Int} {vs : List V}, intsOf ds = some ss → DDs K G vs ds → vs = ss.map V.int
  | [], _, _, h, .nil => by
    cases h
    rfl
  | .int x :: r, _, _, h, .cons a t => by
    obtain ⟨l, hl, rfl⟩ := Option.map_eq_some_iff.mp (show (intsOf r).map (x :: ·) = _ from h)
    cases a
    rw [ints_v hl t]
    rfl
def sumF : PyData → Option PyData
  | .list ds => (intsOf ds).map fun ns => .int ns.sum
  | .tuple ds => (intsOf ds).map fun ns => .int ns.sum
  | _ => none
def bSum : OB where
  rel := rSumX
  f := ob1 sumF
  ok := fun K ds z h vs G H hv hs Q hQ => by
    unfold ob1 at h
    split at h
    · unfold sumF at h
      obtain ⟨v, rfl, hx⟩ := vds1 hv
      split at h
      · obtain ⟨ns, hn, rfl⟩ := Option.map_eq_some_iff.mp h
        cases hx with
        | @lst a xs _ hl t =>
          have e := ints_v hn t
          subst e
          exact ⟨a, ns, rfl, .inl (.inl (.inl (hs _ _ hl))), hQ _ (.i _) G H (Mv.refl hs) (DD.int _) rfl⟩
      · obtain ⟨ns, hn, rfl⟩ := Option.map_eq_some_iff.mp h
        cases hx with
        | @tup a xs _ hl t =>
          have e := ints_v hn t
          subst e
          exact ⟨a, ns, rfl, .inr (.inl (.inl (hs _ _ hl))), hQ _ (.i _) G H (Mv.refl hs) (DD.int _) rfl⟩
      · cases h
    · cases h
def boolsOf : List PyData → Option (List Bool)
  | [] => some []
  | .bool i :: r => (boolsOf r).map (i :: ·)
  | _ :: _ => none
theorem boolsOf_map : ∀ ns : List Bool, boolsOf (ns.map .bool) = some ns
  | [] => rfl
  | n :: ns => by
    show (boolsOf (ns.map .bool)).map (n :: ·) = _
    rw [boolsOf_map ns]
    rfl
theorem bools_v {K : PySem.W.Frag} {G : Hp} : ∀ {ds : List PyData} {ss : List Bool} {vs : List V}, boolsOf ds = some ss → DDs K G vs ds → vs = ss.map V.bl
  | [], _, _, h, .nil => by
    cases h
    rfl
  | .bool x :: r, _, _, h, .cons a t => by
    obtain ⟨l, hl, rfl⟩ := Option.map_eq_some_iff.mp (show (boolsOf r).map (x :: ·) = _ from h)
    cases a
    rw [bools_v hl t]
    rfl
def allF : PyData → Option PyData
  | .list ds => (boolsOf ds).map fun ns => .bool (ns.all id)
  | _ => none
def bAll : OB where
  rel := rAll
  f := ob1 allF
  ok := fun K ds z h vs G H hv hs Q hQ => by
    unfold ob1 at h
    split at h
    · unfold allF at h
      obtain ⟨v, rfl, hx⟩ := vds1 hv
      split at h
      · obtain ⟨ns, hn, rfl⟩ := Option.map_eq_some_iff.mp h
        cases hx with
        | @lst a xs _ hl t =>
          have e := bools_v hn t
          subst e
          exact ⟨a, ns, rfl, .inl (.inl (hs _ _ hl)), hQ _ (.b _) G H (Mv.refl hs) (DD.bl _) rfl⟩
      · cases h
    · cases h
/-! tests -/
def tB' : OT where
  rel := fun _ x H Q => ∃ c, x = .bl c ∧ Q c H
  f := fun d => match d with
    | .bool b => some b
    | _ => none
  ok := fun K d z h x G H hx hs Q hQ => by
    split at h
    · cases h
      cases hx
      exact ⟨_, rfl, hQ⟩
    · cases h
/-- the truth of a list -/
def tTru : OT where
  rel := fun K x H Q => ∃ k, TruV K x H k ∧ Q k H
  f := fun d => match d with
    | .bool b => some b
    | .list ds => some (!ds.isEmpty)
    | .tuple ds => some (!ds.isEmpty)
    | .int i => some (i != 0)
    | .none => some false
    | _ => none
  ok := fun K d z h x G H hx hs Q hQ => by
    split at h
    · cases h
      cases hx
      exact ⟨_, rfl, hQ⟩
    · cases h
      cases hx with
      | @lst a xs _ hl t =>
        refine ⟨_, .inl ⟨xs, .inl (.inl (hs _ _ hl)), rfl⟩, ?_⟩
        cases t <;> exact hQ
    · cases h
      cases hx with
      | @tup a xs _ hl t =>
        refine ⟨_, .inr (.inl ⟨xs, .inl (.inl (hs _ _ hl)), rfl⟩), ?_⟩
        cases t <;> exact hQ
    · cases h
      cases hx
      exact ⟨_, rfl, hQ⟩
    · cases h
      cases hx
      exact ⟨_, rfl, hQ⟩
    · cases h
/-! what is walked -/
theorem wk_list {K : PySem.W.Frag} {G : Hp} {a : Addr} {xs : List V} {ds : List PyData} (hx : G a = some (.lst xs)) (ht : DDs K G xs ds) : Wk K G (Itl K a) ds :=
  ⟨fun H => SqL K H a xs, _, by rw [← ht.len]; exact walk_list (xs := xs), fun H3 g => .inl (.inl (g _ _ hx)), fun i d G3 H3 x H4 hd g1 g2 y => by
    obtain ⟨rfl, hy⟩ := y
    obtain ⟨d', h1, h2⟩ := ht.get hy
    cases h1.symm.trans hd
    exact ⟨G3, Mv.refl g2, h2.mono g1⟩⟩
theorem wk_tup {K : PySem.W.Frag} {G : Hp} {a : Addr} {xs : List V} {ds : List PyData} (hx : G a = some (.tup xs)) (ht : DDs K G xs ds) : Wk K G (Itt K a) ds :=
  ⟨fun H => SqT K H a xs, _, by rw [← ht.len]; exact walk_tup (xs := xs), fun H3 g => .inl (.inl (g _ _ hx)), fun i d G3 H3 x H4 hd g1 g2 y => by
    obtain ⟨rfl, hy⟩ := y
    obtain ⟨d', h1, h2⟩ := ht.get hy
    cases h1.symm.trans hd
    exact ⟨G3, Mv.refl g2, h2.mono g1⟩⟩
def seqF : PyData → Option (List PyData)
  | .list ds => some ds
  | .tuple ds => some ds
  | _ => none
theorem seqF_of {d : PyData} {ds : List PyData} (h : seqF d = some ds) : IsSeq d ds := by
  unfold seqF at h
  split at h
  · cases h
    exact .inl rfl
  · cases h
    exact .inr rfl
  · cases h
def wSeq : OI where
  rel := fun K x H1 R => ∃ a xs, x = .ref a ∧ ((SqL K H1 a xs ∧ R (Itl K a) H1) ∨ (SqT K H1 a xs ∧ R (Itt K a) H1))
  f := seqF
  ok := fun K d its h x G H hx hs R hR => by
    rcases seqF_of h with rfl | rfl
    · cases hx with
      | @lst a xs _ hh t => exact ⟨a, xs, rfl, .inl ⟨.inl (.inl (hs _ _ hh)), hR _ (wk_list hh t)⟩⟩
    · cases hx with
      | @tup a xs _ hh t => exact ⟨a, xs, rfl, .inr ⟨.inl (.inl (hs _ _ hh)), hR _ (wk_tup hh t)⟩⟩
def wRev : OI where
  rel := fun K v H1 R => ∃ (a : Addr) (xs : List V), v = .ref a ∧ ((SqL K H1 a xs ∧ R (Itv K a xs.length) H1) ∨ (SqT K H1 a xs ∧ R (ItvT K a xs.length) H1))
  f := fun d => (seqF d).map List.reverse
  ok := fun K d its h x G H hx hs R hR => by
    obtain ⟨ds, hd, rfl⟩ := Option.map_eq_some_iff.mp h
    have fin : ∀ (xs : List V) (x : V) (i : Nat) (d' : PyData) (G3 : Hp), DDs K G xs ds → (∀ a o, G a = some o → G3 a = some o) → ds.reverse[i]? = some d' → xs[xs.length - 1 - i]? = some x → DD K G3 x d' := fun xs x i d' G3 t hk hd hy => by
      have hi : i < ds.length := by
        have := (List.getElem?_eq_some_iff.mp hd).1
        rwa [List.length_reverse] at this
      rw [List.getElem?_reverse hi, ← t.len] at hd
      obtain ⟨e, h1, h2⟩ := t.get hy
      cases h1.symm.trans hd
      exact h2.mono hk
    rcases seqF_of hd with rfl | rfl
    · cases hx with
      | @lst a xs _ hh t =>
        refine ⟨a, xs, rfl, .inl ⟨.inl (.inl (hs _ _ hh)), hR _ ⟨fun H => SqL K H a xs, _, by rw [List.length_reverse, ← t.len]; exact walk_rev, fun H3 g => .inl (.inl (g _ _ hh)), fun i d' G3 H3 x H4 hd g1 g2 y => ?_⟩⟩⟩
        obtain ⟨rfl, hy⟩ := y
        exact ⟨G3, Mv.refl g2, fin xs x i d' G3 t g1 hd hy⟩
    · cases hx with
      | @tup a xs _ hh t =>
        refine ⟨a, xs, rfl, .inr ⟨.inl (.inl (hs _ _ hh)), hR _ ⟨fun H => SqT K H a xs, _, by rw [List.length_reverse, ← t.len]; exact walk_revT, fun H3 g => .inl (.inl (g _ _ hh)), fun i d' G3 H3 x H4 hd g1 g2 y => ?_⟩⟩⟩
        obtain ⟨rfl, hy⟩ := y
        exact ⟨G3, Mv.refl g2, fin xs x i d' G3 t g1 hd hy⟩
def rngF : List PyData → Option (List PyData)
  | [.int n] => if -(2 ^ 62) ≤ n ∧ n < 2 ^ 62 then some (rangeD 0 n.toNat) else none
  | _ => none
def wRng : OIs where
  rel := fun _ vs H1 R => ∃ j : Int, vs = [.int j] ∧ -(2 ^ 62) ≤ j ∧ j < 2 ^ 62 ∧ R (Itr 0 j.toNat) H1
  f := rngF
  ok := fun K ds its h xs G H hx hs R hR => by
    unfold rngF at h
    split at h
    · split at h
      · rename_i n hc
        cases h
        cases hx with
        | cons a t =>
          cases t
          cases a
          refine ⟨n, rfl, hc.1, hc.2, hR _ ⟨_, _, by rw [rangeD_len]; exact walk_range, fun _ _ => trivial, fun i d G3 H3 x H4 hd g1 g2 y => ?_⟩⟩
          obtain ⟨rfl, rfl⟩ := y
          obtain ⟨_, rfl⟩ := rangeD_get hd
          exact ⟨G3, Mv.refl g2, .int _⟩
      · cases h
    · cases h
def rng2F : List PyData → Option (List PyData)
  | [.int l, .int n] => if -(2 ^ 62) ≤ l ∧ l < 2 ^ 62 ∧ -(2 ^ 62) ≤ n ∧ n < 2 ^ 62 then some (rangeD l (n - l).toNat) else none
  | _ => none
def wRng2 : OIs where
  rel := fun _ vs H1 R => ∃ i j : Int, vs = [.int i, .int j] ∧ (-(2 ^ 62) ≤ i ∧ i < 2 ^ 62 ∧ -(2 ^ 62) ≤ j ∧ j < 2 ^ 62) ∧ R (Itr i (j - i).toNat) H1
  f := rng2F
  ok := fun K ds its h xs G H hx hs R hR => by
    unfold rng2F at h
    split at h
    · split at h
      · rename_i l n hc
        cases h
        cases hx with
        | cons a t =>
          cases t with
          | cons b t =>
            cases t
            cases a
            cases b
            refine ⟨l, n, rfl, hc, hR _ ⟨_, _, by rw [rangeD_len]; exact walk_range, fun _ _ => trivial, fun i d G3 H3 x H4 hd g1 g2 y => ?_⟩⟩
            obtain ⟨rfl, rfl⟩ := y
            obtain ⟨_, rfl⟩ := rangeD_get hd
            exact ⟨G3, Mv.refl g2, .int _⟩
      · cases h
    · cases h
def zipF : List PyData → Option (List PyData)
  | [d, e] => (seqF d).bind fun ds => (seqF e).map fun es => zipD ds es
  | _ => none
def wZip : OIs where
  rel := fun K vs H1 R => ∃ c e a b xs ys, vs = [.ref a, .ref b] ∧ SqX K c H1 a xs ∧ SqX K e H1 b ys ∧ R (ItX K c e a b) H1
  f := zipF
  ok := fun K ds its h xs G H hx hs R hR => by
    unfold zipF at h
    split at h
    · obtain ⟨ds, h1, h2⟩ := Option.bind_eq_some_iff.mp h
      obtain ⟨es, h3, rfl⟩ := Option.map_eq_some_iff.mp h2
      cases hx with
      | cons hv t =>
        cases t with
        | cons hu t =>
          cases t
          obtain ⟨c, a, xs, rfl, t1, q1⟩ := sqX_of (H := H) hv (seqF_of h1)
          obtain ⟨e, b, ys, rfl, t2, q2⟩ := sqX_of (H := H) hu (seqF_of h3)
          refine ⟨c, e, a, b, xs, ys, rfl, q1 H hs, q2 H hs, hR _ ⟨fun H => SqX K c H a xs ∧ SqX K e H b ys, _, walkX (by rw [t1.len, t2.len]; simp [zipD]), fun H3 g => ⟨q1 H3 g, q2 H3 g⟩, fun i d' G3 H3 x H4 hd g1 g2 y => ?_⟩⟩
          obtain ⟨T, x1, x2, rfl, nT, rfl, e1, e2⟩ := y
          obtain ⟨f1, c1, k1⟩ := t1.get e1
          obtain ⟨f2, c2, k2⟩ := t2.get e2
          have ed : d' = .tuple [f1, f2] := by
            unfold zipD at hd
            rw [List.getElem?_zipWith, c1, c2] at hd
            exact (Option.some.inj hd).symm
          subst ed
          have mm : Mv (fun _ => False) G3 H3 (upd G3 T (.tup [x1, x2])) (upd H3 T (.tup [x1, x2])) := Mv.new g2 nT
          exact ⟨_, mm, DD.tup upd_same (.cons (k1.mono fun a o z => mm.gr _ _ (g1 _ _ z)) (.cons (k2.mono fun a o z => mm.gr _ _ (g1 _ _ z)) .nil))⟩
    · cases h
/-! slices -/
def cutTf : PyData → Option Int → Option Int → Option PyData
  | .tuple ds, l, h => some (.tuple (cutD ds l h))
  | _, _, _ => none
theorem cutTf_of {d : PyData} {l h : Option Int} {z : PyData} (e : cutTf d l h = some z) : ∃ ds, d = .tuple ds ∧ z = .tuple (cutD ds l h) := by
  unfold cutTf at e
  split at e
  · cases e
    exact ⟨_, rfl, rfl⟩
  · cases e
def sTup : OS where
  rel := rSlA
  f := cutTf
  ok := fun K d l h z e x G H hx hs Q hQ => by
    obtain ⟨ds, rfl, rfl⟩ := cutTf_of e
    cases hx with
    | @tup a xs _ hh t =>
      have hl := t.len
      have cut : DDs K G (cutV xs l h) (cutD ds l h) := by
        unfold cutV cutD
        rw [hl]
        exact (t.drop _).take _
      refine ⟨a, xs, rfl, .inl (.inl (hs _ _ hh)), fun w => ?_, fun _ p np => hQ _ _ _ (Mv.new hs np) (DD.tup upd_same (cut.mono (Mv.new (M := fun _ => False) hs np).gr))⟩
      refine hQ _ G H (Mv.refl hs) ?_
      have e : cutD ds l h = ds := by
        unfold cutD
        rw [hl] at w
        rw [w.1, w.2, List.drop_zero, Nat.sub_zero, List.take_length]
      rw [e]
      exact DD.tup hh t
def cutLf : PyData → Option Int → Option Int → Option PyData
  | .list ds, l, h => some (.list (cutD ds l h))
  | _, _, _ => none
theorem cutLf_of {d : PyData} {l h : Option Int} {z : PyData} (e : cutLf d l h = some z) : ∃ ds, d = .list ds ∧ z = .list (cutD ds l h) := by
  unfold cutLf at e
  split at e
  · cases e
    exact ⟨_, rfl, rfl⟩
  · cases e
def sLst : OS where
  rel := rSlL
  f := cutLf
  ok := fun K d l h z e x G H hx hs Q hQ => by
    obtain ⟨ds, rfl, rfl⟩ := cutLf_of e
    cases hx with
    | @lst a xs _ hh t =>
      have hl := t.len
      have cut : DDs K G (cutV xs l h) (cutD ds l h) := by
        unfold cutV cutD
        rw [hl]
        exact (t.drop _).take _
      exact ⟨a, xs, rfl, .inl (.inl (hs _ _ hh)), fun p np => hQ _ _ _ (Mv.new hs np) (DD.lst upd_same (cut.mono (Mv.new (M := fun _ => False) hs np).gr))⟩
/-- of a list or a tuple -/
def cutSf : PyData → Option Int → Option Int → Option PyData
  | .list ds, l, h => some (.list (cutD ds l h))
  | .tuple ds, l, h => some (.tuple (cutD ds l h))
  | _, _, _ => none
def sSeq : OS where
  rel := fun K x l h H Q => rSlA K x l h H Q ∨ rSlL K x l h H Q
  f := cutSf
  ok := fun K d l h z e x G H hx hs Q hQ => by
    cases d with
    | list ds => exact .inr (sLst.ok K (.list ds) l h z e x G H hx hs Q hQ)
    | tuple ds => exact .inl (sTup.ok K (.tuple ds) l h z e x G H hx hs Q hQ)
    | none => cases e
    | bool _ => cases e
    | int _ => cases e
    | str _ => cases e
    | dict _ => cases e
def ixQf : PyData → PyData → Option PyData
  | .list ds, .int i => atI ds i
  | .tuple ds, .int i => atI ds i
  | _, _ => none
def oIxQ : O2 where
  rel := fun K x y H Q => rIxL K x y H Q ∨ rIxT K x y H Q
  f := ixQf
  ok := fun K d e z h x y G H hx hy hs Q hQ => by
    unfold ixQf at h
    split at h
    · exact .inl (rv_ixL h x y G H hx hy hs Q hQ)
    · exact .inr (rv_ixT h x y G H hx hy hs Q hQ)
    · cases h
section
variable {X : Cx} {K : PySem.W.Frag}
theorem ix_q : IxR X (fun x y H Q => rIxL X.K x y H Q ∨ rIxT X.K x y H Q) := IxR.or ix_list ix_tup
theorem ki_ixQ (h : X.K = K) : IxR X (fun x y H Q => rIxL K x y H Q ∨ rIxT K x y H Q) := by
  subst h
  exact ix_q
theorem sl_q : SlR X (fun x l h H Q => rSlA X.K x l h H Q ∨ rSlL X.K x l h H Q) := SlR.or sl_tupA sl_list
theorem ki_slQ (h : X.K = K) : SlR X (fun x l h H Q => rSlA K x l h H Q ∨ rSlL K x l h H Q) := by
  subst h
  exact sl_q
theorem ki_slT (h : X.K = K) : SlR X (rSlA K) := by
  subst h
  exact sl_tupA
theorem ki_slL (h : X.K = K) : SlR X (rSlL K) := by
  subst h
  exact sl_list
theorem ki_kd {w : World} (h : X.K = K) (h2 : X.w = w) : IxR X (rIxD K w) := by
  subst h h2
  exact ix_kdict
end
/-! enumerate, and a tuple the other way about -/
def enumL (ds : List PyData) : List PyData := (List.range ds.length).map fun i => .tuple [.int (i : Nat), ds.getD i .none]
def enumF : List PyData → Option (List PyData)
  | [d] => (seqF d).map enumL
  | _ => none
def wEnum : OIs where
  rel := fun K vs H1 R => ∃ c a xs, vs = [.ref a] ∧ SqX K c H1 a xs ∧ R (ItE K c a) H1
  f := enumF
  ok := fun K ds its h xs G H hx hs R hR => by
    unfold enumF at h
    split at h
    · obtain ⟨ds, h1, rfl⟩ := Option.map_eq_some_iff.mp h
      cases hx with
      | cons hv t =>
        cases t
        obtain ⟨c, a, ys, rfl, t1, q1⟩ := sqX_of (H := H) hv (seqF_of h1)
        refine ⟨c, a, ys, rfl, q1 H hs, hR _ ⟨fun H => SqX K c H a ys, _, by rw [show (enumL ds).length = ys.length by unfold enumL; rw [List.length_map, List.length_range, t1.len]]; exact walkE, fun H3 g => q1 H3 g, fun i d' G3 H3 x H4 hd g1 g2 y => ?_⟩⟩
        obtain ⟨T, x2, rfl, nT, rfl, e2⟩ := y
        obtain ⟨f, c1, k1⟩ := t1.get e2
        have ed : d' = .tuple [.int (i : Nat), f] := by
          unfold enumL at hd
          have hi : i < ds.length := (List.getElem?_eq_some_iff.mp c1).1
          rw [List.getElem?_map, List.getElem?_range hi] at hd
          have := (Option.some.inj hd).symm
          rw [this]
          show PyData.tuple [.int (i : Nat), ds.getD i .none] = _
          rw [List.getD_eq_getElem?_getD, c1]
          rfl
        subst ed
        have mm : Mv (fun _ => False) G3 H3 (upd G3 T (.tup [.int (i : Nat), x2])) (upd H3 T (.tup [.int (i : Nat), x2])) := Mv.new g2 nT
        exact ⟨_, mm, DD.tup upd_same (.cons (.int _) (.cons (k1.mono fun a o z => mm.gr _ _ (g1 _ _ z)) .nil))⟩
    · cases h
def uRevT : O1 where
  rel := fun K x H1 Q => ∃ a xs, x = .ref a ∧ SqT K H1 a xs ∧ ∀ p, H1 p = none → Q (.ref p) (upd H1 p (.tup xs.reverse))
  f := fun d => match d with
    | .tuple ds => some (.tuple ds.reverse)
    | _ => none
  ok := fun K d z h x G H hx hs Q hQ => by
    split at h
    · cases h
      cases hx with
      | @tup a xs _ hh t => exact ⟨a, xs, rfl, .inl (.inl (hs _ _ hh)), fun p np => hQ _ _ _ (Mv.new hs np) (DD.tup upd_same (t.reverse.mono (Mv.new (M := fun _ => False) hs np).gr))⟩
    · cases h
/-- max(xs), min(xs) of a list of ints -/
def maxI : List Int → Int
  | [] => 0
  | [x] => x
  | x :: y :: l => if maxI (y :: l) > x then maxI (y :: l) else x
def minI : List Int → Int
  | [] => 0
  | [x] => x
  | x :: y :: l => if minI (y :: l) < x then minI (y :: l) else x
theorem maxI_mem : ∀ {l : List Int}, l ≠ [] → maxI l ∈ l ∧ ∀ y ∈ l, y ≤ maxI l
  | [], h => absurd rfl h
  | [x], _ => ⟨List.mem_cons_self .., fun y hy => by rw [List.mem_singleton.mp hy]; exact Int.le_refl _⟩
  | x :: y :: l, _ => by
    obtain ⟨a, b⟩ := maxI_mem (l := y :: l) (by simp)
    unfold maxI
    split
    · refine ⟨List.mem_cons_of_mem _ a, fun z hz => ?_⟩
      rcases List.mem_cons.mp hz with rfl | hz
      · omega
      · exact b z hz
    · refine ⟨List.mem_cons_self .., fun z hz => ?_⟩
      rcases List.mem_cons.mp hz with rfl | hz
      · exact Int.le_refl _
      · have := b z hz
        omega
theorem minI_mem : ∀ {l : List Int}, l ≠ [] → minI l ∈ l ∧ ∀ y ∈ l, minI l ≤ y
  | [], h => absurd rfl h
  | [x], _ => ⟨List.mem_cons_self .., fun y hy => by rw [List.mem_singleton.mp hy]; exact Int.le_refl _⟩
  | x :: y :: l, _ => by
    obtain ⟨a, b⟩ := minI_mem (l := y :: l) (by simp)
    unfold minI
    split
    · refine ⟨List.mem_cons_of_mem _ a, fun z hz => ?_⟩
      rcases List.mem_cons.mp hz with rfl | hz
      · omega
      · exact b z hz
    · refine ⟨List.mem_cons_self .., fun z hz => ?_⟩
      rcases List.mem_cons.mp hz with rfl | hz
      · exact Int.le_refl _
      · have := b z hz
        omega
def maxF : PyData → Option PyData
  | .list ds => (intsOf ds).bind fun ns => if ns.isEmpty then none else some (.int (maxI ns))
  | _ => none
def minF : PyData → Option PyData
  | .list ds => (intsOf ds).bind fun ns => if ns.isEmpty then none else some (.int (minI ns))
  | _ => none
def bMaxL : OB where
  rel := rMax
  f := ob1 maxF
  ok := fun K ds z h vs G H hv hs Q hQ => by
    unfold ob1 at h
    split at h
    · unfold maxF at h
      obtain ⟨v, rfl, hx⟩ := vds1 hv
      split at h
      · obtain ⟨ns, hn, h⟩ := Option.bind_eq_some_iff.mp h
        split at h
        · cases h
        · rename_i hne
          cases h
          have hne2 : ns ≠ [] := fun e => by subst e; exact hne rfl
          cases hx with
          | @lst a xs _ hl t =>
            have e := ints_v hn t
            subst e
            obtain ⟨m1, m2⟩ := maxI_mem hne2
            refine ⟨a, ns, rfl, .inl (.inl (hs _ _ hl)), List.length_pos_iff.mpr hne2, fun m h1 h2 => ?_⟩
            have em : m = maxI ns := Int.le_antisymm (m2 m h1) (h2 _ m1)
            subst em
            exact hQ _ (.i _) G H (Mv.refl hs) (DD.int _) rfl
      · cases h
    · cases h
def bMinL : OB where
  rel := rMin
  f := ob1 minF
  ok := fun K ds z h vs G H hv hs Q hQ => by
    unfold ob1 at h
    split at h
    · unfold minF at h
      obtain ⟨v, rfl, hx⟩ := vds1 hv
      split at h
      · obtain ⟨ns, hn, h⟩ := Option.bind_eq_some_iff.mp h
        split at h
        · cases h
        · rename_i hne
          cases h
          have hne2 : ns ≠ [] := fun e => by subst e; exact hne rfl
          cases hx with
          | @lst a xs _ hl t =>
            have e := ints_v hn t
            subst e
            obtain ⟨m1, m2⟩ := minI_mem hne2
            refine ⟨a, ns, rfl, .inl (.inl (hs _ _ hl)), List.length_pos_iff.mpr hne2, fun m h1 h2 => ?_⟩
            have em : m = minI ns := Int.le_antisymm (h2 _ m1) (m2 m h1)
            subst em
            exact hQ _ (.i _) G H (Mv.refl hs) (DD.int _) rfl
      · cases h
    · cases h
theorem ki_max {X : Cx} {K : PySem.W.Frag} (h : X.K = K) (hc : X.calm = true) : CallR X (.builtin "max") (rMax K) := by
  subst h
  exact cr_max hc
theorem ki_min {X : Cx} {K : PySem.W.Frag} (h : X.K = K) (hc : X.calm = true) : CallR X (.builtin "min") (rMin K) := by
  subst h
  exact cr_min hc
end DP

namespace DP
open PySem PySem.Spec PyProof.Rows L2 ZX DL RT
theorem startE_rp {ob : Option Addr} (N : List Str) (ds : List PyData) : Rp ob (startE N.length ds) (startD N ds) [] := by
  refine ⟨by simp [startE, startD], fun i d h => ?_, fun i es h => ?_, fun i h => ?_, fun i j es fs l h => ?_⟩
  · unfold startE at h
    unfold startD
    by_cases hi : i < ds.length
    · rw [List.getElem?_append_left (by simpa using hi), List.getElem?_map] at h ⊢
      obtain ⟨e, he, hd⟩ := Option.map_eq_some_iff.mp h
      rw [he]
      cases hd
      rfl
    · rw [List.getElem?_append_right (by simpa using Nat.not_lt.mp hi), List.getElem?_replicate] at h
      split at h <;> cases h
  · exfalso
    unfold startE at h
    by_cases hi : i < ds.length
    · rw [List.getElem?_append_left (by simpa using hi), List.getElem?_map] at h
      obtain ⟨e, he, hd⟩ := Option.map_eq_some_iff.mp h
      cases hd
    · rw [List.getElem?_append_right (by simpa using Nat.not_lt.mp hi), List.getElem?_replicate] at h
      split at h <;> cases h
  · exfalso
    unfold startE at h
    by_cases hi : i < ds.length
    · rw [List.getElem?_append_left (by simpa using hi), List.getElem?_map] at h
      obtain ⟨e, he, hd⟩ := Option.map_eq_some_iff.mp h
      cases hd
    · rw [List.getElem?_append_right (by simpa using Nat.not_lt.mp hi), List.getElem?_replicate] at h
      split at h <;> cases h
  · exfalso
    unfold startE at h
    by_cases hi : i < ds.length
    · rw [List.getElem?_append_left (by simpa using hi), List.getElem?_map] at h
      obtain ⟨e, he, hd⟩ := Option.map_eq_some_iff.mp h
      cases hd
    · rw [List.getElem?_append_right (by simpa using Nat.not_lt.mp hi), List.getElem?_replicate] at h
      split at h <;> cases h
theorem tail_no {n : Nat} {ds : List PyData} {i : Nat} {s : Sl} (h : (ds.map Sl.dat ++ List.replicate n Sl.unk)[i]? = some s) : s = .unk ∨ ∃ d, s = .dat d ∧ ds[i]? = some d := by
  by_cases hi : i < ds.length
  · rw [List.getElem?_append_left (by simpa using hi), List.getElem?_map] at h
    obtain ⟨e, he, hd⟩ := Option.map_eq_some_iff.mp h
    exact .inr ⟨e, hd.symm, he⟩
  · rw [List.getElem?_append_right (by simpa using Nat.not_lt.mp hi), List.getElem?_replicate] at h
    split at h
    · exact .inl (Option.some.inj h).symm
    · cases h
theorem startX_rp (N : List Str) (b : Addr) (ds : List PyData) : Rp (some b) (startX N.length ds) (DL.startB N b ds) [] := by
  refine ⟨by simp [startX, DL.startB], fun i d h => ?_, fun i es h => ?_, fun i h => ?_, fun i j es fs l h => ?_⟩
  · cases i with
    | zero => cases h
    | succ i =>
      unfold startX at h
      rw [List.getElem?_cons_succ] at h
      rcases tail_no h with e | ⟨d', e, hd⟩
      · cases e
      · cases e
        unfold DL.startB
        have hi : i < ds.length := (List.getElem?_eq_some_iff.mp hd).1
        rw [List.getElem?_cons_succ, List.getElem?_append_left (by simpa using hi), List.getElem?_map, hd]
        rfl
  · exfalso
    cases i with
    | zero => cases h
    | succ i =>
      unfold startX at h
      rw [List.getElem?_cons_succ] at h
      rcases tail_no h with e | ⟨d', e, hd⟩ <;> cases e
  · cases i with
    | zero => exact ⟨b, rfl, rfl⟩
    | succ i =>
      unfold startX at h
      rw [List.getElem?_cons_succ] at h
      rcases tail_no h with e | ⟨d', e, hd⟩ <;> cases e
  · exfalso
    cases i with
    | zero => cases h
    | succ i =>
      unfold startX at h
      rw [List.getElem?_cons_succ] at h
      rcases tail_no h with e | ⟨d', e, hd⟩ <;> cases e
theorem told_ok {f : Fl} {n : Nat} {Φ : PyData → Nat → Prop} (h : (told f).ok n Φ) : (∃ d, f = .rt d ∧ Φ d n) ∨ ∃ ds, f = .rtO ds ∧ Φ (.list ds) n := by
  cases f with
  | rt d => exact .inl ⟨d, rfl, h⟩
  | rtO d => exact .inr ⟨d, rfl, h⟩
  | nx _ => exact h.elim
  | bk _ => exact h.elim
  | ct _ => exact h.elim
  | ex _ _ => exact h.elim
theorem toldX_ok {f : Fl} {n : Nat} {Φ : Ou → Nat → Prop} (h : (toldX f).ok n Φ) : (∃ d, f = .rt d ∧ Φ (.val d) n) ∨ (∃ ds, f = .rtO ds ∧ Φ (.val (.list ds)) n) ∨ ∃ c fs, f = .ex c fs ∧ Φ (.exc c fs) n := by
  cases f with
  | rt d => exact .inl ⟨d, rfl, h⟩
  | rtO d => exact .inr (.inl ⟨d, rfl, h⟩)
  | nx _ => exact h.elim
  | bk _ => exact h.elim
  | ct _ => exact h.elim
  | ex c fs => exact .inr (.inr ⟨c, fs, rfl, h⟩)
/-- a list told is known from now on -/
theorem frz_side {K : PySem.W.Frag} {M : Addr → Prop} {G H G2 H2 : Hp} {l : Addr} {xs : List V} {ds : List PyData} (m : Mv M G H G2 H2) (n0 : H l = none) (g0 : G2 l = none) (h : H2 l = some (.lst xs)) (d : DDs K G2 xs ds) : Mv M G H (upd G2 l (.lst xs)) H2 ∧ DD K (upd G2 l (.lst xs)) (.ref l) (.list ds) := by
  have k : ∀ a u, G2 a = some u → upd G2 l (.lst xs) a = some u := fun a u e => by
    rw [upd_ne (ne_of_none e g0)]
    exact e
  refine ⟨⟨fun a o e => k a o (m.gr a o e), fun a o e => ?_, fun a o e => ?_, m.kp, m.dom⟩, DD.lst upd_same (d.mono k)⟩
  · by_cases ea : a = l
    · subst ea
      rw [upd_same] at e
      rw [← e]
      exact h
    · rw [upd_ne ea] at e
      exact m.sub a o e
  · rw [upd_ne (ne_of_none e n0)]
    exact m.old a o e
theorem wd_more {S : MS} {n : Nat} {G H : Hp} {l : Addr} {o : HO} (w : Wd S n G H) (nM : ¬ S.M l) (g0 : G l = none) (h : H l = some o) : Wd S n (upd G l o) H := by
  refine ⟨fun a u e => ?_, fun a ha => ?_, S.fr w.inv (fun a u e => ?_) fun _ _ _ e => e⟩
  · by_cases ea : a = l
    · subst ea
      rw [upd_same] at e
      rw [← e]
      exact h
    · rw [upd_ne ea] at e
      exact w.sub a u e
  · rw [upd_ne (show a ≠ l from fun e => nM (e ▸ ha))]
    exact w.no a ha
  · rw [upd_ne (ne_of_none e g0)]
    exact e
theorem no_has {l : Addr} {H : Hp} (h : Own.has [] l ∨ H l = none) : H l = none := h.elim (fun ⟨_, z⟩ => nomatch z) fun z => z
abbrev gq (K : PySem.W.Frag) (w : World) (da : Nat → Option Addr) : Gq := ⟨K, w, da, fun _ => 0, fun _ _ _ => False⟩
/-- no plain return stands in it -/
def S.nort : S → Bool
  | .seq a b => a.nort && b.nort
  | .frz _ s => s.nort
  | .ret _ => false
  | .cond _ a b => a.nort && b.nort
  | .loop _ _ b => b.nort
  | .whil _ _ b => b.nort
  | _ => true
theorem ret_of0 {α β : Type} {t : Dr α} {g : α → Dr β} {z : β} (h : t.bind g = .ret z) : ∃ a, t = .ret a ∧ g a = .ret z := by
  cases t with
  | ret a => exact ⟨a, rfl, h⟩
  | bad => cases h
  | draw m k => cases h
theorem forL_rt {step : PyData → En → Dr Fl} {d : PyData} (hs : ∀ x env, step x env ≠ .ret (.rt d)) : ∀ (its : List PyData) (env : En), forL step its env ≠ .ret (.rt d)
  | [], env => fun h => by cases h
  | x :: r, env => fun h => by
    obtain ⟨u, e, h⟩ := ret_of0 h
    cases u with
    | nx env' => exact forL_rt hs r env' h
    | ct env' => exact forL_rt hs r env' h
    | bk _ => cases h
    | rt v =>
      cases h
      exact hs x env e
    | rtO _ => cases h
    | ex _ _ => cases h
theorem whileL_rt {c : En → Dr Bool} {b : En → Dr Fl} {d : PyData} (hs : ∀ env, b env ≠ .ret (.rt d)) : ∀ (m : Nat) (env : En), whileL c b m env ≠ .ret (.rt d)
  | 0, env => fun h => by cases h
  | m + 1, env => fun h => by
    obtain ⟨q, _, h⟩ := ret_of0 h
    split at h
    · obtain ⟨u, e, h⟩ := ret_of0 h
      cases u with
      | nx env' => exact whileL_rt hs m env' h
      | ct env' => exact whileL_rt hs m env' h
      | bk _ => cases h
      | rt v =>
        cases h
        exact hs env e
      | rtO _ => cases h
      | ex _ _ => cases h
    · cases h
theorem no_rt : ∀ (b : S) (env : En), b.nort = true → ∀ d, evS b env ≠ .ret (.rt d)
  | .next, env, _, d => fun h => by cases h
  | .seq a b, env, n, d => fun h => by
    obtain ⟨n1, n2⟩ := Bool.and_eq_true_iff.mp (show (a.nort && b.nort) = true from n)
    obtain ⟨u, e, h⟩ := ret_of0 h
    cases u with
    | nx env' => exact no_rt b env' n2 d h
    | rt v =>
      cases h
      exact no_rt a env n1 d e
    | ct _ => cases h
    | bk _ => cases h
    | rtO _ => cases h
    | ex _ _ => cases h
  | .frz i s, env, n, d => fun h => by
    obtain ⟨u, e, h⟩ := ret_of0 h
    exact no_rt s _ n d h
  | .ret _, _, n, _ => by cases n
  | .cond c a b, env, n, d => fun h => by
    obtain ⟨n1, n2⟩ := Bool.and_eq_true_iff.mp (show (a.nort && b.nort) = true from n)
    obtain ⟨q, e, h⟩ := ret_of0 h
    split at h
    · exact no_rt a env n1 d h
    · exact no_rt b env n2 d h
  | .loop it g b, env, n, d => fun h => by
    obtain ⟨its, e, h⟩ := ret_of0 h
    refine forL_rt (fun x env' h2 => ?_) its env h
    obtain ⟨env2, _, h3⟩ := ret_of0 h2
    exact no_rt b env2 n d h3
  | .whil m c b, env, n, d => fun h => whileL_rt (fun env' h2 => no_rt b env' n d h2) m env h
  | .asg _ _, env, _, d => fun h => by
    obtain ⟨_, _, h⟩ := ret_of0 h
    obtain ⟨_, _, h⟩ := ret_of0 h
    cases h
  | .asg2 _ _ _, env, _, d => fun h => by
    obtain ⟨_, _, h⟩ := ret_of0 h
    cases h
  | .par _ _ _, env, _, d => fun h => by
    obtain ⟨_, _, h⟩ := ret_of0 h
    split at h <;> cases h
  | .par3 _ _ _ _, env, _, d => fun h => by
    obtain ⟨_, _, h⟩ := ret_of0 h
    split at h <;> cases h
  | .aug _ _ _, env, _, d => fun h => by
    obtain ⟨_, _, h⟩ := ret_of0 h
    obtain ⟨_, _, h⟩ := ret_of0 h
    obtain ⟨_, _, h⟩ := ret_of0 h
    cases h
  | .newO _ _, env, _, d => fun h => by
    obtain ⟨_, _, h⟩ := ret_of0 h
    split at h <;> cases h
  | .newL _ _, env, _, d => fun h => by
    obtain ⟨_, _, h⟩ := ret_of0 h
    obtain ⟨_, _, h⟩ := ret_of0 h
    cases h
  | .app _ _, env, _, d => fun h => by
    obtain ⟨_, _, h⟩ := ret_of0 h
    obtain ⟨_, _, h⟩ := ret_of0 h
    split at h <;> cases h
  | .setix _ _ _, env, _, d => fun h => by
    obtain ⟨_, _, h⟩ := ret_of0 h
    obtain ⟨_, _, h⟩ := ret_of0 h
    obtain ⟨_, _, h⟩ := ret_of0 h
    obtain ⟨_, _, h⟩ := ret_of0 h
    cases h
  | .augix _ _ _ _, env, _, d => fun h => by
    obtain ⟨_, _, h⟩ := ret_of0 h
    obtain ⟨_, _, h⟩ := ret_of0 h
    obtain ⟨_, _, h⟩ := ret_of0 h
    obtain ⟨_, _, h⟩ := ret_of0 h
    obtain ⟨_, _, h⟩ := ret_of0 h
    obtain ⟨_, _, h⟩ := ret_of0 h
    cases h
  | .rev _, env, _, d => fun h => by
    obtain ⟨_, _, h⟩ := ret_of0 h
    cases h
  | .setsl _ _ _, env, _, d => fun h => by
    obtain ⟨_, _, h⟩ := ret_of0 h
    obtain ⟨_, _, h⟩ := ret_of0 h
    obtain ⟨_, _, h⟩ := ret_of0 h
    obtain ⟨_, _, h⟩ := ret_of0 h
    cases h
  | .ext _ _, env, _, d => fun h => by
    obtain ⟨_, _, h⟩ := ret_of0 h
    obtain ⟨_, _, h⟩ := ret_of0 h
    obtain ⟨_, _, h⟩ := ret_of0 h
    cases h
  | .clr _, env, _, d => fun h => by
    obtain ⟨_, _, h⟩ := ret_of0 h
    cases h
  | .pop _, env, _, d => fun h => by
    obtain ⟨_, _, h⟩ := ret_of0 h
    split at h <;> cases h
  | .popA _ _ _, env, _, d => fun h => by
    obtain ⟨_, _, h⟩ := ret_of0 h
    obtain ⟨_, _, h⟩ := ret_of0 h
    obtain ⟨_, _, h⟩ := ret_of0 h
    split at h
    · obtain ⟨_, _, h⟩ := ret_of0 h
      obtain ⟨_, _, h⟩ := ret_of0 h
      cases h
    · cases h
  | .ins _ _ _, env, _, d => fun h => by
    obtain ⟨_, _, h⟩ := ret_of0 h
    obtain ⟨_, _, h⟩ := ret_of0 h
    obtain ⟨_, _, h⟩ := ret_of0 h
    obtain ⟨_, _, h⟩ := ret_of0 h
    cases h
  | .newE _ _, env, _, d => fun h => by
    obtain ⟨_, _, h⟩ := ret_of0 h
    cases h
  | .par2B _ _ _, env, _, d => fun h => by
    obtain ⟨_, _, h⟩ := ret_of0 h
    obtain ⟨_, _, h⟩ := ret_of0 h
    cases h
  | .par3B _ _ _ _, env, _, d => fun h => by
    obtain ⟨_, _, h⟩ := ret_of0 h
    obtain ⟨_, _, h⟩ := ret_of0 h
    cases h
  | .retO _, env, _, d => fun h => by
    obtain ⟨_, _, h⟩ := ret_of0 h
    cases h
  | .retF _, env, _, d => fun h => by
    obtain ⟨_, _, h⟩ := ret_of0 h
    cases h
  | .brk, env, _, d => fun h => by cases h
  | .cnt, env, _, d => fun h => by cases h
  | .drop _, env, _, d => fun h => by
    obtain ⟨_, _, h⟩ := ret_of0 h
    cases h
  | .stuck, env, _, d => fun h => by cases h
  | .raise _ _ _, env, _, d => fun h => by
    obtain ⟨_, _, h⟩ := ret_of0 h
    split at h <;> cases h
section
variable {P : Program} {w : World} {K : PySem.W.Frag} {mg : Str → Option Value} {base : Heap} {da : Nat → Option Addr} {x qual : Str} {st : Stmt} {f : Addr} {fd : FuncData} {N ps : List Str} {k : Nat} {b : S}
/-- a def without draws -/
theorem fnP (hD : HD K w da) (F : Fun K x qual st f fd) (Sc : FnScope N ps (defScope st))
    (body : ∀ (cdv : Value) (A : Around) (outer : List Env) (s : Shared) (H : Hp) (E : XK), Room k (A.deeper (envOfC qual (defScope st) s.heap.objs.size f cdv)) →
      PSs (cxOf CX0 P w K mg base N qual (defScope st) f cdv A outer s H E).nox (defBody st) (tS (gq K w da) b)) : FnOk P w K mg base CX0 (k + 1) f fd ps (spF K (run N.length ps.length b)) := by
  refine F.ok Sc (fun vs H Q E h => ?_) (fun cdv A outer s H vs Q E hr h => ?_)
  · obtain ⟨G, ds, d, _, dd, hp, _⟩ := h
    rw [dd.len]
    unfold run at hp
    split at hp
    · assumption
    · cases hp
  · obtain ⟨G, ds, d, hs, dd, hp, q⟩ := h
    refine ⟨_, body cdv A outer s H E hr, ?_⟩
    have hp2 : ((evS b (startE N.length ds)).bind told).ok 0 (fun z _ => z = d) := by
      unfold run at hp
      split at hp
      · rw [hp]
        rfl
      · cases hp
    refine sS (q := gq K w da) (ob := none) hD b _ _ [] 0 _ (startE_rp N ds) (Dr.ok_bind.mp hp2) _ G H (start_slots dd) (ows_nil (wd_pu hs)) _ ⟨fun _ _ _ _ _ _ _ _ _ _ _ z => z.elim, fun v z W' n G2 H2 m _ hv hz => ?_, fun l xs ds' W' n' G2 H2 m w2 b2 g2 h2 d2 hz => ?_, fun _ _ _ _ _ _ _ _ _ _ _ z => z.elim, fun _ _ _ _ _ _ _ _ _ _ _ z => z.elim, fun _ _ _ _ _ _ _ _ z => z.elim⟩
    · rcases told_ok hz with ⟨z', ez, hz⟩ | ⟨_, ez, _⟩
      · cases ez
        cases hz
        exact q v G2 H2 m.toMv hv
      · cases ez
    · rcases told_ok hz with ⟨_, ez, _⟩ | ⟨z', ez, hz⟩
      · cases ez
      · cases ez
        obtain ⟨m2, d3⟩ := frz_side m.toMv (no_has b2) g2 h2 d2
        rw [hz] at d3
        exact q _ _ H2 m2 d3
/-- no own list is left aside: all that is told is a list of its own -/
theorem fnN (hD : HD K w da) (hO : b.nort = true) (F : Fun K x qual st f fd) (Sc : FnScope N ps (defScope st))
    (body : ∀ (cdv : Value) (A : Around) (outer : List Env) (s : Shared) (H : Hp) (E : XK), Room k (A.deeper (envOfC qual (defScope st) s.heap.objs.size f cdv)) →
      PSs (cxOf CX0 P w K mg base N qual (defScope st) f cdv A outer s H E).nox (defBody st) (tS (gq K w da) b)) : FnOk P w K mg base CX0 (k + 1) f fd ps (spN K (run N.length ps.length b)) := by
  refine F.ok Sc (fun vs H Q E h => ?_) (fun cdv A outer s H vs Q E hr h => ?_)
  · obtain ⟨G, ds, d, _, dd, hp, _⟩ := h
    rw [dd.len]
    unfold run at hp
    split at hp
    · assumption
    · cases hp
  · obtain ⟨G, ds, zs, hs, dd, hp, q⟩ := h
    refine ⟨_, body cdv A outer s H E hr, ?_⟩
    have hp2 : ∃ u, evS b (startE N.length ds) = .ret u ∧ told u = .ret (.list zs) := by
      unfold run at hp
      split at hp
      · cases e : evS b (startE N.length ds) with
        | ret u =>
          rw [e] at hp
          exact ⟨u, rfl, hp⟩
        | bad =>
          rw [e] at hp
          cases hp
        | draw _ _ =>
          rw [e] at hp
          cases hp
      · cases hp
    obtain ⟨u, e1, e2⟩ := hp2
    have hp3 : (evS b (startE N.length ds)).ok 0 (fun z _ => z = .rtO zs) := by
      rw [e1]
      cases u with
      | rt d => exact absurd e1 (no_rt b _ hO d)
      | rtO d =>
        cases e2
        rfl
      | nx _ => cases e2
      | bk _ => cases e2
      | ct _ => cases e2
      | ex _ _ => cases e2
    refine sS (q := gq K w da) (ob := none) hD b _ _ [] 0 _ (startE_rp N ds) hp3 _ G H (start_slots dd) (ows_nil (wd_pu hs)) _ ⟨fun _ _ _ _ _ _ _ _ _ _ _ z => Fl.noConfusion z, fun v z W' n G2 H2 m _ hv hz => Fl.noConfusion hz, fun l xs ds' W' n' G2 H2 m w2 b2 g2 h2 d2 hz => ?_, fun _ _ _ _ _ _ _ _ _ _ _ z => Fl.noConfusion z, fun _ _ _ _ _ _ _ _ _ _ _ z => Fl.noConfusion z, fun _ _ _ _ _ _ _ _ z => Fl.noConfusion z⟩
    cases hz
    exact q l xs G2 H2 m.toMv (no_has b2) g2 h2 d2
/-- a def with a box -/
theorem fnB (hD : HD K w da) (F : Fun K x qual st f fd) (Sc : FnScope N ps (defScope st))
    (body : ∀ (cdv : Value) (A : Around) (outer : List Env) (s : Shared) (H : Hp) (E : XK), Room k (A.deeper (envOfC qual (defScope st) s.heap.objs.size f cdv)) →
      PSs (cxOf CX0 P w K mg base N qual (defScope st) f cdv A outer s H E).nox (defBody st) (tS (gq K w da) b)) : FnOk P w K mg base CX0 (k + 1) f fd ps (spD K (runB N.length ps.length b)) := by
  refine F.ok Sc (fun vs H Q E h => ?_) (fun cdv A outer s H vs Q E hr h => ?_)
  · obtain ⟨a, vs', G, ds, n, Φ, rfl, dd, _, hp, _⟩ := h
    rw [List.length_cons, dd.len]
    unfold runB at hp
    split at hp
    · assumption
    · exact hp.elim
  · obtain ⟨a, vs', G, ds, n, Φ, rfl, dd, hw, hp, q⟩ := h
    refine ⟨_, body cdv A outer s H E hr, ?_⟩
    have hp2 : ((evS b (startX N.length ds)).bind told).ok n Φ := by
      unfold runB at hp
      split at hp
      · exact hp
      · exact hp.elim
    refine sS (q := gq K w da) (ob := some a) hD b _ _ [] n _ (startX_rp N a ds) (Dr.ok_bind.mp hp2) _ G H (start_box dd) (ows_nil hw) _ ⟨fun _ _ _ _ _ _ _ _ _ _ _ z => z.elim, fun v z W' n' G2 H2 m w2 hv hz => ?_, fun l xs ds' W' n' G2 H2 m w2 b2 g2 h2 d2 hz => ?_, fun _ _ _ _ _ _ _ _ _ _ _ z => z.elim, fun _ _ _ _ _ _ _ _ _ _ _ z => z.elim, fun _ _ _ _ _ _ _ _ z => z.elim⟩
    · rcases told_ok hz with ⟨z', ez, hz⟩ | ⟨_, ez, _⟩
      · cases ez
        exact q v z n' G2 H2 m.toMv (ows_down w2) hv hz
      · cases ez
    · rcases told_ok hz with ⟨_, ez, _⟩ | ⟨z', ez, hz⟩
      · cases ez
      · cases ez
        obtain ⟨m2, d3⟩ := frz_side m.toMv (no_has b2) g2 h2 d2
        refine q _ _ n' _ H2 m2 (wd_more (ows_down w2) (fun z => ?_) g2 h2) d3 hz
        obtain ⟨o, e⟩ := (bx a).dom hw.inv z
        rw [no_has b2] at e
        cases e
/-- a def that may raise -/
theorem fnX {cls : Nat → Addr} (hD : HD K w da) (F : Fun K x qual st f fd) (Sc : FnScope N ps (defScope st))
    (body : ∀ (cdv : Value) (A : Around) (outer : List Env) (s : Shared) (H : Hp) (E : XK), Room k (A.deeper (envOfC qual (defScope st) s.heap.objs.size f cdv)) →
      PSs (cxOf (L2.CX P w) P w K mg base N qual (defScope st) f cdv A outer s H E) (defBody st) (tS ⟨K, w, da, cls, E⟩ b)) :
    FnOk P w K mg base (L2.CX P w) (k + 1) f fd ps (spX K (fun ds => ∃ o, runX N.length ps.length b ds = .ret o) (fun ds d => runX N.length ps.length b ds = .ret (.val d)) (fun ds cl fl => ∃ c fs, runX N.length ps.length b ds = .ret (.exc c fs) ∧ cl = .ref (cls c) ∧ fl = some fs)) := by
  refine F.okX Sc (fun vs H Q E h => ?_) (fun cdv A outer s H vs Q E hr h => ?_)
  · obtain ⟨G, ds, _, dd, ⟨o, hp⟩, _⟩ := h
    rw [dd.len]
    unfold runX at hp
    split at hp
    · assumption
    · cases hp
  · obtain ⟨G, ds, hs, dd, ⟨o, hp⟩, q, qx⟩ := h
    refine ⟨_, body cdv A outer s H E hr, ?_⟩
    have hp2 : ((evS b (startE N.length ds)).bind toldX).ok 0 (fun z _ => z = o) := by
      unfold runX at hp
      split at hp
      · rw [hp]
        rfl
      · cases hp
    refine sS (q := ⟨K, w, da, cls, E⟩) (ob := none) hD b _ _ [] 0 _ (startE_rp N ds) (Dr.ok_bind.mp hp2) _ G H (start_slots dd) (ows_nil (wd_pu hs)) _ ⟨fun _ _ _ _ _ _ _ _ _ _ _ z => z.elim, fun v z W' n G2 H2 m _ hv hz => ?_, fun l xs ds' W' n' G2 H2 m w2 b2 g2 h2 d2 hz => ?_, fun _ _ _ _ _ _ _ _ _ _ _ z => z.elim, fun _ _ _ _ _ _ _ _ _ _ _ z => z.elim, fun c fs W' n G2 H2 m _ hz => ?_⟩
    · rcases toldX_ok hz with ⟨z', ez, hz⟩ | ⟨_, ez, _⟩ | ⟨_, _, ez, _⟩
      · cases ez
        rw [← hz] at hp
        exact q z v G2 H2 hp m.toMv hv
      · cases ez
      · cases ez
    · rcases toldX_ok hz with ⟨_, ez, _⟩ | ⟨z', ez, hz⟩ | ⟨_, _, ez, _⟩
      · cases ez
      · cases ez
        obtain ⟨m2, d3⟩ := frz_side m.toMv (no_has b2) g2 h2 d2
        rw [← hz] at hp
        exact q _ _ _ H2 hp m2 d3
      · cases ez
    · rcases toldX_ok hz with ⟨_, ez, _⟩ | ⟨_, ez, _⟩ | ⟨c', fs', ez, hz⟩
      · cases ez
      · cases ez
      · cases ez
        rw [← hz] at hp
        exact (qx _ (some fs) G2 H2 ⟨c, fs, hp, rfl, rfl⟩ m.toMv).2 fs rfl
theorem ret_of {α β : Type} {t : Dr α} {g : α → Dr β} {z : β} (h : t.bind g = .ret z) : ∃ a, t = .ret a ∧ g a = .ret z := by
  cases t with
  | ret a => exact ⟨a, rfl, h⟩
  | bad => cases h
  | draw m k => cases h
theorem run_X {N p : Nat} {b : S} {ds : List PyData} {d : PyData} (h : run N p b ds = .ret d) : runX N p b ds = .ret (.val d) := by
  unfold run at h
  unfold runX
  split at h
  · rename_i e
    rw [if_pos e]
    obtain ⟨a, ha, h2⟩ := ret_of h
    rw [ha]
    cases a with
    | rt z =>
      cases h2
      rfl
    | rtO z =>
      cases h2
      rfl
    | nx _ => cases h2
    | bk _ => cases h2
    | ct _ => cases h2
    | ex _ _ => cases h2
  · cases h
/-- the same where it doesn't raise -/
theorem fnC {n p : Nat} {cls : Nat → Addr} (F : FnOk P w K mg base (L2.CX P w) k f fd ps (spX K (fun ds => ∃ o, runX n p b ds = .ret o) (fun ds d => runX n p b ds = .ret (.val d)) (fun ds cl fl => ∃ c fs, runX n p b ds = .ret (.exc c fs) ∧ cl = .ref (cls c) ∧ fl = some fs))) : FnOk P w K mg base CX0 k f fd ps (spF K (run n p b)) := by
  have F2 := fn_calmX F
  have h : ∀ vs H Q E, spF K (run n p b) vs H Q E → spP K (fun ds d => (∃ o, runX n p b ds = .ret o) ∧ (∀ e, runX n p b ds = .ret (.val e) → e = d) ∧ ∀ (cls' : Value) (fl : Option (List (Str × PyData))), ¬ ∃ c fs, runX n p b ds = .ret (.exc c fs) ∧ cls' = .ref (cls c) ∧ fl = some fs) vs H Q E := fun vs H Q E ⟨G, ds, d, sub, dd, hp, q⟩ => by
    have hx := run_X hp
    refine ⟨G, ds, d, sub, dd, ⟨⟨_, hx⟩, fun e he => ?_, fun cl fl ⟨c, fs, he, _⟩ => ?_⟩, q⟩
    · rw [hx] at he
      cases he
      rfl
    · rw [hx] at he
      cases he
  exact ⟨fun vs H Q E q => F2.len vs H Q E (h vs H Q E q), fun A outer s H args us vs Q E hr he hb hv hs => F2.run A outer s H args us vs Q E hr he hb hv (h vs H Q E hs)⟩
/-- take, from the promise that it was proved with -/
def takeF : Fs := fun ds => match ds with
  | [.int m] => .draw m fun j => .ret (.int j)
  | _ => .bad
theorem fn_take {f : Addr} {fd : FuncData} {k : Nat} {ps : List Str} (F2 : FnOk P w K mg base CX0 k f fd ps (spB K Rtake)) : FnOk P w K mg base CX0 k f fd ps (spD K takeF) := by
  have h : ∀ vs H Q E, spD K takeF vs H Q E → spB K Rtake vs H Q E := fun vs H Q E ⟨b, vs', G, ds, n, Φ, e, dd, hw, hp, q⟩ => by
    unfold takeF at hp
    split at hp
    · rename_i m
      obtain ⟨n', rfl, h1, h2, h3⟩ := hp
      exact ⟨b, vs', G, _, n', 1, _, e, dd, hw, ⟨m, rfl, h1, h2, rfl, rfl⟩, fun v d G2 H2 m2 w2 dv ⟨i, ei, i0, i1⟩ => by
        subst ei
        exact q v _ n' G2 H2 m2 w2 dv (h3 i i0 i1)⟩
    · exact hp.elim
  exact ⟨fun vs H Q E q => F2.len vs H Q E (h vs H Q E q), fun A outer s H args us vs Q E hr he hb hv hs => F2.run A outer s H args us vs Q E hr he hb hv (h vs H Q E hs)⟩
/-- a def with a box, where it holds -/
theorem fn_holds {g : Fs} {c : Nat} {f : Addr} {fd : FuncData} {k : Nat} {ps : List Str} (F2 : FnOk P w K mg base CX0 k f fd ps (spD K g)) (hg : (g []).ok c fun d _ => d = .bool true) : FnOk P w K mg base CX0 k f fd ps (spB K fun ds c' Φ => ds = [] ∧ c' = c ∧ Φ = fun d => d = .bool true) := by
  have h : ∀ vs H Q E, spB K (fun ds c' Φ => ds = [] ∧ c' = c ∧ Φ = fun d => d = .bool true) vs H Q E → spD K g vs H Q E := fun vs H Q E ⟨b, vs', G, ds, r, c', Φ, e, dd, hw, ⟨e1, e2, e3⟩, q⟩ => by
    subst e1 e2 e3
    refine ⟨b, vs', G, [], r + c', fun d n' => d = .bool true ∧ r ≤ n', e, dd, hw, ?_, fun v d n' G2 H2 m2 w2 dv ⟨hd, hn⟩ => q v d G2 H2 m2 (Wd.dn (j := n' - r) (w2.eq (by omega))) dv hd⟩
    have key : ∀ {α : Type} (t : Dr α) (n r : Nat) (Ψ : α → Nat → Prop), t.ok n Ψ → t.ok (r + n) fun a n' => r ≤ n' ∧ Ψ a (n' - r) := fun {α} t => by
      induction t with
      | ret a =>
        intro n r Ψ h
        refine ⟨by omega, ?_⟩
        rw [Nat.add_sub_cancel_left]
        exact h
      | bad => exact fun _ _ _ h => h
      | draw m k ih =>
        rintro n r Ψ ⟨n', rfl, h1, h2, h3⟩
        exact ⟨r + n', rfl, h1, h2, fun j a b => ih j n' r Ψ (h3 j a b)⟩
    exact Dr.ok_mono (fun a n h => ⟨h.2, h.1⟩) (key _ _ r _ hg)
  exact ⟨fun vs H Q E q => F2.len vs H Q E (h vs H Q E q), fun A outer s H args us vs Q E hr he hb hv hs => F2.run A outer s H args us vs Q E hr he hb hv (h vs H Q E hs)⟩
end
end DP

/-! more operations -/
namespace DP
open PySem PySem.Spec PyProof.Rows L2 ZX DL RT
def catSf : PyData → PyData → Option PyData
  | .str i, .str j => if i.length + j.length ≤ 100000 then some (.str (i ++ j)) else none
  | _, _ => none
def oCatS : O2 where
  rel := fun _ x y H Q => ∃ i j, x = .str i ∧ y = .str j ∧ i.length + j.length ≤ sizeLine ∧ Q (.str (i ++ j)) H
  f := catSf
  ok := fun K d e z h => by
    unfold catSf at h
    split at h
    · split at h
      · rename_i hc
        cases h
        intro x y G H hx hy hs Q hQ
        cases hx
        cases hy
        exact ⟨_, _, rfl, rfl, Nat.le_trans hc (by decide), hQ _ (.dat (.str _)) G H (Mv.refl hs) (DD.str _) rfl⟩
      · cases h
    · cases h
def revQf : PyData → Option PyData
  | .list ds => some (.list ds.reverse)
  | .tuple ds => some (.tuple ds.reverse)
  | _ => none
def uRevQ : O1 where
  rel := fun K x H1 Q => (∃ a xs, x = .ref a ∧ SqL K H1 a xs ∧ ∀ p, H1 p = none → Q (.ref p) (upd H1 p (.lst xs.reverse))) ∨ ∃ a xs, x = .ref a ∧ SqT K H1 a xs ∧ ∀ p, H1 p = none → Q (.ref p) (upd H1 p (.tup xs.reverse))
  f := revQf
  ok := fun K d z h x G H hx hs Q hQ => by
    unfold revQf at h
    split at h
    · cases h
      cases hx with
      | @lst a xs _ hh t => exact .inl ⟨a, xs, rfl, .inl (.inl (hs _ _ hh)), fun p np => hQ _ _ _ (Mv.new hs np) (DD.lst upd_same (t.reverse.mono (Mv.new (M := fun _ => False) hs np).gr))⟩
    · cases h
      cases hx with
      | @tup a xs _ hh t => exact .inr ⟨a, xs, rfl, .inl (.inl (hs _ _ hh)), fun p np => hQ _ _ _ (Mv.new hs np) (DD.tup upd_same (t.reverse.mono (Mv.new (M := fun _ => False) hs np).gr))⟩
    · cases h
def intF : List PyData → Option PyData
  | [.int i] => some (.int i)
  | [.bool b] => some (.int (if b then 1 else 0))
  | _ => none
def bInt : OB where
  rel := fun _ xs H Q => (∃ i, xs = [.int i] ∧ Q (.int i) H) ∨ ∃ k, xs = [.bl k] ∧ Q (.int (if k then 1 else 0)) H
  f := intF
  ok := fun K ds z h vs G H hv hs Q hQ => by
    unfold intF at h
    split at h
    · cases h
      obtain ⟨v, rfl, hx⟩ := vds1 hv
      cases hx
      exact .inl ⟨_, rfl, hQ _ (.i _) G H (Mv.refl hs) (DD.int _) rfl⟩
    · cases h
      obtain ⟨v, rfl, hx⟩ := vds1 hv
      cases hx
      exact .inr ⟨_, rfl, hQ _ (.i _) G H (Mv.refl hs) (DD.int _) rfl⟩
    · cases h
def anyF : List PyData → Option PyData
  | [.list ds] => (boolsOf ds).map fun bs => .bool (bs.any id)
  | _ => none
def bAny : OB where
  rel := rAny
  f := anyF
  ok := fun K ds z h vs G H hv hs Q hQ => by
    unfold anyF at h
    split at h
    · obtain ⟨bs, hb, rfl⟩ := Option.map_eq_some_iff.mp h
      obtain ⟨v, rfl, hx⟩ := vds1 hv
      cases hx with
      | @lst a xs _ hl t =>
        have e := bools_v hb t
        subst e
        exact ⟨a, bs, rfl, .inl (.inl (hs _ _ hl)), hQ _ (.b _) G H (Mv.refl hs) (DD.bl _) rfl⟩
    · cases h
/-- not in, of texts -/
def ninS (x : PyData) (y : PyData) : Option PyData :=
  match x, y with
  | .str z, .tuple ds => (strsOf ds).map fun ss => .bool (!ss.contains z)
  | .str z, .list ds => (strsOf ds).map fun ss => .bool (!ss.contains z)
  | _, _ => none
def oNinS : O2 where
  rel := fun K => rIn K true
  f := ninS
  ok := fun K d e z h => by
    unfold ninS at h
    split at h
    · rename_i x ds
      obtain ⟨ss, hs, rfl⟩ := Option.map_eq_some_iff.mp h
      intro u v G H hx hy hs2 Q hQ
      cases hx
      cases hy with
      | @tup a xs _ hh t =>
        have e := strs_v hs t
        subst e
        refine ⟨a, _, rfl, .inr (.inl (.inl (hs2 _ _ hh))), rfl, flat_strs ss, hQ _ (.b (!ss.contains x)) G H (Mv.refl hs2) ?_ rfl⟩
        show DD K G (.bl (!inV (.str x) (ss.map V.str))) _
        rw [in_strs]
        exact DD.bl _
    · rename_i x ds
      obtain ⟨ss, hs, rfl⟩ := Option.map_eq_some_iff.mp h
      intro u v G H hx hy hs2 Q hQ
      cases hx
      cases hy with
      | @lst a xs _ hh t =>
        have e := strs_v hs t
        subst e
        refine ⟨a, _, rfl, .inl (.inl (.inl (hs2 _ _ hh))), rfl, flat_strs ss, hQ _ (.b (!ss.contains x)) G H (Mv.refl hs2) ?_ rfl⟩
        show DD K G (.bl (!inV (.str x) (ss.map V.str))) _
        rw [in_strs]
        exact DD.bl _
    · cases h
/-- the place of the first such -/
def ixOf (k : Int) : List Int → Option Nat
  | [] => none
  | n :: r => if n = k then some 0 else (ixOf k r).map (· + 1)
theorem ixOf_get {k : Int} : ∀ {ns : List Int} {j : Nat}, ixOf k ns = some j → ns[j]? = some k ∧ ∀ m n, m < j → ns[m]? = some n → n ≠ k
  | n :: r, j, h => by
    unfold ixOf at h
    split at h
    · rename_i e
      cases h
      subst e
      exact ⟨rfl, fun m n hm => absurd hm (Nat.not_lt_zero _)⟩
    · rename_i e
      obtain ⟨i, hi, rfl⟩ := Option.map_eq_some_iff.mp h
      obtain ⟨h1, h2⟩ := ixOf_get hi
      refine ⟨h1, fun m z hm hz => ?_⟩
      cases m with
      | zero =>
        cases hz
        exact e
      | succ m => exact h2 m z (Nat.lt_of_succ_lt_succ hm) hz
theorem flat_ints : ∀ ss : List Int, (ss.map V.int).all flatV = true
  | [] => rfl
  | x :: ss => by
    show (true && (ss.map V.int).all flatV) = true
    rw [flat_ints ss]
    rfl
def mIndex : OM where
  ty := "list"
  rel := rIndex
  td := fun d => match d with
    | .list _ => true
    | _ => false
  f := fun d xs => match d, xs with
    | .list ds, [.int k] => (intsOf ds).bind fun ns => (ixOf k ns).map fun (j : Nat) => .int (j : Int)
    | _, _ => none
  ty_ok := fun K d h x G H hx hs => by
    split at h
    · cases hx with
      | @lst a xs _ hl t => exact .inl ⟨rfl, _, .inl (.inl (hs _ _ hl))⟩
    · cases h
  ok := fun K d ds z h x vs G H hx hv hs Q hQ => by
    split at h
    · obtain ⟨ns, hn, h⟩ := Option.bind_eq_some_iff.mp h
      obtain ⟨j, hj, rfl⟩ := Option.map_eq_some_iff.mp h
      cases hv with
      | cons h1 t1 =>
        cases t1
        cases h1
        cases hx with
        | @lst a xs _ hl t =>
          have e := ints_v hn t
          subst e
          obtain ⟨g1, g2⟩ := ixOf_get hj
          refine ⟨a, _, _, j, .int _, rfl, rfl, .inl (.inl (hs _ _ hl)), rfl, flat_ints ns, by rw [List.getElem?_map, g1]; rfl, by simp [eqV], fun m z' hm hz => ?_, hQ _ G H (Mv.refl hs) (DD.int _)⟩
          rw [List.getElem?_map] at hz
          obtain ⟨n, hn2, rfl⟩ := Option.map_eq_some_iff.mp hz
          have := g2 m n hm hn2
          simp [eqV, this]
    · cases h
def oOdd : O2 where
  rel := fun _ x y H Q => ∃ (i : Int) (k : Nat), x = .int i ∧ y = .int (2 ^ k - 1) ∧ Q (.int (i % 2 ^ k)) H
  f := fun d e => match d, e with
    | .int i, .int j => if j = 1 then some (.int (i % 2)) else none
    | _, _ => none
  ok := fun K d e z h => by
    split at h
    · split at h
      · rename_i hc
        subst hc
        cases h
        intro x y G H hx hy hs Q hQ
        cases hx
        cases hy
        exact ⟨_, 1, rfl, rfl, hQ _ (.i _) G H (Mv.refl hs) (DD.int _) rfl⟩
      · cases h
    · cases h
def oShr : O2 := oIc (fun _ j => 0 ≤ j) (fun _ j => decide (0 ≤ j)) (fun i j => .int (i / 2 ^ j.toNat)) (fun i j => .int (i / 2 ^ j.toNat)) (fun i j h => by simpa using h) fun _ _ _ _ => .int _
def oShl : O2 := oIc CPow (fun i j => decide (0 ≤ j) && decide (j ≤ 1000000) && decide (i.natAbs < 2 ^ 64)) (fun i j => .int (i * 2 ^ j.toNat)) (fun i j => .int (i * 2 ^ j.toNat)) (fun i j h => by
  simp only [Bool.and_eq_true, decide_eq_true_eq] at h
  exact ⟨h.1.1, h.1.2, h.2⟩) fun _ _ _ _ => .int _
def bDivmod : OB where
  rel := fun _ xs H Q => ∃ i j, xs = [.int i, .int j] ∧ CDiv i j ∧ ∀ p, H p = none → Q (.ref p) (upd H p (.tup [.int (i / j), .int (i % j)]))
  f := fun ds => match ds with
    | [.int i, .int j] => if 0 < j ∧ j < 1073741824 then some (.tuple [.int (i / j), .int (i % j)]) else none
    | _ => none
  ok := fun K ds z h vs G H hv hs Q hQ => by
    split at h
    · split at h
      · rename_i hc
        cases h
        obtain ⟨x, y, rfl, hx, hy⟩ := vds2 hv
        cases hx
        cases hy
        exact ⟨_, _, rfl, ⟨hc.1, hc.2⟩, fun p np => hQ _ (.dat (.tuple _)) _ _ (Mv.new hs np) (DD.tup upd_same (.cons (.int _) (.cons (.int _) .nil))) rfl⟩
      · cases h
    · cases h
def isiI : OTy := ⟨"int", isI, kb_int⟩
def isiB : OTy := ⟨"bool", isB, kb_bool⟩
def isiS : OTy := ⟨"str", isS, kb_str⟩
def isiL : OTy := ⟨"list", isL, kb_list⟩
def isiT : OTy := ⟨"tuple", isT, kb_tup⟩
theorem ps_stuck {X : Cx} {s : Stmt} : PS X s (fun _ _ _ => False) := ⟨fun _ _ _ _ _ _ h => h.elim⟩
theorem pss_frz {X : Cx} {ss : List Stmt} {q : Gq} {i : Nat} {s : S} (h : PSs X ss (tS q s)) : PSs X ss (tS q (.frz i s)) := h
/-! ## new lists -/
def fCatL : OF2 where
  rel := fun _ => rCat
  f := fun d e => match d, e with
    | .list ds, .list es => if ds.length + es.length ≤ 100000 then some (ds ++ es) else none
    | _, _ => none
  ok := fun K d e zs h x y G H hx hy hs Q hQ => by
    split at h
    · split at h
      · rename_i hc
        cases h
        cases hx with
        | @lst a xs _ ha t =>
          cases hy with
          | @lst b ys _ hb u =>
            refine ⟨a, b, xs, ys, rfl, rfl, hs _ _ ha, hs _ _ hb, Nat.le_trans (by rw [t.len, u.len]; exact hc) (by decide), fun p np => hQ _ p (DDs.app t u) np⟩
      · cases h
    · cases h
def fRepL : OF2 where
  rel := fun _ => rRep
  f := fun d e => match d, e with
    | .list ds, .int n => if (0 ≤ n ∧ n ≤ 1000) ∧ ds.length ≤ 1000 then some (List.replicate n.toNat ds).flatten else none
    | _, _ => none
  ok := fun K d e zs h x y G H hx hy hs Q hQ => by
    split at h
    · split at h
      · rename_i hc
        cases h
        cases hy
        cases hx with
        | @lst a xs _ hh t =>
          refine ⟨a, _, xs, rfl, rfl, hs _ _ hh, by omega, by omega, ?_, fun p np => hQ _ p (rep_dd t _) np⟩
          rw [t.len]
          exact Nat.le_trans (Nat.mul_le_mul hc.2 (show _ ≤ 1000 by omega)) (by decide)
      · cases h
    · cases h
def fList : OFB where
  rel := rList
  f := fun ds => match ds with
    | [.list es] => some es
    | [.tuple es] => some es
    | _ => none
  ok := fun K ds zs h vs G H hv hs Q hQ => by
    split at h
    · cases h
      cases hv with
      | cons h1 t1 =>
        cases t1
        cases h1 with
        | @lst a xs _ hh t => exact ⟨a, xs, rfl, .inl (.inl (.inl (hs _ _ hh))), fun l hl => hQ _ l t hl⟩
    · cases h
      cases hv with
      | cons h1 t1 =>
        cases t1
        cases h1 with
        | @tup a xs _ hh t => exact ⟨a, xs, rfl, .inr (.inl (.inl (hs _ _ hh))), fun l hl => hQ _ l t hl⟩
    · cases h
def fRevL : OF1 where
  rel := uRevL.rel
  f := fun d => match d with
    | .list ds => some ds.reverse
    | _ => none
  ok := fun K d zs h x G H hx hs Q hQ => by
    split at h
    · cases h
      cases hx with
      | @lst a xs _ hh t => exact ⟨a, xs, rfl, .inl (.inl (hs _ _ hh)), fun p np => hQ _ p t.reverse np⟩
    · cases h
def fListRg : OF1 where
  rel := uListRg.rel
  f := fun d => match d with
    | .int n => if 0 ≤ n ∧ n ≤ 16777216 then some (rangeD 0 n.toNat) else none
    | _ => none
  ok := fun K d zs h x G H hx hs Q hQ => by
    split at h
    · split at h
      · rename_i n hc
        cases h
        cases hx
        refine ⟨n, rfl, RgOk.of_le (by omega) hc.2 (by omega) hc.1, fun p np => hQ _ p ?_ np⟩
        unfold rgV rangeD
        rw [Int.sub_zero]
        exact dds_rg _ _
      · cases h
    · cases h
section
variable {X : Cx} {K : PySem.W.Frag}
theorem ki_any' (h : X.K = K) (hc : X.calm = true) : CallR X (.builtin "any") (rAny K) := by
  subst h
  exact cr_any hc
theorem ki_nin (h : X.K = K) : OpR X (compareOp .NotIn) (rIn K true) := by
  subst h
  exact op_notIn_seq
theorem ki_index (h : X.K = K) : MtR X "list.index" (rIndex K) := by
  subst h
  exact mt_index
end
end DP

namespace DP
open PySem PySem.Spec PyProof.Rows L2 ZX DL RT
/-- data of at most so many levels, told alike by same -/
def Pl : Nat → PyData → Prop
  | _, .none => True
  | _, .bool _ => True
  | _, .int _ => True
  | _, .str x => PyData.strOk x = true
  | 0, .list _ => False
  | 0, .tuple _ => False
  | n + 1, .list xs => xs.length ≤ 100000 ∧ ∀ y ∈ xs, Pl n y
  | n + 1, .tuple xs => xs.length ≤ 100000 ∧ ∀ y ∈ xs, Pl n y
  | _, .dict _ => False
def Rsame (n : Nat) : List PyData → PyData → Prop := fun ds d => ∃ x, ds = [x, x] ∧ Pl n x ∧ d = .bool true
def RsameN : Nat → List PyData → PyData → Prop
  | 0 => fun _ _ => False
  | n + 1 => Rsame n
open Classical in
/-- same, of one and the same -/
noncomputable def sameF : Fs := fun ds => match ds with
  | [x, y] => if x = y ∧ Pl 4 x then .ret (.bool true) else .bad
  | _ => .bad
theorem sameF_eq {x y : PyData} (h : x = y) (hp : Pl 4 x) : sameF [x, y] = .ret (.bool true) := by
  unfold sameF
  exact if_pos ⟨h, hp⟩
theorem sameF_of {ds : List PyData} {d : PyData} (h : sameF ds = .ret d) : RsameN 5 ds d := by
  unfold sameF at h
  split at h
  · split at h
    · rename_i x y hc
      cases h
      obtain ⟨rfl, hp⟩ := hc
      exact ⟨x, rfl, hp, rfl⟩
    · cases h
  · cases h
theorem gds0_of {z : Str} {d : PyData} (e : gds 0 z = some d) : (z = "R+" ∧ d = .int 0) ∨ (z = "R-" ∧ d = .int 1) ∨ (z = "L+" ∧ d = .int 2) ∨ (z = "L-" ∧ d = .int 3) := by
  replace e : (if z = "R+" then some (PyData.int 0) else (if z = "R-" then some (PyData.int 1) else (if z = "L+" then some (PyData.int 2) else (if z = "L-" then some (PyData.int 3) else none)))) = some d := e
  split at e
  · cases e
    exact .inl ⟨by assumption, rfl⟩
  split at e
  · cases e
    exact .inr (.inl ⟨by assumption, rfl⟩)
  split at e
  · cases e
    exact .inr (.inr (.inl ⟨by assumption, rfl⟩))
  split at e
  · cases e
    exact .inr (.inr (.inr ⟨by assumption, rfl⟩))
  cases e
theorem gds1_of {z : Str} {d : PyData} (e : gds 1 z = some d) : (z = "L+" ∧ d = .str "R+") ∨ (z = "L-" ∧ d = .str "R-") ∨ (z = "R+" ∧ d = .str "L+") ∨ (z = "R-" ∧ d = .str "L-") := by
  replace e : (if z = "L+" then some (PyData.str "R+") else (if z = "L-" then some (PyData.str "R-") else (if z = "R+" then some (PyData.str "L+") else (if z = "R-" then some (PyData.str "L-") else none)))) = some d := e
  split at e
  · cases e
    exact .inl ⟨by assumption, rfl⟩
  split at e
  · cases e
    exact .inr (.inl ⟨by assumption, rfl⟩)
  split at e
  · cases e
    exact .inr (.inr (.inl ⟨by assumption, rfl⟩))
  split at e
  · cases e
    exact .inr (.inr (.inr ⟨by assumption, rfl⟩))
  cases e
theorem gds2_of {z : Str} {d : PyData} (e : gds 2 z = some d) : (z = "L+" ∧ d = .str "L-") ∨ (z = "L-" ∧ d = .str "L+") ∨ (z = "R+" ∧ d = .str "R-") ∨ (z = "R-" ∧ d = .str "R+") := by
  replace e : (if z = "L+" then some (PyData.str "L-") else (if z = "L-" then some (PyData.str "L+") else (if z = "R+" then some (PyData.str "R-") else (if z = "R-" then some (PyData.str "R+") else none)))) = some d := e
  split at e
  · cases e
    exact .inl ⟨by assumption, rfl⟩
  split at e
  · cases e
    exact .inr (.inl ⟨by assumption, rfl⟩)
  split at e
  · cases e
    exact .inr (.inr (.inl ⟨by assumption, rfl⟩))
  split at e
  · cases e
    exact .inr (.inr (.inr ⟨by assumption, rfl⟩))
  cases e
section
variable {P : Program} {w : World} {K : PySem.W.Frag} {mg : Str → Option Value} {base : Heap}
theorem fn_same {f : Addr} {fd : FuncData} {k : Nat} {ps : List Str} (F2 : FnOk P w K mg base CX0 k f fd ps (spP K (RsameN 5))) : FnOk P w K mg base CX0 k f fd ps (spF K sameF) := by
  have h : ∀ vs H Q E, spF K sameF vs H Q E → spP K (RsameN 5) vs H Q E := fun vs H Q E ⟨G, ds, d, sub, dd, hp, q⟩ => ⟨G, ds, d, sub, dd, sameF_of hp, q⟩
  exact ⟨fun vs H Q E q => F2.len vs H Q E (h vs H Q E q), fun A outer s H args us vs Q E hr he hb hv hs => F2.run A outer s H args us vs Q E hr he hb hv (h vs H Q E hs)⟩
end
end DP

namespace DP
open PySem PySem.Spec PyProof.Rows L2 ZX DL RT
def x_net_of_1 : E :=
  (.var 6)
def q_net_of_1 : T :=
  (.tru tB' (.op oEq (.var 5) (.var 1)))
def x_net_of_2 : E :=
  (.var 6)
def q_net_of_2 : T :=
  (.tru tB' (.op oEq (.var 5) (.var 2)))
def a_net_of : S :=
  (.seq (.asg (.nm 3) (.cb bSum (.cons (.lc (.one wSeq (.var 0)) (.tp (.cons (.nm 5) (.cons (.nm 6) .nil))) [5, 6] q_net_of_1 x_net_of_1) .nil)))
    (.seq (.asg (.nm 4) (.cb bSum (.cons (.lc (.one wSeq (.var 0)) (.tp (.cons (.nm 5) (.cons (.nm 6) .nil))) [5, 6] q_net_of_2 x_net_of_2) .nil)))
    (.ret (.op oSub (.var 3) (.var 4)))))
def sem_net_of : Fs := run 7 3 a_net_of
def a_nets : S :=
  (.ret (.tup (.cons (.call sem_net_of (.cons (.var 0) (.cons (cS "L+") (.cons (cS "L-") .nil)))) (.cons (.call sem_net_of (.cons (.var 0) (.cons (cS "R+") (.cons (cS "R-") .nil)))) .nil))))
def sem_nets : Fs := run 1 1 a_nets
def x_turned_1 : E :=
  (.tup (.cons (.gd 1 (.var 1)) (.cons (.var 2) .nil)))
def a_turned : S :=
  (.ret (.lc (.one wSeq (.var 0)) (.tp (.cons (.nm 1) (.cons (.nm 2) .nil))) [1, 2] qY x_turned_1))
def sem_turned : Fs := run 3 1 a_turned
def a_reached : S :=
  (.seq (.asg (.nm 2) (.un uListRg (.cb bLen (.cons (.var 0) .nil))))
    (.seq (.cond (.tru tB' (.op oInS (.var 1) (.tup (.cons (cS "L+") (.cons (cS "L-") .nil))))) (.ret (.var 2)) .next)
    (.ret (.un uRevL (.var 2)))))
def sem_reached : Fs := run 3 2 a_reached
def b_run_done_1 : S :=
  (.seq (.cond (.tru tB' (.op oEq (.var 6) (cI 0))) .brk .next)
    (.seq (.asg (.nm 8) (.cb bMin (.cons (.var 6) (.cons (.ite (.tru tB' (.var 5)) (.op oSub (.op oIxQ (.var 0) (.var 7)) (.oix 4 (.var 7))) (.oix 4 (.var 7))) .nil))))
    (.seq (.augix 4 (.var 7) oAddA (.ite (.tru tB' (.var 5)) (.var 8) (.un uNeg (.var 8))))
    (.aug 6 oSubA (.var 8)))))
def a_run_done : S :=
  (.seq (.newL 4 (.var 1))
    (.seq (.asg (.nm 5) (.gin 0 (.var 2)))
    (.seq (.asg (.nm 6) (.var 3))
    (.seq (.loop (.one wSeq (.call sem_reached (.cons (.var 0) (.cons (.var 2) .nil)))) (.nm 7) b_run_done_1)
    (.frz 4 (.ret (.tup (.cons (.var 4) (.cons (.var 6) .nil)))))))))
def sem_run_done : Fs := run 9 4 a_run_done
def b_word_done_1 : S :=
  (.seq (.asg (.tp (.cons (.nm 3) (.cons (.nm 7) .nil))) (.call sem_run_done (.cons (.var 0) (.cons (.var 3) (.cons (.var 5) (.cons (.var 6) .nil))))))
    (.augix 4 (.gd 0 (.var 5)) oAddA (.var 7)))
def a_word_done : S :=
  (.seq (.asg (.nm 3) (.cb bList (.cons (.var 1) .nil)))
    (.seq (.newO 4 (.cons (cI 0) (.cons (cI 0) (.cons (cI 0) (.cons (cI 0) .nil)))))
    (.seq (.loop (.one wSeq (.var 2)) (.tp (.cons (.nm 5) (.cons (.nm 6) .nil))) b_word_done_1)
    (.frz 4 (.ret (.tup (.cons (.cb bTup (.cons (.var 3) .nil)) (.cons (.cb bTup (.cons (.var 4) .nil)) .nil))))))))
def sem_word_done : Fs := run 8 3 a_word_done
def b_lands_1 : S :=
  (.cond (.tru tB' (.op oNe (.var 6) (.op oIxQ (.var 1) (.var 5)))) (.ret (.var 5)) .next)
def a_lands : S :=
  (.seq (.asg (.tp (.cons (.nm 3) (.cons (.nm 4) .nil))) (.call sem_run_done (.cons (.var 0) (.cons (.var 1) (.cons (.var 2) (.cons (cI 1) .nil))))))
    (.seq (.loop (.many wEnum (.cons (.var 3) .nil)) (.tp (.cons (.nm 5) (.cons (.nm 6) .nil))) b_lands_1)
    (.ret cN)))
def sem_lands : Fs := run 7 3 a_lands
def a_breathed : S :=
  (.seq (.asg (.tp (.cons (.nm 3) (.cons (.nm 4) .nil))) (.call sem_word_done (.cons (.var 0) (.cons (.var 1) (.cons (.var 2) .nil)))))
    (.ret (.var 3)))
def sem_breathed : Fs := run 5 3 a_breathed
def a_heard : S :=
  (.seq (.asg (.tp (.cons (.nm 3) (.cons (.nm 4) .nil))) (.call sem_word_done (.cons (.var 0) (.cons (.var 1) (.cons (.var 2) .nil)))))
    (.ret (.var 4)))
def sem_heard : Fs := run 5 3 a_heard
def a_at_gap : S :=
  (.ret (.tup (.cons (.cb bSum (.cons (.sl sSeq (.var 1) .no (.at (.var 2))) .nil)) (.cons (.cb bSum (.cons (.sl sSeq (.var 1) (.at (.var 2)) .no) .nil)) .nil))))
def sem_at_gap : Fs := run 3 3 a_at_gap
def b_aheads_1 : S :=
  (.app 2 (.op oAdd (.oix 2 (.un uNeg (cI 1))) (.var 3)))
def a_aheads : S :=
  (.seq (.newO 2 (.cons (cI 0) .nil))
    (.seq (.loop (.one wSeq (.var 1)) (.nm 3) b_aheads_1)
    (.retO 2)))
def sem_aheads : Fs := run 4 2 a_aheads
def a_over_gap : S :=
  (.seq (.cond (.tru tB' (.op oInS (.var 2) (.tup (.cons (cS "L+") (.cons (cS "L-") .nil))))) (.ret (.op oSub (.var 3) (.cb bAbs (.cons (.op oSub (.cb bSum (.cons (.sl sLst (.var 1) .no (.at (.var 4))) .nil)) (.cb bSum (.cons (.sl sLst (.var 0) .no (.at (.var 4))) .nil))) .nil)))) .next)
    (.ret (.op oSub (.var 3) (.cb bAbs (.cons (.op oSub (.cb bSum (.cons (.sl sLst (.var 1) (.at (.var 4)) .no) .nil)) (.cb bSum (.cons (.sl sLst (.var 0) (.at (.var 4)) .no) .nil))) .nil)))))
def sem_over_gap : Fs := run 5 5 a_over_gap
def b_crossed_1 : S :=
  (.seq (.asg (.tp (.cons (.nm 9) (.cons (.nm 10) .nil))) (.call sem_run_done (.cons (.var 0) (.cons (.var 6) (.cons (.var 7) (.cons (.var 8) .nil))))))
    (.seq (.asg (.nm 11) (.call sem_over_gap (.cons (.var 6) (.cons (.var 9) (.cons (.var 7) (.cons (.var 8) (.cons (.var 3) .nil)))))))
    (.seq (.cond (.tru tB' (.op oInS (.var 7) (.tup (.cons (cS "L+") (.cons (cS "R-") .nil))))) (.aug 4 oAddA (.var 11)) (.aug 5 oAddA (.var 11)))
    (.asg (.nm 6) (.var 9)))))
def a_crossed : S :=
  (.seq (.asg2 4 5 (cI 0))
    (.seq (.asg (.nm 6) (.cb bList (.cons (.var 1) .nil)))
    (.seq (.loop (.one wSeq (.var 2)) (.tp (.cons (.nm 7) (.cons (.nm 8) .nil))) b_crossed_1)
    (.ret (.tup (.cons (.var 4) (.cons (.var 5) .nil)))))))
def sem_crossed : Fs := run 12 4 a_crossed
def x_winds_1 : E :=
  (.op oAdd (.op oSub (.var 5) (.var 7)) (.var 6))
def a_winds : S :=
  (.seq (.asg (.tp (.cons (.nm 3) (.cons (.nm 4) .nil))) (.call sem_word_done (.cons (.var 0) (.cons (.var 1) (.cons (.var 2) .nil)))))
    (.seq (.asg (.nm 5) (.op oAdd (.op oSub (.op oIxT (.call sem_nets (.cons (.var 2) .nil)) (cI 0)) (.op oIxT (.var 4) (cI 0))) (.op oIxT (.var 4) (cI 1))))
    (.ret (.lc (.many wZip (.cons (.call sem_aheads (.cons (.var 0) (.cons (.var 1) .nil))) (.cons (.call sem_aheads (.cons (.var 0) (.cons (.var 3) .nil))) .nil))) (.tp (.cons (.nm 6) (.cons (.nm 7) .nil))) [6, 7] qY x_winds_1))))
def sem_winds : Fs := run 8 3 a_winds
def b_plain_1 : S :=
  (.cond (.and (.otru 1) (.tru tB' (.op oEq (.op oIxT (.oix 1 (.un uNeg (cI 1))) (cI 0)) (.var 2)))) (.setix 1 (.un uNeg (cI 1)) (.tup (.cons (.var 2) (.cons (.op oAdd (.op oIxT (.oix 1 (.un uNeg (cI 1))) (cI 1)) (.var 3)) .nil)))) (.app 1 (.tup (.cons (.var 2) (.cons (.var 3) .nil)))))
def a_plain : S :=
  (.seq (.newO 1 .nil)
    (.seq (.loop (.one wSeq (.var 0)) (.tp (.cons (.nm 2) (.cons (.nm 3) .nil))) b_plain_1)
    (.retO 1)))
def sem_plain : Fs := run 4 1 a_plain
def x_size_of_1 : E :=
  (.var 2)
def a_size_of : S :=
  (.ret (.cb bSum (.cons (.lc (.one wSeq (.var 0)) (.tp (.cons (.nm 1) (.cons (.nm 2) .nil))) [1, 2] qY x_size_of_1) .nil)))
def sem_size_of : Fs := run 3 1 a_size_of
def x_contrary_1 : E :=
  (.tup (.cons (.gd 2 (.var 1)) (.cons (.var 2) .nil)))
def a_contrary : S :=
  (.ret (.lc (.one wSeq (.var 0)) (.tp (.cons (.nm 1) (.cons (.nm 2) .nil))) [1, 2] qY x_contrary_1))
def sem_contrary : Fs := run 3 1 a_contrary
def b_begun_1 : S :=
  (.seq (.cond (.tru tB' (.op oLe (.var 3) (cI 0))) .brk .next)
    (.seq (.app 2 (.tup (.cons (.var 4) (.cons (.cb bMin (.cons (.var 5) (.cons (.var 3) .nil))) .nil))))
    (.aug 3 oSubA (.var 5))))
def a_begun : S :=
  (.seq (.newO 2 .nil)
    (.seq (.asg (.nm 3) (.var 1))
    (.seq (.loop (.one wSeq (.var 0)) (.tp (.cons (.nm 4) (.cons (.nm 5) .nil))) b_begun_1)
    (.frz 2 (.ret (.call sem_plain (.cons (.var 2) .nil)))))))
def sem_begun : Fs := run 6 2 a_begun
def x_lacking_1 : E :=
  (.op oSub (.var 2) (.var 3))
def a_lacking : S :=
  (.ret (.cb bTup (.cons (.lc (.many wZip (.cons (.var 0) (.cons (.var 1) .nil))) (.tp (.cons (.nm 2) (.cons (.nm 3) .nil))) [2, 3] qY x_lacking_1) .nil)))
def sem_lacking : Fs := run 4 2 a_lacking
def b_standing_by_1 : S :=
  (.seq (.asg (.nm 5) (.op oSub (.op oIxQ (.var 1) (.op oAdd (.var 3) (cI 1))) (.op oIxQ (.var 1) (.var 3))))
    (.seq (.cond (.not (.tru tB' (.chain oLe oLe (cI 0) (.var 5) (.var 4)))) .stuck .next)
    (.app 2 (.var 5))))
def a_standing_by : S :=
  (.seq (.cond (.tru tB' (.op oNe (.op oIxQ (.var 1) (cI 0)) (cI 0))) .stuck .next)
    (.seq (.newO 2 .nil)
    (.seq (.loop (.many wEnum (.cons (.var 0) .nil)) (.tp (.cons (.nm 3) (.cons (.nm 4) .nil))) b_standing_by_1)
    (.frz 2 (.ret (.cb bTup (.cons (.var 2) .nil)))))))
def sem_standing_by : Fs := run 6 2 a_standing_by
def x_unlikenesses_1 : E :=
  (.cb bAbs (.cons (.op oSub (.var 3) (.var 4)) .nil))
def a_unlikenesses : S :=
  (.ret (.lc (.many wZip (.cons (.call sem_aheads (.cons (.var 0) (.cons (.var 1) .nil))) (.cons (.call sem_aheads (.cons (.var 0) (.cons (.var 2) .nil))) .nil))) (.tp (.cons (.nm 3) (.cons (.nm 4) .nil))) [3, 4] qY x_unlikenesses_1))
def sem_unlikenesses : Fs := run 5 3 a_unlikenesses
def a_width : S :=
  (.ret (.cb bMaxL (.cons (.call sem_unlikenesses (.cons (.var 0) (.cons (.var 1) (.cons (.var 2) .nil)))) .nil)))
def sem_width : Fs := run 3 3 a_width
def a_widest : S :=
  (.seq (.asg (.nm 3) (.call sem_unlikenesses (.cons (.var 0) (.cons (.var 1) (.cons (.var 2) .nil)))))
    (.seq (.asg (.nm 4) (.cb bMaxL (.cons (.var 3) .nil)))
    (.seq (.cond (.tru tB' (.op oEq (.var 4) (cI 0))) (.ret cN) .next)
    (.ret (.bm mIndex (.var 3) (.cons (.var 4) .nil))))))
def sem_widest : Fs := run 5 3 a_widest
def b_widths_1 : S :=
  (.seq (.asg (.nm 4) (.call sem_breathed (.cons (.var 0) (.cons (.var 4) (.cons (.var 7) .nil)))))
    (.seq (.asg (.nm 5) (.call sem_breathed (.cons (.var 0) (.cons (.var 5) (.cons (.var 7) .nil)))))
    (.app 6 (.call sem_width (.cons (.var 0) (.cons (.var 4) (.cons (.var 5) .nil)))))))
def a_widths : S :=
  (.seq (.par 4 5 (.cons (.var 1) (.cons (.var 2) .nil)))
    (.seq (.newO 6 (.cons (.call sem_width (.cons (.var 0) (.cons (.var 4) (.cons (.var 5) .nil)))) .nil))
    (.seq (.loop (.one wSeq (.var 3)) (.nm 7) b_widths_1)
    (.retO 6))))
def sem_widths : Fs := run 8 4 a_widths
def x_is_below_1 : E :=
  (.op oLe (.var 3) (.var 4))
def a_is_below : S :=
  (.ret (.cb bAll (.cons (.lc (.many wZip (.cons (.call sem_aheads (.cons (.var 0) (.cons (.var 1) .nil))) (.cons (.call sem_aheads (.cons (.var 0) (.cons (.var 2) .nil))) .nil))) (.tp (.cons (.nm 3) (.cons (.nm 4) .nil))) [3, 4] qY x_is_below_1) .nil)))
def sem_is_below : Fs := run 5 3 a_is_below
def b_how_many_1 : S :=
  (.aug 1 oMul (.op oAdd (.var 2) (cI 1)))
def a_how_many : S :=
  (.seq (.asg (.nm 1) (cI 1))
    (.seq (.loop (.one wSeq (.var 0)) (.nm 2) b_how_many_1)
    (.ret (.var 1))))
def sem_how_many : Fs := run 3 1 a_how_many
def b_standing_at_1 : S :=
  (.seq (.asg (.tp (.cons (.nm 3) (.cons (.nm 5) .nil))) (.cb bDivmod (.cons (.var 3) (.cons (.op oAdd (.var 4) (cI 1)) .nil))))
    (.app 2 (.var 5)))
def a_standing_at : S :=
  (.seq (.cond (.not (.tru tB' (.chain oLe oLt (cI 0) (.var 1) (.call sem_how_many (.cons (.var 0) .nil))))) .stuck .next)
    (.seq (.newO 2 .nil)
    (.seq (.asg (.nm 3) (.var 1))
    (.seq (.loop (.one wRev (.var 0)) (.nm 4) b_standing_at_1)
    (.frz 2 (.ret (.cb bTup (.cons (.un uRevL (.var 2)) .nil))))))))
def sem_standing_at : Fs := run 6 2 a_standing_at
def a_stays : S :=
  (.ret (.op oEqD (.call sem_breathed (.cons (.var 0) (.cons (.var 1) (.cons (.var 2) .nil)))) (.cb bTup (.cons (.var 1) .nil))))
def sem_stays : Fs := run 3 3 a_stays
def b_left_way_1 : S :=
  (.cond (.tru tB' (.op oLt (.oix 4 (.var 5)) (.op oIxQ (.var 2) (.var 5)))) (.seq (.asg (.nm 6) (.op oSub (.op oAdd (.op oSub (.cb bSum (.cons (.sl sSeq (.var 0) .no (.at (.var 5))) .nil)) (.cb bSum (.cons (.osl 4 .no (.at (.var 5))) .nil))) (.op oIxQ (.var 2) (.var 5))) (.oix 4 (.var 5))))
    (.seq (.app 3 (.tup (.cons (.var 5) (.cons (cS "L+") (.cons (.var 6) .nil)))))
    (.setsl 4 (.var 5) (.cb bList (.cons (.sl sSeq (.var 0) .no (.at (.var 5))) .nil))))) (.cond (.tru tB' (.op oGt (.oix 4 (.var 5)) (.op oIxQ (.var 2) (.var 5)))) (.seq (.asg (.nm 6) (.op oSub (.op oAdd (.cb bSum (.cons (.osl 4 .no (.at (.var 5))) .nil)) (.oix 4 (.var 5))) (.op oIxQ (.var 2) (.var 5))))
    (.seq (.app 3 (.tup (.cons (.var 5) (.cons (cS "L-") (.cons (.var 6) .nil)))))
    (.setsl 4 (.var 5) (.op oRepL (.lst (.cons (cI 0) .nil)) (.var 5))))) .next))
def a_left_way : S :=
  (.seq (.newO 3 .nil)
    (.seq (.newL 4 (.var 1))
    (.seq (.loop (.rrg (.cb bLen (.cons (.var 0) .nil))) (.nm 5) b_left_way_1)
    (.retO 3))))
def sem_left_way : Fs := run 7 3 a_left_way
def x_fewest_left_1 : E :=
  (.tup (.cons (.var 4) (.cons (.var 5) .nil)))
def a_fewest_left : S :=
  (.retF (.lc (.one wSeq (.call sem_left_way (.cons (.var 0) (.cons (.var 1) (.cons (.var 2) .nil))))) (.tp (.cons (.nm 3) (.cons (.nm 4) (.cons (.nm 5) .nil)))) [3, 4, 5] qY x_fewest_left_1))
def sem_fewest_left : Fs := run 6 3 a_fewest_left
def a_fewest_right : S :=
  (.ret (.call sem_turned (.cons (.call sem_fewest_left (.cons (.un uRevQ (.var 0)) (.cons (.un uRevQ (.var 1)) (.cons (.un uRevQ (.var 2)) .nil)))) .nil)))
def sem_fewest_right : Fs := run 3 3 a_fewest_right
def a_by_gap : S :=
  (.seq (.asg (.nm 4) (.call sem_fewest_left (.cons (.sl sSeq (.var 0) .no (.at (.var 3))) (.cons (.sl sSeq (.var 1) .no (.at (.var 3))) (.cons (.sl sSeq (.var 2) .no (.at (.var 3))) .nil)))))
    (.ret (.op oCatL (.var 4) (.call sem_fewest_right (.cons (.sl sSeq (.var 0) (.at (.var 3)) .no) (.cons (.sl sSeq (.var 1) (.at (.var 3)) .no) (.cons (.sl sSeq (.var 2) (.at (.var 3)) .no) .nil)))))))
def sem_by_gap : Fs := run 5 4 a_by_gap
def x_fewest_1 : E :=
  (.call sem_by_gap (.cons (.var 0) (.cons (.var 1) (.cons (.var 2) (.cons (.var 5) .nil)))))
def x_fewest_2 : E :=
  (.call sem_size_of (.cons (.var 6) .nil))
def a_fewest : S :=
  (.seq (.asg (.nm 3) (.lc (.many wRng (.cons (.op oAdd (.cb bLen (.cons (.var 0) .nil)) (cI 1)) .nil)) (.nm 5) [5] qY x_fewest_1))
    (.seq (.asg (.nm 4) (.lc (.one wSeq (.var 3)) (.nm 6) [6] qY x_fewest_2))
    (.seq (.asg (.nm 5) (.bm mIndex (.var 4) (.cons (.cb bMinL (.cons (.var 4) .nil)) .nil)))
    (.ret (.tup (.cons (.var 5) (.cons (.op oIxQ (.var 3) (.var 5)) .nil)))))))
def sem_fewest : Fs := run 7 3 a_fewest
def a_how_few : S :=
  (.ret (.call sem_size_of (.cons (.op oIxT (.call sem_fewest (.cons (.var 0) (.cons (.var 1) (.cons (.var 2) .nil)))) (cI 1)) .nil)))
def sem_how_few : Fs := run 3 3 a_how_few
def a_first_over : S :=
  (.seq (.asg (.nm 3) (.cb bSum (.cons (.sl sSeq (.var 1) .no (.at (.var 2))) .nil)))
    (.ret (.tup (.cons (.op oAdd (.op oSub (.cb bSum (.cons (.sl sSeq (.var 0) .no (.at (.var 2))) .nil)) (.var 3)) (cI 1)) (.cons (.op oAdd (.var 3) (cI 1)) .nil)))))
def sem_first_over : Fs := run 4 3 a_first_over
def a_bare : S :=
  (.ret (.op oRepT (.tup (.cons (cI 0) .nil)) (.cb bLen (.cons (.var 0) .nil))))
def sem_bare : Fs := run 1 1 a_bare
def x_name_of_1 : E :=
  (.var 4)
def a_name_of : S :=
  (.retF (.lc (.one wSeq (.call sem_left_way (.cons (.var 0) (.cons (.call sem_bare (.cons (.var 0) .nil)) (.cons (.var 1) .nil))))) (.tp (.cons (.nm 2) (.cons (.nm 3) (.cons (.nm 4) .nil)))) [2, 3, 4] qY x_name_of_1))
def sem_name_of : Fs := run 5 2 a_name_of
def x_depths_1 : E :=
  (.var 2)
def a_depths : S :=
  (.retF (.lc (.one wSeq (.call sem_left_way (.cons (.var 0) (.cons (.call sem_bare (.cons (.var 0) .nil)) (.cons (.var 1) .nil))))) (.tp (.cons (.nm 2) (.cons (.nm 3) (.cons (.nm 4) .nil)))) [2, 3, 4] qY x_depths_1))
def sem_depths : Fs := run 5 2 a_depths
def x_led_by_1 : E :=
  (.tup (.cons (.ite (.tru tB' (.op oEq (.op oOdd (.var 3) (cI 1)) (cI 0))) (cS "L+") (cS "L-")) (.cons (.var 4) .nil)))
def a_led_by : S :=
  (.seq (.asg (.nm 2) (.lc (.many wEnum (.cons (.var 1) .nil)) (.tp (.cons (.nm 3) (.cons (.nm 4) .nil))) [3, 4] qY x_led_by_1))
    (.ret (.call sem_breathed (.cons (.var 0) (.cons (.call sem_bare (.cons (.var 0) .nil)) (.cons (.var 2) .nil))))))
def sem_led_by : Fs := run 5 2 a_led_by
def a_with_turn : S :=
  (.ret (.call sem_name_of (.cons (.var 0) (.cons (.call sem_led_by (.cons (.var 0) (.cons (.op oCatL (.cb bList (.cons (.var 1) .nil)) (.lst (.cons (.var 2) .nil))) .nil))) .nil))))
def sem_with_turn : Fs := run 3 3 a_with_turn
def x_named_so_1 : E :=
  (.op oAdd (.var 5) (.op oMul (.var 3) (.var 4)))
def b_named_so_1 : S :=
  (.asg (.nm 2) (.op oCatL (.lst (.cons (cI 1) .nil)) (.lc (.many wZip (.cons (.var 2) (.cons (.sl sLst (.var 2) (.at (cI 1)) .no) .nil))) (.tp (.cons (.nm 4) (.cons (.nm 5) .nil))) [4, 5] qY x_named_so_1)))
def a_named_so : S :=
  (.seq (.cond (.not (.tru tB' (.chain oLe oLe (cI 0) (.var 1) (.cb bLen (.cons (.var 0) .nil))))) (.ret (cI 0)) .next)
    (.seq (.asg (.nm 2) (.op oCatL (.lst (.cons (cI 1) .nil)) (.op oRepL (.lst (.cons (cI 0) .nil)) (.cb bLen (.cons (.var 0) .nil)))))
    (.seq (.loop (.one wSeq (.var 0)) (.nm 3) b_named_so_1)
    (.ret (.op oIxL (.var 2) (.var 1))))))
def sem_named_so : Fs := run 6 2 a_named_so
def a_is_number : S :=
  (.ret (.and (.isi isiI (.var 0)) (.un uNot (.isi isiB (.var 0)))))
def sem_is_number : Fs := run 1 1 a_is_number
def a_is_run : S :=
  (.seq (.cond (.or (.not (.tru tB' (.isi isiT (.var 0)))) (.tru tB' (.op oNe (.cb bLen (.cons (.var 0) .nil)) (cI 2)))) (.ret (cB false)) .next)
    (.seq (.asg (.tp (.cons (.nm 1) (.cons (.nm 2) .nil))) (.var 0))
    (.ret (.and (.gin 1 (.var 1)) (.and (.call sem_is_number (.cons (.var 2) .nil)) (.op oGe (.var 2) (cI 1)))))))
def sem_is_run : Fs := run 3 1 a_is_run
def x_is_word_1 : E :=
  (.call sem_is_run (.cons (.var 1) .nil))
def a_is_word : S :=
  (.ret (.and (.isi isiL (.var 0)) (.cb bAll (.cons (.lc (.one wSeq (.var 0)) (.nm 1) [1] qY x_is_word_1) .nil))))
def sem_is_word : Fs := run 2 1 a_is_word
def a_shows_fewest : S :=
  (.seq (.cond (.or (.not (.tru tB' (.call sem_is_word (.cons (.var 3) .nil)))) (.tru tB' (.op oGt (.call sem_size_of (.cons (.var 3) .nil)) (.call sem_how_few (.cons (.var 0) (.cons (.var 1) (.cons (.var 2) .nil))))))) (.ret (cB false)) .next)
    (.ret (.op oEqD (.call sem_breathed (.cons (.var 0) (.cons (.var 1) (.cons (.var 3) .nil)))) (.cb bTup (.cons (.var 2) .nil)))))
def sem_shows_fewest : Fs := run 4 4 a_shows_fewest
def x_nearer_1 : E :=
  (.var 4)
def q_nearer_1 : T :=
  (.tru tB' (.op oLt (.call sem_how_few (.cons (.var 0) (.cons (.call sem_breathed (.cons (.var 0) (.cons (.var 1) (.cons (.lst (.cons (.tup (.cons (.var 4) (.cons (cI 1) .nil))) .nil)) .nil)))) (.cons (.var 2) .nil)))) (.var 3)))
def a_nearer : S :=
  (.seq (.asg (.nm 3) (.call sem_how_few (.cons (.var 0) (.cons (.var 1) (.cons (.var 2) .nil)))))
    (.retF (.lc (.gl 1) (.nm 4) [4] q_nearer_1 x_nearer_1)))
def sem_nearer : Fs := run 5 3 a_nearer
def x_is_name_1 : E :=
  (.and (.call sem_is_number (.cons (.var 2) .nil)) (.op oGe (.var 2) (cI 1)))
def a_is_name : S :=
  (.seq (.cond (.or (.not (.tru tB' (.isi isiL (.var 1)))) (.not (.tru tB' (.cb bAll (.cons (.lc (.one wSeq (.var 1)) (.nm 2) [2] qY x_is_name_1) .nil))))) (.ret (cB false)) .next)
    (.ret (.op oEqD (.call sem_name_of (.cons (.var 0) (.cons (.call sem_led_by (.cons (.var 0) (.cons (.var 1) .nil))) .nil))) (.var 1))))
def sem_is_name : Fs := run 3 2 a_is_name
def x_L_rooms_1 : E :=
  (.op oIxL (.lst (.cons (cI 1) (.cons (cI 2) (.cons (cI 3) (.cons (.op oAdd (cI 1) (.callB takeF 0 (.cons (cI 9) .nil))) .nil))))) (.callB takeF 0 (.cons (cI 4) .nil)))
def a_L_rooms : S :=
  (.seq (.asg (.nm 2) (.op oAdd (cI 1) (.callB takeF 0 (.cons (.op oIxL (.lst (.cons (.cb bMin (.cons (cI 3) (.cons (.var 1) .nil))) (.cons (.cb bMin (.cons (cI 5) (.cons (.var 1) .nil))) (.cons (.var 1) .nil)))) (.callB takeF 0 (.cons (cI 3) .nil))) .nil))))
    (.ret (.cb bTup (.cons (.lc (.many wRng (.cons (.var 2) .nil)) (.nm 3) [3] qY x_L_rooms_1) .nil))))
def sem_L_rooms : Fs := runB 4 2 a_L_rooms
def x_L_standing_1 : E :=
  (.op oIxL (.lst (.cons (cI 0) (.cons (.var 2) (.cons (.callB takeF 0 (.cons (.op oAdd (.var 2) (cI 1)) .nil)) (.cons (.callB takeF 0 (.cons (.op oAdd (.var 2) (cI 1)) .nil)) .nil))))) (.callB takeF 0 (.cons (cI 4) .nil)))
def a_L_standing : S :=
  (.ret (.cb bTup (.cons (.lc (.one wSeq (.var 1)) (.nm 2) [2] qY x_L_standing_1) .nil)))
def sem_L_standing : Fs := runB 3 2 a_L_standing
def b_L_word_1 : S :=
  (.app 3 (.tup (.cons (.op oIxL (.lst (.cons (cS "L+") (.cons (cS "L-") (.cons (cS "R+") (.cons (cS "R-") .nil))))) (.callB takeF 0 (.cons (cI 4) .nil))) (.cons (.op oAdd (cI 1) (.callB takeF 0 (.cons (.var 2) .nil))) .nil))))
def a_L_word : S :=
  (.seq (.newO 3 .nil)
    (.seq (.loop (.many wRng (.cons (.callB takeF 0 (.cons (.op oAdd (.var 1) (cI 1)) .nil)) .nil)) (.nm 4) b_L_word_1)
    (.retO 3)))
def sem_L_word : Fs := runB 5 3 a_L_word
def x_L_sizes_1 : E :=
  (.op oAdd (cI 1) (.callB takeF 0 (.cons (.var 2) .nil)))
def a_L_sizes : S :=
  (.ret (.cb bTup (.cons (.lc (.many wRng (.cons (.op oAdd (cI 1) (.callB takeF 0 (.cons (.var 1) .nil))) .nil)) (.nm 3) [3] qY x_L_sizes_1) .nil)))
def sem_L_sizes : Fs := runB 4 3 a_L_sizes
def x_L_lot_1 : E :=
  (.callB takeF 0 (.cons (.op oAdd (.var 4) (cI 1)) .nil))
def a_L_lot : S :=
  (.seq (.asg (.nm 2) (.callB takeF 0 (.cons (cI 6) .nil)))
    (.seq (.asg (.nm 3) (.cb bTup (.cons (.lc (.one wSeq (.var 1)) (.nm 4) [4] qY x_L_lot_1) .nil)))
    (.ret (.ite (.tru tB' (.op oEq (.var 2) (cI 0))) (.op oRepT (.tup (.cons (cI 0) .nil)) (.cb bLen (.cons (.var 1) .nil))) (.ite (.tru tB' (.op oEq (.var 2) (cI 1))) (.var 1) (.var 3))))))
def sem_L_lot : Fs := runB 5 2 a_L_lot
def b_L_spot_1 : S :=
  (.cond (.ite (.tru tB' (.op oEq (.op oIxS (.var 2) (cI 1)) (cS "+"))) (.tru tB' (.op oLt (.op oIxT (.var 1) (.var 4)) (.op oIxT (.var 0) (.var 4)))) (.tru tB' (.op oGt (.op oIxT (.var 1) (.var 4)) (cI 0)))) (.ret (.var 4)) .next)
def a_L_spot : S :=
  (.seq (.asg (.nm 3) (.un uListRg (.cb bLen (.cons (.var 0) .nil))))
    (.seq (.loop (.one wSeq (.ite (.tru tB' (.op oEq (.op oIxS (.var 2) (cI 0)) (cS "L"))) (.var 3) (.un uRevL (.var 3)))) (.nm 4) b_L_spot_1)
    (.ret cN)))
def sem_L_spot : Fs := run 5 3 a_L_spot
def a_L_breathed : S :=
  (.seq (.asg (.nm 3) (.call sem_L_spot (.cons (.var 0) (.cons (.var 1) (.cons (.var 2) .nil)))))
    (.seq (.cond (.tru tB' (.op oIsN (.var 3) cN)) (.ret (.var 1)) .next)
    (.seq (.asg (.nm 4) (.op oAdd (.op oIxT (.var 1) (.var 3)) (.ite (.tru tB' (.op oEq (.op oIxS (.var 2) (cI 1)) (cS "+"))) (cI 1) (.un uNeg (cI 1)))))
    (.ret (.op oCatT (.op oCatT (.sl sTup (.var 1) .no (.at (.var 3))) (.tup (.cons (.var 4) .nil))) (.sl sTup (.var 1) (.at (.op oAdd (.var 3) (cI 1))) .no))))))
def sem_L_breathed : Fs := run 5 3 a_L_breathed
def b_L_runs_1 : S :=
  (.app 3 (.tup (.cons (.op oIxL (.lst (.cons (cS "L+") (.cons (cS "L-") (.cons (cS "R+") (.cons (cS "R-") .nil))))) (.callB takeF 0 (.cons (cI 4) .nil))) (.cons (.op oAdd (cI 1) (.callB takeF 0 (.cons (.var 2) .nil))) .nil))))
def a_L_runs : S :=
  (.seq (.newO 3 .nil)
    (.seq (.loop (.many wRng (.cons (.callB takeF 0 (.cons (.op oAdd (.var 1) (cI 1)) .nil)) .nil)) (.nm 4) b_L_runs_1)
    (.retO 3)))
def sem_L_runs : Fs := runB 5 3 a_L_runs
def b_L_gone_1 : S :=
  (.asg (.nm 1) (.call sem_L_breathed (.cons (.var 0) (.cons (.var 1) (.cons (.var 3) .nil)))))
def b_L_gone_2 : S :=
  (.loop (.many wRng (.cons (.var 4) .nil)) (.nm 5) b_L_gone_1)
def a_L_gone : S :=
  (.seq (.loop (.one wSeq (.var 2)) (.tp (.cons (.nm 3) (.cons (.nm 4) .nil))) b_L_gone_2)
    (.ret (.var 1)))
def sem_L_gone : Fs := run 6 3 a_L_gone
def b_L_sums_1 : S :=
  (.app 1 (.op oAdd (.oix 1 (.un uNeg (cI 1))) (.var 2)))
def a_L_sums : S :=
  (.seq (.newO 1 (.cons (cI 0) .nil))
    (.seq (.loop (.one wSeq (.var 0)) (.nm 2) b_L_sums_1)
    (.retO 1)))
def sem_L_sums : Fs := run 3 1 a_L_sums
def x_L_all_1 : E :=
  (.op oCatT (.var 4) (.tup (.cons (.var 5) .nil)))
def b_L_all_1 : S :=
  (.asg (.nm 3) (.op oCatL (.var 3) (.lc (.many wRng (.cons (.op oAdd (.var 2) (cI 1)) .nil)) (.nm 5) [5] qY x_L_all_1)))
def b_L_all_2 : S :=
  (.seq (.asg (.nm 3) (.lst .nil))
    (.seq (.loop (.one wSeq (.var 1)) (.nm 4) b_L_all_1)
    (.asg (.nm 1) (.var 3))))
def a_L_all : S :=
  (.seq (.asg (.nm 1) (.lst (.cons (.tup .nil) .nil)))
    (.seq (.loop (.one wSeq (.var 0)) (.nm 2) b_L_all_2)
    (.ret (.var 1))))
def sem_L_all : Fs := run 6 1 a_L_all
end DP

/-! mathematics of what is told -/
namespace DP
open PySem PySem.Spec PyProof.Rows L2 ZX DL RT
abbrev dI (ns : List Int) : List PyData := ns.map .int
abbrev tN (ns : List Int) : PyData := .tuple (ns.map .int)
abbrev lN (ns : List Int) : PyData := .list (ns.map .int)
section
variable {d : PyData} {ds : List PyData}
theorem ixQ_seq (h : seqF d = some ds) (i : Int) : oIxQ.f d (.int i) = atI ds i := by
  rcases seqF_of h with rfl | rfl <;> rfl
theorem len_seq (h : seqF d = some ds) : bLen.f [d] = some (.int ds.length) := by
  rcases seqF_of h with rfl | rfl <;> rfl
theorem list_seq (h : seqF d = some ds) : bList.f [d] = some (.list ds) := by
  rcases seqF_of h with rfl | rfl <;> rfl
theorem tup_seq (h : seqF d = some ds) : bTup.f [d] = some (.tuple ds) := by
  rcases seqF_of h with rfl | rfl <;> rfl
theorem asSeq_seq (h : seqF d = some ds) : asSeq d = .ret ds := by
  rcases seqF_of h with rfl | rfl <;> rfl
theorem sum_seq {ns : List Int} (h : seqF d = some (dI ns)) : bSum.f [d] = some (.int ns.sum) := by
  rcases seqF_of h with rfl | rfl
  · show (intsOf (dI ns)).map _ = _
    rw [intsOf_map]
    rfl
  · show (intsOf (dI ns)).map _ = _
    rw [intsOf_map]
    rfl
end
theorem Dr.opt_some {α : Type} (a : α) : Dr.opt (some a) = .ret a := rfl
section
variable (i j : Int) (x y : Str) (p q : Bool) (ds es : List PyData) (l h : Option Int)
theorem f_add : oAdd.f (.int i) (.int j) = some (.int (i + j)) := rfl
theorem f_sub : oSub.f (.int i) (.int j) = some (.int (i - j)) := rfl
theorem f_lt : oLt.f (.int i) (.int j) = some (.bool (decide (i < j))) := rfl
theorem f_le : oLe.f (.int i) (.int j) = some (.bool (decide (i ≤ j))) := rfl
theorem f_gt : oGt.f (.int i) (.int j) = some (.bool (decide (j < i))) := rfl
theorem f_ge : oGe.f (.int i) (.int j) = some (.bool (decide (j ≤ i))) := rfl
theorem f_addA : oAddA.f (.int i) (.int j) = some (.int (i + j)) := rfl
theorem f_subA : oSubA.f (.int i) (.int j) = some (.int (i - j)) := rfl
theorem f_eqI : oEq.f (.int i) (.int j) = some (.bool (decide (i = j))) := rfl
theorem f_eqS : oEq.f (.str x) (.str y) = some (.bool (decide (x = y))) := rfl
theorem f_eqB : oEq.f (.bool p) (.bool q) = some (.bool (p == q)) := rfl
theorem f_neI : oNe.f (.int i) (.int j) = some (.bool (!decide (i = j))) := rfl
theorem f_isN (d : PyData) : oIsN.f d .none = some (.bool (isNon d)) := rfl
theorem f_ixL : oIxL.f (.list ds) (.int i) = atI ds i := rfl
theorem f_ixT : oIxT.f (.tuple ds) (.int i) = atI ds i := rfl
theorem f_neg : uNeg.f (.int i) = some (.int (-i)) := rfl
theorem f_not : uNot.f (.bool p) = some (.bool (!p)) := rfl
theorem f_min : bMin.f [.int i, .int j] = some (.int (if j < i then j else i)) := rfl
theorem f_max : bMax.f [.int i, .int j] = some (.int (if j > i then j else i)) := rfl
theorem f_abs : bAbs.f [.int i] = some (.int (if i < 0 then -i else i)) := rfl
theorem f_tB : tB'.f (.bool p) = some p := rfl
theorem f_lenL : bLen.f [.list ds] = some (.int ds.length) := rfl
theorem f_lenT : bLen.f [.tuple ds] = some (.int ds.length) := rfl
theorem f_list : bList.f [.list ds] = some (.list ds) := rfl
theorem f_listT : bList.f [.tuple ds] = some (.list ds) := rfl
theorem f_tup : bTup.f [.list ds] = some (.tuple ds) := rfl
theorem f_tupT : bTup.f [.tuple ds] = some (.tuple ds) := rfl
theorem f_wSeqL : wSeq.f (.list ds) = some ds := rfl
theorem f_wSeqT : wSeq.f (.tuple ds) = some ds := rfl
theorem f_cutT : sTup.f (.tuple ds) l h = some (.tuple (cutD ds l h)) := rfl
theorem f_cutL : sLst.f (.list ds) l h = some (.list (cutD ds l h)) := rfl
theorem f_catS (hl : x.length + y.length ≤ 100000) : oCatS.f (.str x) (.str y) = some (.str (x ++ y)) := by
  show (if x.length + y.length ≤ 100000 then _ else _) = _
  rw [if_pos hl]
theorem f_revQL : uRevQ.f (.list ds) = some (.list ds.reverse) := rfl
theorem f_revQT : uRevQ.f (.tuple ds) = some (.tuple ds.reverse) := rfl
theorem f_revT : uRevT.f (.tuple ds) = some (.tuple ds.reverse) := rfl
theorem f_revL : uRevL.f (.list ds) = some (.list ds.reverse) := rfl
theorem f_intI : bInt.f [.int i] = some (.int i) := rfl
theorem f_intB : bInt.f [.bool p] = some (.int (if p then 1 else 0)) := rfl
theorem f_odd : oOdd.f (.int i) (.int 1) = some (.int (i % 2)) := rfl
theorem f_notN (d : PyData) : oNotN.f d .none = some (.bool (!isNon d)) := rfl
theorem f_fListL : fList.f [.list ds] = some ds := rfl
theorem f_fListT : fList.f [.tuple ds] = some ds := rfl
theorem f_fRevL : fRevL.f (.list ds) = some ds.reverse := rfl
theorem non_i : isNon (.int i) = false := rfl
theorem non_n : isNon .none = true := rfl
theorem f_neS : oNe.f (.str x) (.str y) = some (.bool (!decide (x = y))) := rfl
theorem asIx_int (n : Nat) : asIx n (.int i) = .opt (ixN n i) := rfl
end
section
variable (env : En) (x : Sl) (d : PyData) (ds : List PyData) (i : Nat) {α β : Type} (a : α) (f : α → Dr β) (k : En → Dr Fl) (t : Dr PyData) (g : Tt) (gs : Ts)
theorem slot_zero : slot (.dat d :: env) 0 = .ret d := rfl
theorem slot_succ : slot (x :: env) (i + 1) = slot env i := rfl
theorem own_zero : ownAt (.own ds :: env) 0 = .ret ds := rfl
theorem own_succ : ownAt (x :: env) (i + 1) = ownAt env i := rfl
theorem box_zero : boxAt (.box :: env) 0 = .ret () := rfl
theorem box_succ : boxAt (x :: env) (i + 1) = boxAt env i := rfl
theorem bind_r : (Dr.ret a).bind f = f a := rfl
theorem pur_r : (Dr.ret a).pur = .ret a := rfl
theorem put_nm : (Tt.nm i).put env d = some (env.set i (.dat d)) := rfl
theorem put_tp : (Tt.tp gs).put env (.tuple ds) = gs.puts env ds := rfl
theorem put_tpL : (Tt.tp gs).put env (.list ds) = gs.puts env ds := rfl
theorem puts_nil : Ts.nil.puts env [] = some env := rfl
theorem puts_cons : (Ts.cons g gs).puts env (d :: ds) = (g.put env d).bind fun env' => gs.puts env' ds := rfl
theorem then_nx : (Fl.nx env).then k = k env := rfl
theorem then_rt : (Fl.rt d).then k = .ret (.rt d) := rfl
theorem then_bk : (Fl.bk env).then k = .ret (.bk env) := rfl
theorem then_ct : (Fl.ct env).then k = .ret (.ct env) := rfl
theorem evT_qY : evT qY env = .ret true := rfl
theorem told_rt : told (.rt d) = .ret d := rfl
theorem told_rtO : told (.rtO ds) = .ret (.list ds) := rfl
theorem then_rtO : (Fl.rtO ds).then k = .ret (.rtO ds) := rfl
theorem put2_c (x y : Sl) (j : Nat) : put2 env i j [x, y] = .ret ((env.set i x).set j y) := rfl
theorem put3_c (x y z : Sl) (j k : Nat) : put3 env i j k [x, y, z] = .ret (((env.set i x).set j y).set k z) := rfl
theorem flat_i (z : Int) : flatR (.int z) = .ret (.int z) := rfl
theorem flat_b (z : Bool) : flatR (.bool z) = .ret (.bool z) := rfl
theorem flat_s (z : Str) : flatR (.str z) = .ret (.str z) := rfl
theorem asLst_l : asLst (.list ds) = .ret ds := rfl
theorem andB_t : andB t (.bool true) = t := rfl
theorem andB_f : andB t (.bool false) = .ret (.bool false) := rfl
theorem orB_t : orB t (.bool true) = .ret (.bool true) := rfl
theorem orB_f : orB t (.bool false) = t := rfl
theorem asInt_i (z : Int) : asInt (.int z) = .ret (some z) := rfl
end
/-! ## loops -/
theorem forL_inv {step : PyData → En → Dr Fl} (I : Nat → En → Prop) {F : En → Prop} : ∀ {its : List PyData} {j : Nat} {env : En}, I j env →
    (∀ i d env, its[i]? = some d → I (j + i) env → ∃ env', (step d env = .ret (.nx env') ∧ I (j + i + 1) env') ∨ (step d env = .ret (.bk env') ∧ F env')) → (∀ env, I (j + its.length) env → F env) →
    ∃ env', forL step its env = .ret (.nx env') ∧ F env'
  | [], j, env, h0, _, hF => ⟨env, rfl, hF env h0⟩
  | d :: r, j, env, h0, hs, hF => by
    obtain ⟨env', h | h⟩ := hs 0 d env rfl h0
    · obtain ⟨e, hI⟩ := h
      obtain ⟨env2, e2, h2⟩ := forL_inv (step := step) I (its := r) (j := j + 1) (env := env') hI (fun i d env hi hI => by
        have := hs (i + 1) d env hi (by rw [show j + (i + 1) = j + 1 + i from by omega]; exact hI)
        rwa [show j + (i + 1) = j + 1 + i from by omega] at this) (fun env h => hF env (by rw [show j + (d :: r).length = j + 1 + r.length from by rw [List.length_cons]; omega]; exact h))
      refine ⟨env2, ?_, h2⟩
      show (step d env).bind _ = _
      rw [e]
      exact e2
    · obtain ⟨e, hI⟩ := h
      refine ⟨env', ?_, hI⟩
      show (step d env).bind _ = _
      rw [e]
      rfl
/-- over typed things, the state told -/
theorem forL_fold {α β : Type} {g : α → PyData} {enc : β → En → Prop} {stp : β → α → β} {step : PyData → En → Dr Fl} : ∀ {xs : List α} {b : β} {env : En}, enc b env →
    (∀ x ∈ xs, ∀ b env, enc b env → ∃ env', step (g x) env = .ret (.nx env') ∧ enc (stp b x) env') → ∃ env', forL step (xs.map g) env = .ret (.nx env') ∧ enc (xs.foldl stp b) env'
  | [], b, env, h0, _ => ⟨env, rfl, h0⟩
  | x :: r, b, env, h0, hs => by
    obtain ⟨env', e, h⟩ := hs x (List.mem_cons_self ..) b env h0
    obtain ⟨env2, e2, h2⟩ := forL_fold (g := g) (enc := enc) (stp := stp) (step := step) (xs := r) (b := stp b x) (env := env') h fun y hy => hs y (List.mem_cons_of_mem _ hy)
    refine ⟨env2, ?_, h2⟩
    show (step (g x) env).bind _ = _
    rw [e]
    exact e2
theorem compr_map {α : Type} {step : PyData → Dr (Option PyData)} {g h : α → PyData} : ∀ {xs : List α}, (∀ x ∈ xs, step (g x) = .ret (some (h x))) → compr step (xs.map g) = .ret (xs.map h)
  | [], _ => rfl
  | x :: r, hs => by
    show (step (g x)).bind _ = _
    rw [hs x (List.mem_cons_self ..)]
    show (compr step (r.map g)).bind _ = _
    rw [compr_map (h := h) fun y hy => hs y (List.mem_cons_of_mem _ hy)]
    rfl
theorem compr_filter {α : Type} {step : PyData → Dr (Option PyData)} {g h : α → PyData} {p : α → Bool} : ∀ {xs : List α}, (∀ x ∈ xs, step (g x) = .ret (if p x = true then some (h x) else none)) → compr step (xs.map g) = .ret ((xs.filter p).map h)
  | [], _ => rfl
  | x :: r, hs => by
    show (step (g x)).bind _ = _
    rw [hs x (List.mem_cons_self ..)]
    show (compr step (r.map g)).bind _ = _
    rw [compr_filter (h := h) (p := p) fun y hy => hs y (List.mem_cons_of_mem _ hy)]
    by_cases hp : p x = true
    · rw [if_pos hp, List.filter_cons_of_pos hp]
      rfl
    · rw [if_neg hp, List.filter_cons_of_neg hp]
      rfl
theorem zip_map {α β : Type} {a : α → PyData} {b : β → PyData} : ∀ (xs : List α) (ys : List β), zipD (xs.map a) (ys.map b) = (xs.zip ys).map fun p => .tuple [a p.1, b p.2]
  | [], _ => rfl
  | _ :: _, [] => rfl
  | x :: xs, y :: ys => by
    show PyData.tuple [a x, b y] :: zipD (xs.map a) (ys.map b) = _
    rw [zip_map xs ys]
    rfl
/-! ## draws -/
namespace Dr
variable {α β : Type}
/-- at most n draws, and Φ of what is told -/
abbrev le (t : Dr α) (n : Nat) (Φ : α → Prop) : Prop := t.ok n fun a _ => Φ a
theorem ok_add (t : Dr α) : ∀ (n r : Nat) (Ψ : α → Nat → Prop), t.ok n Ψ → t.ok (n + r) fun a n' => r ≤ n' ∧ Ψ a (n' - r) := by
  induction t with
  | ret a =>
    intro n r Ψ h
    exact ⟨by omega, by rw [Nat.add_sub_cancel]; exact h⟩
  | bad => exact fun _ _ _ h => h
  | draw m k ih =>
    rintro n r Ψ ⟨n', rfl, h1, h2, h3⟩
    exact ⟨n' + r, by omega, h1, h2, fun j a b => ih j n' r Ψ (h3 j a b)⟩
theorem le_up {t : Dr α} {n m : Nat} {Φ : α → Prop} (h : t.le n Φ) (hn : n ≤ m) : t.le m Φ := by
  have := ok_add t n (m - n) _ h
  rw [show n + (m - n) = m by omega] at this
  exact ok_mono (fun a n h => h.2) this
theorem le_mono {t : Dr α} {n : Nat} {Φ Ψ : α → Prop} (h : t.le n Φ) (hi : ∀ a, Φ a → Ψ a) : t.le n Ψ := ok_mono (fun a n q => hi a q) h
theorem le_bind {t : Dr α} {f : α → Dr β} {n m : Nat} {Φ : α → Prop} {Ψ : β → Prop} (h : t.le n Φ) (hf : ∀ a, Φ a → (f a).le m Ψ) : (t.bind f).le (n + m) Ψ := by
  refine ok_bind.mpr (ok_mono (fun a n' q => ?_) (ok_add t n m _ h))
  exact le_up (hf a q.2) q.1
theorem le_ret {a : α} {n : Nat} {Φ : α → Prop} (h : Φ a) : (ret a).le n Φ := h
theorem le_bind0 {t : Dr α} {f : α → Dr β} {n : Nat} {a : α} {Ψ : β → Prop} (h : t = .ret a) (hf : (f a).le n Ψ) : (t.bind f).le n Ψ := by
  subst h
  exact hf
end Dr
theorem take_le {m : Int} (h1 : 1 ≤ m) (h2 : m < 2 ^ 30) : (takeF [.int m]).le 1 fun d => ∃ i, d = .int i ∧ 0 ≤ i ∧ i < m := ⟨0, rfl, h1, h2, fun j a b => ⟨j, rfl, a, b⟩⟩
theorem compr_le {α : Type} {step : PyData → Dr (Option PyData)} {g : α → PyData} {k : Nat} {Ψ : α → PyData → Prop} : ∀ {xs : List α}, (∀ x ∈ xs, (step (g x)).le k fun o => ∃ v, o = some v ∧ Ψ x v) → (compr step (xs.map g)).le (k * xs.length) fun l => l.length = xs.length ∧ ∀ (i : Nat) x v, xs[i]? = some x → l[i]? = some v → Ψ x v
  | [], _ => ⟨rfl, fun i x v h => by simp at h⟩
  | x :: r, hs => by
    have h2 := compr_le (step := step) (g := g) (k := k) (Ψ := Ψ) fun y hy => hs y (List.mem_cons_of_mem _ hy)
    have e : k * (x :: r).length = k + k * r.length := by rw [List.length_cons, Nat.mul_succ, Nat.add_comm]
    rw [e]
    refine Dr.le_bind (hs x (List.mem_cons_self ..)) fun o ⟨v, eo, hv⟩ => ?_
    subst eo
    refine Dr.le_bind (m := 0) h2 fun l ⟨hl, hp⟩ => ⟨?_, fun i y u hi hu => ?_⟩
    · show (v :: l).length = _
      rw [List.length_cons, List.length_cons, hl]
    · cases i with
      | zero =>
        cases hi
        cases hu
        exact hv
      | succ i => exact hp i y u hi hu
theorem forL_le {step : PyData → En → Dr Fl} {k : Nat} (I : Nat → En → Prop) : ∀ {its : List PyData} {j : Nat} {env : En}, I j env →
    (∀ i d env, its[i]? = some d → I (j + i) env → (step d env).le k fun f => ∃ env', f = .nx env' ∧ I (j + i + 1) env') → (forL step its env).le (k * its.length) fun f => ∃ env', f = .nx env' ∧ I (j + its.length) env'
  | [], j, env, h0, _ => ⟨env, rfl, h0⟩
  | d :: r, j, env, h0, hs => by
    have e : k * (d :: r).length = k + k * r.length := by rw [List.length_cons, Nat.mul_succ, Nat.add_comm]
    rw [e]
    refine Dr.le_bind (hs 0 d env rfl h0) fun f ⟨env', ef, hI⟩ => ?_
    subst ef
    have := forL_le (step := step) (k := k) I (its := r) (j := j + 1) (env := env') hI fun i d env hi hI => by
      have := hs (i + 1) d env hi (by rw [show j + (i + 1) = j + 1 + i from by omega]; exact hI)
      rwa [show j + (i + 1) = j + 1 + i from by omega] at this
    rw [show j + (d :: r).length = j + 1 + r.length from by rw [List.length_cons]; omega]
    exact this
end DP

namespace DP
open PySem PySem.Spec PyProof.Rows L2 ZX DL RT
/-- breaths: by the left hand, in -/
abbrev Br := Bool × Bool
def Br.nm : Br → Str
  | (true, true) => "L+"
  | (true, false) => "L-"
  | (false, true) => "R+"
  | (false, false) => "R-"
theorem inLL (b : Br) : oInS.f (.str b.nm) (.tuple [.str "L+", .str "L-"]) = some (.bool b.1) := by
  rcases b with ⟨_ | _, _ | _⟩ <;> rfl
theorem inIn (b : Br) : oInS.f (.str b.nm) (.tuple [.str "L+", .str "R+"]) = some (.bool b.2) := by
  rcases b with ⟨_ | _, _ | _⟩ <;> rfl
theorem ginIn (b : Br) : ginAt 0 (.str b.nm) = .ret (.bool b.2) := by
  rcases b with ⟨_ | _, _ | _⟩ <;> rfl
theorem inRt (b : Br) : oInS.f (.str b.nm) (.tuple [.str "L+", .str "R-"]) = some (.bool (b.1 == b.2)) := by
  rcases b with ⟨_ | _, _ | _⟩ <;> rfl
def order (b : Br) (n : Nat) : List Nat := if b.1 = true then List.range n else (List.range n).reverse
abbrev ixD (l : List Nat) : List PyData := l.map fun (i : Nat) => PyData.int (i : Int)
theorem reached_eq {r : PyData} {rs : List PyData} (hr : seqF r = some rs) (hl : rs.length ≤ 1000) (b : Br) : sem_reached [r, .str b.nm] = .ret (.list (ixD (order b rs.length))) := by
  have e1 : uListRg.f (.int (rs.length : Int)) = some (.list (ixD (List.range rs.length))) := by
    show (if 0 ≤ (rs.length : Int) ∧ (rs.length : Int) ≤ 16777216 then some (PyData.list (rangeD 0 (rs.length : Int).toNat)) else none) = _
    rw [if_pos ⟨by omega, by omega⟩, Int.toNat_natCast]
    congr 2
    unfold rangeD
    refine List.map_congr_left fun i _ => ?_
    rw [Int.zero_add]
  have e2 : ∀ l, uRevL.f (.list (ixD l)) = some (.list (ixD l.reverse)) := fun l => by
    show some (PyData.list (ixD l).reverse) = _
    rw [← List.map_reverse]
  simp only [sem_reached, a_reached, DP.run, DP.runB, evS, evE, evA, evT, evP, evI, startE, startX, slot_zero, slot_succ, own_zero, own_succ, box_zero, box_succ, bind_r, Dr.bind_assoc, pur_r, put_nm, put_tp, put_tpL, puts_nil, puts_cons, then_nx, then_rt, then_rtO, told_rtO, put2_c, put3_c, evF, evB, flat_i, flat_b, flat_s, asLst_l, f_intI, f_intB, f_odd, f_notN, f_fListL, f_fListT, non_i, non_n, f_neS, then_bk, then_ct, told_rt, evT_qY, andB_t, andB_f, orB_t, orB_f, asInt_i, Dr.opt_some, small, within, List.length_cons, List.length_nil, List.map_cons, List.map_nil, List.cons_append, List.nil_append, List.replicate, List.set_cons_zero, List.set_cons_succ, Tt.vs, Ts.vs, Option.bind_some, Nat.reduceAdd, Nat.reduceSub, Nat.reduceLeDiff, Nat.reduceEqDiff, reduceIte, if_true, if_false, asIx_int, f_add, f_sub, f_lt, f_le, f_gt, f_ge, f_addA, f_subA, f_eqI, f_eqS, f_eqB, f_neI, f_isN, f_ixL, f_ixT, f_neg, f_not, f_min, f_max, f_abs, f_tB, f_lenL, f_lenT, f_list, f_listT, f_tup, f_tupT, f_wSeqL, f_wSeqT, f_cutT, f_cutL, wipeX, List.all_cons, List.all_nil, List.contains_cons, List.elem_nil, Bool.and_true, Bool.true_and, beq_self_eq_true, Bool.or_true, Bool.true_or, Bool.false_eq_true, Option.some.injEq, decide_true, decide_false, Bool.not_true, Bool.not_false, Nat.reduceBEq, Bool.or_false, Bool.false_or, List.append_nil, List.singleton_append, true_and, and_true, and_self, len_seq hr, e1, inLL]
  unfold order
  cases b.1 with
  | true => rfl
  | false =>
    simp only [DP.run, DP.runB, evS, evE, evA, evT, evP, evI, startE, startX, slot_zero, slot_succ, own_zero, own_succ, box_zero, box_succ, bind_r, Dr.bind_assoc, pur_r, put_nm, put_tp, put_tpL, puts_nil, puts_cons, then_nx, then_rt, then_rtO, told_rtO, put2_c, put3_c, evF, evB, flat_i, flat_b, flat_s, asLst_l, f_intI, f_intB, f_odd, f_notN, f_fListL, f_fListT, non_i, non_n, f_neS, then_bk, then_ct, told_rt, evT_qY, andB_t, andB_f, orB_t, orB_f, asInt_i, Dr.opt_some, small, within, List.length_cons, List.length_nil, List.map_cons, List.map_nil, List.cons_append, List.nil_append, List.replicate, List.set_cons_zero, List.set_cons_succ, Tt.vs, Ts.vs, Option.bind_some, Nat.reduceAdd, Nat.reduceSub, Nat.reduceLeDiff, Nat.reduceEqDiff, reduceIte, if_true, if_false, asIx_int, f_add, f_sub, f_lt, f_le, f_gt, f_ge, f_addA, f_subA, f_eqI, f_eqS, f_eqB, f_neI, f_isN, f_ixL, f_ixT, f_neg, f_not, f_min, f_max, f_abs, f_tB, f_lenL, f_lenT, f_list, f_listT, f_tup, f_tupT, f_wSeqL, f_wSeqT, f_cutT, f_cutL, wipeX, List.all_cons, List.all_nil, List.contains_cons, List.elem_nil, Bool.and_true, Bool.true_and, beq_self_eq_true, Bool.or_true, Bool.true_or, Bool.false_eq_true, Option.some.injEq, decide_true, decide_false, Bool.not_true, Bool.not_false, Nat.reduceBEq, Bool.or_false, Bool.false_or, List.append_nil, List.singleton_append, true_and, and_true, and_self, e2]
/-! ## a run -/
/-- one bellows: how much lands, or is taken -/
def cap (s : Bool) (r l : Int) : Int := if s = true then r - l else l
def put1 (s : Bool) (l d : Int) : Int := if s = true then l + d else l - d
def stepI (s : Bool) (rs : List Int) (st : List Int × Int) (i : Nat) : List Int × Int :=
  (st.1.set i (put1 s (st.1.getD i 0) (min st.2 (cap s (rs.getD i 0) (st.1.getD i 0)))), st.2 - min st.2 (cap s (rs.getD i 0) (st.1.getD i 0)))
def Fits (rs ls : List Int) : Prop := ls.length = rs.length ∧ ∀ (i : Nat) (r l : Int), rs[i]? = some r → ls[i]? = some l → 0 ≤ l ∧ l ≤ r
theorem atI_nat' {α : Type} {xs : List α} {i : Nat} {a : α} (h : xs[i]? = some a) : atI xs (i : Int) = some a := atI_nat h
theorem ixN_nat {n i : Nat} (h : i < n) : ixN n (i : Int) = some i := by
  unfold ixN
  rw [if_pos (by omega), if_pos (by omega), Int.toNat_natCast]
theorem set_self {α : Type} {xs : List α} {i : Nat} {a : α} (h : xs[i]? = some a) : xs.set i a = xs := by
  obtain ⟨hi, e⟩ := List.getElem?_eq_some_iff.mp h
  rw [← e]
  exact List.set_getElem_self hi
theorem fits_step {s : Bool} {rs ls : List Int} {n : Int} {i : Nat} (hf : Fits rs ls) (hn : 0 ≤ n) (hi : i < rs.length) : Fits rs (stepI s rs (ls, n) i).1 ∧ 0 ≤ (stepI s rs (ls, n) i).2 := by
  have hl : i < ls.length := by rw [hf.1]; exact hi
  have e1 : rs[i]? = some rs[i] := List.getElem?_eq_getElem hi
  have e2 : ls[i]? = some ls[i] := List.getElem?_eq_getElem hl
  obtain ⟨b1, b2⟩ := hf.2 i _ _ e1 e2
  have g1 : rs.getD i 0 = rs[i] := by rw [List.getD_eq_getElem?_getD, e1]; rfl
  have g2 : ls.getD i 0 = ls[i] := by rw [List.getD_eq_getElem?_getD, e2]; rfl
  unfold stepI
  simp only [g1, g2]
  unfold cap put1
  refine ⟨⟨by rw [List.length_set]; exact hf.1, fun j r l hr hl2 => ?_⟩, by cases s <;> simp <;> omega⟩
  rcases set_of hl2 with ⟨rfl, rfl, _⟩ | ⟨_, h⟩
  · rw [e1] at hr
    cases hr
    cases s <;> simp <;> omega
  · exact hf.2 j r l hr h
/-- nothing is left: nothing changes -/
theorem step_zero {s : Bool} {rs ls : List Int} {i : Nat} (hf : Fits rs ls) (hi : i < rs.length) : stepI s rs (ls, 0) i = (ls, 0) := by
  have hl : i < ls.length := by rw [hf.1]; exact hi
  have e1 : rs[i]? = some rs[i] := List.getElem?_eq_getElem hi
  have e2 : ls[i]? = some ls[i] := List.getElem?_eq_getElem hl
  obtain ⟨b1, b2⟩ := hf.2 i _ _ e1 e2
  have g1 : rs.getD i 0 = rs[i] := by rw [List.getD_eq_getElem?_getD, e1]; rfl
  have g2 : ls.getD i 0 = ls[i] := by rw [List.getD_eq_getElem?_getD, e2]; rfl
  unfold stepI
  simp only [g1, g2]
  have hm : min 0 (cap s rs[i] ls[i]) = 0 := by
    unfold cap
    cases s <;> simp <;> omega
  rw [hm]
  have hp : put1 s ls[i] 0 = ls[i] := by
    unfold put1
    cases s <;> simp
  rw [hp, set_self e2]
  rfl
theorem fold_zero {s : Bool} {rs ls : List Int} (hf : Fits rs ls) : ∀ (is : List Nat), (∀ i ∈ is, i < rs.length) → is.foldl (stepI s rs) (ls, 0) = (ls, 0)
  | [], _ => rfl
  | i :: is, h => by
    rw [List.foldl_cons, step_zero hf (h i (List.mem_cons_self ..))]
    exact fold_zero hf is fun j hj => h j (List.mem_cons_of_mem _ hj)
def runI (b : Br) (rs ls : List Int) (n : Int) : List Int × Int := (order b rs.length).foldl (stepI b.2 rs) (ls, n)
theorem order_lt {b : Br} {n i : Nat} (h : i ∈ order b n) : i < n := by
  unfold order at h
  split at h
  · exact List.mem_range.mp h
  · exact List.mem_range.mp (List.mem_reverse.mp h)
theorem run_done_eq {r st : PyData} {rs ls : List Int} {n : Int} (hr : seqF r = some (dI rs)) (hs : seqF st = some (dI ls)) (hf : Fits rs ls) (hl : rs.length ≤ 1000) (hn : 0 ≤ n) (b : Br) :
    sem_run_done [r, st, .str b.nm, .int n] = .ret (.tuple [lN (runI b rs ls n).1, .int (runI b rs ls n).2]) := by
  have eR := reached_eq hr (by rw [List.length_map]; exact hl) b
  rw [List.length_map] at eR
  have key : ∃ env', forL (lstep (evS b_run_done_1) (.nm 7)) (ixD (order b rs.length)) [.dat r, .dat st, .dat (.str b.nm), .dat (.int n), .own (dI ls), .dat (.bool b.2), .dat (.int n), .unk, .unk] = .ret (.nx env') ∧
      ∃ u v, env' = [.dat r, .dat st, .dat (.str b.nm), .dat (.int n), .own (dI (runI b rs ls n).1), .dat (.bool b.2), .dat (.int (runI b rs ls n).2), u, v] := by
    refine forL_inv (fun j env => ∃ u v, Fits rs ((order b rs.length).take j |>.foldl (stepI b.2 rs) (ls, n)).1 ∧ 0 ≤ ((order b rs.length).take j |>.foldl (stepI b.2 rs) (ls, n)).2 ∧ env = [.dat r, .dat st, .dat (.str b.nm), .dat (.int n), .own (dI ((order b rs.length).take j |>.foldl (stepI b.2 rs) (ls, n)).1), .dat (.bool b.2), .dat (.int ((order b rs.length).take j |>.foldl (stepI b.2 rs) (ls, n)).2), u, v]) (j := 0) ⟨.unk, .unk, hf, hn, rfl⟩ ?step ?done
    case done =>
      rintro env ⟨u, v, _, _, rfl⟩
      refine ⟨u, v, ?_⟩
      rw [Nat.zero_add, List.length_map, List.take_length]
      rfl
    case step =>
      rintro j d env hd ⟨u, v, hF, hN, rfl⟩
      rw [Nat.zero_add] at hF hN ⊢
      rw [List.getElem?_map] at hd
      obtain ⟨i, hi, rfl⟩ := Option.map_eq_some_iff.mp hd
      have hlt := order_lt (List.mem_of_getElem? hi)
      obtain ⟨L, m, eS⟩ : ∃ L m, ((order b rs.length).take j |>.foldl (stepI b.2 rs) (ls, n)) = (L, m) := ⟨_, _, rfl⟩
      rw [eS] at hF hN ⊢
      have hL : i < L.length := by rw [hF.1]; exact hlt
      have nxt : ((order b rs.length).take (j + 1) |>.foldl (stepI b.2 rs) (ls, n)) = stepI b.2 rs (L, m) i := by
        rw [List.take_add_one, hi, List.foldl_append, eS]
        rfl
      have e1 : rs[i]? = some rs[i] := List.getElem?_eq_getElem hlt
      have e2 : L[i]? = some L[i] := List.getElem?_eq_getElem hL
      have a1 : oIxQ.f r (.int (i : Int)) = some (.int rs[i]) := by
        rw [ixQ_seq hr, atI_nat' (a := .int rs[i]) (by rw [List.getElem?_map, e1]; rfl)]
      have a2 : atI (dI L) (i : Int) = some (.int L[i]) := atI_nat' (by rw [List.getElem?_map, e2]; rfl)
      have a3 : ixN (dI L).length (i : Int) = some i := ixN_nat (by rw [List.length_map]; exact hL)
      have a4 : (dI L)[i]? = some (.int L[i]) := by rw [List.getElem?_map, e2]; rfl
      obtain ⟨f1, f2⟩ := fits_step (s := b.2) hF hN hlt
      by_cases hz : m = 0
      · subst hz
        refine ⟨[.dat r, .dat st, .dat (.str b.nm), .dat (.int n), .own (dI L), .dat (.bool b.2), .dat (.int 0), .dat (.int (i : Int)), v], .inr ⟨?_, ?_⟩⟩
        · simp only [lstep, b_run_done_1, DP.run, DP.runB, evS, evE, evA, evT, evP, evI, startE, startX, slot_zero, slot_succ, own_zero, own_succ, box_zero, box_succ, bind_r, Dr.bind_assoc, pur_r, put_nm, put_tp, put_tpL, puts_nil, puts_cons, then_nx, then_rt, then_rtO, told_rtO, put2_c, put3_c, evF, evB, flat_i, flat_b, flat_s, asLst_l, f_intI, f_intB, f_odd, f_notN, f_fListL, f_fListT, non_i, non_n, f_neS, then_bk, then_ct, told_rt, evT_qY, andB_t, andB_f, orB_t, orB_f, asInt_i, Dr.opt_some, small, within, List.length_cons, List.length_nil, List.map_cons, List.map_nil, List.cons_append, List.nil_append, List.replicate, List.set_cons_zero, List.set_cons_succ, Tt.vs, Ts.vs, Option.bind_some, Nat.reduceAdd, Nat.reduceSub, Nat.reduceLeDiff, Nat.reduceEqDiff, reduceIte, if_true, if_false, asIx_int, f_add, f_sub, f_lt, f_le, f_gt, f_ge, f_addA, f_subA, f_eqI, f_eqS, f_eqB, f_neI, f_isN, f_ixL, f_ixT, f_neg, f_not, f_min, f_max, f_abs, f_tB, f_lenL, f_lenT, f_list, f_listT, f_tup, f_tupT, f_wSeqL, f_wSeqT, f_cutT, f_cutL, wipeX, List.all_cons, List.all_nil, List.contains_cons, List.elem_nil, Bool.and_true, Bool.true_and, beq_self_eq_true, Bool.or_true, Bool.true_or, Bool.false_eq_true, Option.some.injEq, decide_true, decide_false, Bool.not_true, Bool.not_false, Nat.reduceBEq, Bool.or_false, Bool.false_or, List.append_nil, List.singleton_append, true_and, and_true, and_self]
        · refine ⟨.dat (.int (i : Int)), v, ?_⟩
          have : runI b rs ls n = (L, 0) := by
            unfold runI
            rw [← List.take_append_drop j (order b rs.length), List.foldl_append, eS]
            exact fold_zero hF _ fun k hk => order_lt (List.mem_of_mem_drop hk)
          rw [this]
      · refine ⟨[.dat r, .dat st, .dat (.str b.nm), .dat (.int n), .own (dI (stepI b.2 rs (L, m) i).1), .dat (.bool b.2), .dat (.int (stepI b.2 rs (L, m) i).2), .dat (.int (i : Int)), .dat (.int (min m (cap b.2 rs[i] L[i])))], .inl ⟨?_, ?_⟩⟩
        · have g1 : rs.getD i 0 = rs[i] := by rw [List.getD_eq_getElem?_getD, e1]; rfl
          have g2 : L.getD i 0 = L[i] := by rw [List.getD_eq_getElem?_getD, e2]; rfl
          have hmin : ∀ c : Int, (if c < m then c else m) = min m c := fun c => by
            by_cases h : c < m
            · rw [if_pos h]; omega
            · rw [if_neg h]; omega
          have hst : stepI b.2 rs (L, m) i = (L.set i (put1 b.2 L[i] (min m (cap b.2 rs[i] L[i]))), m - min m (cap b.2 rs[i] L[i])) := by
            unfold stepI
            simp only [g1, g2]
          rw [hst]
          cases hb2 : b.2 with
          | true => simp only [lstep, b_run_done_1, DP.run, DP.runB, evS, evE, evA, evT, evP, evI, startE, startX, slot_zero, slot_succ, own_zero, own_succ, box_zero, box_succ, bind_r, Dr.bind_assoc, pur_r, put_nm, put_tp, put_tpL, puts_nil, puts_cons, then_nx, then_rt, then_rtO, told_rtO, put2_c, put3_c, evF, evB, flat_i, flat_b, flat_s, asLst_l, f_intI, f_intB, f_odd, f_notN, f_fListL, f_fListT, non_i, non_n, f_neS, then_bk, then_ct, told_rt, evT_qY, andB_t, andB_f, orB_t, orB_f, asInt_i, Dr.opt_some, small, within, List.length_cons, List.length_nil, List.map_cons, List.map_nil, List.cons_append, List.nil_append, List.replicate, List.set_cons_zero, List.set_cons_succ, Tt.vs, Ts.vs, Option.bind_some, Nat.reduceAdd, Nat.reduceSub, Nat.reduceLeDiff, Nat.reduceEqDiff, reduceIte, if_true, if_false, asIx_int, f_add, f_sub, f_lt, f_le, f_gt, f_ge, f_addA, f_subA, f_eqI, f_eqS, f_eqB, f_neI, f_isN, f_ixL, f_ixT, f_neg, f_not, f_min, f_max, f_abs, f_tB, f_lenL, f_lenT, f_list, f_listT, f_tup, f_tupT, f_wSeqL, f_wSeqT, f_cutT, f_cutL, wipeX, List.all_cons, List.all_nil, List.contains_cons, List.elem_nil, Bool.and_true, Bool.true_and, beq_self_eq_true, Bool.or_true, Bool.true_or, Bool.false_eq_true, Option.some.injEq, decide_true, decide_false, Bool.not_true, Bool.not_false, Nat.reduceBEq, Bool.or_false, Bool.false_or, List.append_nil, List.singleton_append, true_and, and_true, and_self, a1, a2, a3, a4, hz, hmin, cap, put1, List.map_set]
          | false => simp only [lstep, b_run_done_1, DP.run, DP.runB, evS, evE, evA, evT, evP, evI, startE, startX, slot_zero, slot_succ, own_zero, own_succ, box_zero, box_succ, bind_r, Dr.bind_assoc, pur_r, put_nm, put_tp, put_tpL, puts_nil, puts_cons, then_nx, then_rt, then_rtO, told_rtO, put2_c, put3_c, evF, evB, flat_i, flat_b, flat_s, asLst_l, f_intI, f_intB, f_odd, f_notN, f_fListL, f_fListT, non_i, non_n, f_neS, then_bk, then_ct, told_rt, evT_qY, andB_t, andB_f, orB_t, orB_f, asInt_i, Dr.opt_some, small, within, List.length_cons, List.length_nil, List.map_cons, List.map_nil, List.cons_append, List.nil_append, List.replicate, List.set_cons_zero, List.set_cons_succ, Tt.vs, Ts.vs, Option.bind_some, Nat.reduceAdd, Nat.reduceSub, Nat.reduceLeDiff, Nat.reduceEqDiff, reduceIte, if_true, if_false, asIx_int, f_add, f_sub, f_lt, f_le, f_gt, f_ge, f_addA, f_subA, f_eqI, f_eqS, f_eqB, f_neI, f_isN, f_ixL, f_ixT, f_neg, f_not, f_min, f_max, f_abs, f_tB, f_lenL, f_lenT, f_list, f_listT, f_tup, f_tupT, f_wSeqL, f_wSeqT, f_cutT, f_cutL, wipeX, List.all_cons, List.all_nil, List.contains_cons, List.elem_nil, Bool.and_true, Bool.true_and, beq_self_eq_true, Bool.or_true, Bool.true_or, Bool.false_eq_true, Option.some.injEq, decide_true, decide_false, Bool.not_true, Bool.not_false, Nat.reduceBEq, Bool.or_false, Bool.false_or, List.append_nil, List.singleton_append, true_and, and_true, and_self, a1, a2, a3, a4, hz, hmin, cap, put1, List.map_set, Int.sub_eq_add_neg]
        · rw [nxt]
          exact ⟨_, _, f1, f2, rfl⟩
  obtain ⟨env', e, u, v, rfl⟩ := key
  simp only [sem_run_done, a_run_done, DP.run, DP.runB, evS, evE, evA, evT, evP, evI, startE, startX, slot_zero, slot_succ, own_zero, own_succ, box_zero, box_succ, bind_r, Dr.bind_assoc, pur_r, put_nm, put_tp, put_tpL, puts_nil, puts_cons, then_nx, then_rt, then_rtO, told_rtO, put2_c, put3_c, evF, evB, flat_i, flat_b, flat_s, asLst_l, f_intI, f_intB, f_odd, f_notN, f_fListL, f_fListT, non_i, non_n, f_neS, then_bk, then_ct, told_rt, evT_qY, andB_t, andB_f, orB_t, orB_f, asInt_i, Dr.opt_some, small, within, List.length_cons, List.length_nil, List.map_cons, List.map_nil, List.cons_append, List.nil_append, List.replicate, List.set_cons_zero, List.set_cons_succ, Tt.vs, Ts.vs, Option.bind_some, Nat.reduceAdd, Nat.reduceSub, Nat.reduceLeDiff, Nat.reduceEqDiff, reduceIte, if_true, if_false, asIx_int, f_add, f_sub, f_lt, f_le, f_gt, f_ge, f_addA, f_subA, f_eqI, f_eqS, f_eqB, f_neI, f_isN, f_ixL, f_ixT, f_neg, f_not, f_min, f_max, f_abs, f_tB, f_lenL, f_lenT, f_list, f_listT, f_tup, f_tupT, f_wSeqL, f_wSeqT, f_cutT, f_cutL, wipeX, List.all_cons, List.all_nil, List.contains_cons, List.elem_nil, Bool.and_true, Bool.true_and, beq_self_eq_true, Bool.or_true, Bool.true_or, Bool.false_eq_true, Option.some.injEq, decide_true, decide_false, Bool.not_true, Bool.not_false, Nat.reduceBEq, Bool.or_false, Bool.false_or, List.append_nil, List.singleton_append, true_and, and_true, and_self, asSeq_seq hs, ginIn, eR, e]
end DP

namespace DP
open PySem PySem.Spec PyProof.Rows L2 ZX DL RT
/-! ## runs, from the hand's side -/
/-- the left hand: the first bellows first -/
def runL (s : Bool) : List Int → List Int → Int → List Int × Int
  | r :: rs, l :: ls, n => (put1 s l (min n (cap s r l)) :: (runL s rs ls (n - min n (cap s r l))).1, (runL s rs ls (n - min n (cap s r l))).2)
  | _, _, n => ([], n)
/-- the right hand: the last first -/
def runR (s : Bool) : List Int → List Int → Int → List Int × Int
  | r :: rs, l :: ls, n => (put1 s l (min (runR s rs ls n).2 (cap s r l)) :: (runR s rs ls n).1, (runR s rs ls n).2 - min (runR s rs ls n).2 (cap s r l))
  | _, _, n => ([], n)
def runM (b : Br) (rs ls : List Int) (n : Int) : List Int × Int := if b.1 = true then runL b.2 rs ls n else runR b.2 rs ls n
theorem fold_succ {s : Bool} {r : Int} {rs : List Int} : ∀ (is : List Nat) (l : Int) (ls : List Int) (n : Int), (is.map Nat.succ).foldl (stepI s (r :: rs)) (l :: ls, n) = (l :: (is.foldl (stepI s rs) (ls, n)).1, (is.foldl (stepI s rs) (ls, n)).2)
  | [], _, _, _ => rfl
  | i :: is, l, ls, n => by
    rw [List.map_cons, List.foldl_cons, List.foldl_cons]
    have e : stepI s (r :: rs) (l :: ls, n) i.succ = (l :: (stepI s rs (ls, n) i).1, (stepI s rs (ls, n) i).2) := by
      unfold stepI
      simp only [List.getD_cons_succ, Nat.succ_eq_add_one, List.set_cons_succ]
    rw [e, fold_succ is l]
theorem runI_eq (b : Br) : ∀ (rs ls : List Int) (n : Int), ls.length = rs.length → runI b rs ls n = runM b rs ls n := by
  unfold runI runM order
  cases b.1 with
  | true =>
    simp only [if_true]
    intro rs
    induction rs with
    | nil =>
      intro ls n h
      have : ls = [] := List.eq_nil_of_length_eq_zero h
      subst this
      rfl
    | cons r rs ih =>
      intro ls n h
      cases ls with
      | nil => cases h
      | cons l ls =>
        rw [List.length_cons, List.range_succ_eq_map, List.foldl_cons]
        have e : stepI b.2 (r :: rs) (l :: ls, n) 0 = (put1 b.2 l (min n (cap b.2 r l)) :: ls, n - min n (cap b.2 r l)) := rfl
        rw [e, fold_succ, ih ls _ (by simpa using h)]
        rfl
  | false =>
    simp only [Bool.false_eq_true, if_false]
    intro rs
    induction rs with
    | nil =>
      intro ls n h
      have : ls = [] := List.eq_nil_of_length_eq_zero h
      subst this
      rfl
    | cons r rs ih =>
      intro ls n h
      cases ls with
      | nil => cases h
      | cons l ls =>
        rw [List.length_cons, List.range_succ_eq_map, List.reverse_cons, List.foldl_append, ← List.map_reverse, fold_succ, ih ls _ (by simpa using h)]
        rfl
/-- each in its room -/
inductive Fit : List Int → List Int → Prop
  | nil : Fit [] []
  | cons {r l : Int} {rs ls : List Int} : 0 ≤ l → l ≤ r → Fit rs ls → Fit (r :: rs) (l :: ls)
theorem Fit.len : ∀ {rs ls : List Int}, Fit rs ls → ls.length = rs.length
  | _, _, .nil => rfl
  | _, _, .cons _ _ h => congrArg Nat.succ h.len
theorem fit_iff : ∀ {rs ls : List Int}, Fit rs ls ↔ Fits rs ls
  | [], [] => ⟨fun _ => ⟨rfl, fun i r l h => by simp at h⟩, fun _ => .nil⟩
  | [], _ :: _ => ⟨fun h => (nomatch h), fun h => by cases h.1⟩
  | _ :: _, [] => ⟨fun h => (nomatch h), fun h => by cases h.1⟩
  | r :: rs, l :: ls => by
    constructor
    · rintro (_ | ⟨h1, h2, h⟩)
      obtain ⟨a, b⟩ := fit_iff.mp h
      refine ⟨congrArg Nat.succ a, fun i x y hx hy => ?_⟩
      cases i with
      | zero =>
        cases hx
        cases hy
        exact ⟨h1, h2⟩
      | succ i => exact b i x y hx hy
    · rintro ⟨a, b⟩
      obtain ⟨h1, h2⟩ := b 0 r l rfl rfl
      exact .cons h1 h2 (fit_iff.mpr ⟨by simpa using a, fun i x y hx hy => b (i + 1) x y hx hy⟩)
theorem cap_nn {s : Bool} {r l : Int} (h1 : 0 ≤ l) (h2 : l ≤ r) : 0 ≤ cap s r l := by
  unfold cap
  cases s <;> simp <;> omega
theorem put_fit {s : Bool} {r l d : Int} (h1 : 0 ≤ l) (h2 : l ≤ r) (d0 : 0 ≤ d) (d1 : d ≤ cap s r l) : 0 ≤ put1 s l d ∧ put1 s l d ≤ r := by
  unfold cap at d1
  unfold put1
  cases s <;> simp at d1 ⊢ <;> omega
theorem runL_fit {s : Bool} : ∀ {rs ls : List Int} {n : Int}, Fit rs ls → 0 ≤ n → Fit rs (runL s rs ls n).1 ∧ 0 ≤ (runL s rs ls n).2 ∧ (runL s rs ls n).2 ≤ n
  | _, _, n, .nil, hn => ⟨.nil, hn, Int.le_refl _⟩
  | r :: rs, l :: ls, n, .cons h1 h2 h, hn => by
    have hc := cap_nn (s := s) h1 h2
    obtain ⟨a, b, c⟩ := runL_fit (s := s) (n := n - min n (cap s r l)) h (by omega)
    obtain ⟨p1, p2⟩ := put_fit (s := s) (d := min n (cap s r l)) h1 h2 (by omega) (by omega)
    exact ⟨.cons p1 p2 a, b, by show (runL s rs ls (n - min n (cap s r l))).2 ≤ n; omega⟩
theorem runR_fit {s : Bool} : ∀ {rs ls : List Int} {n : Int}, Fit rs ls → 0 ≤ n → Fit rs (runR s rs ls n).1 ∧ 0 ≤ (runR s rs ls n).2 ∧ (runR s rs ls n).2 ≤ n
  | _, _, n, .nil, hn => ⟨.nil, hn, Int.le_refl _⟩
  | r :: rs, l :: ls, n, .cons h1 h2 h, hn => by
    have hc := cap_nn (s := s) h1 h2
    obtain ⟨a, b, c⟩ := runR_fit (s := s) (n := n) h hn
    obtain ⟨p1, p2⟩ := put_fit (s := s) (d := min (runR s rs ls n).2 (cap s r l)) h1 h2 (by omega) (by omega)
    refine ⟨.cons p1 p2 a, ?_, ?_⟩
    · show 0 ≤ (runR s rs ls n).2 - min (runR s rs ls n).2 (cap s r l)
      omega
    · show (runR s rs ls n).2 - min (runR s rs ls n).2 (cap s r l) ≤ n
      omega
theorem runM_fit {b : Br} {rs ls : List Int} {n : Int} (h : Fit rs ls) (hn : 0 ≤ n) : Fit rs (runM b rs ls n).1 ∧ 0 ≤ (runM b rs ls n).2 ∧ (runM b rs ls n).2 ≤ n := by
  unfold runM
  split
  · exact runL_fit h hn
  · exact runR_fit h hn
/-- what comes to lie, or is taken -/
theorem runL_sum {s : Bool} : ∀ {rs ls : List Int} {n : Int}, Fit rs ls → (runL s rs ls n).1.sum = put1 s ls.sum (n - (runL s rs ls n).2)
  | _, _, n, .nil => by
    show (0 : Int) = put1 s 0 (n - n)
    unfold put1
    cases s <;> simp
  | r :: rs, l :: ls, n, .cons h1 h2 h => by
    have := runL_sum (s := s) (n := n - min n (cap s r l)) h
    show put1 s l (min n (cap s r l)) + (runL s rs ls (n - min n (cap s r l))).1.sum = put1 s (l + ls.sum) (n - (runL s rs ls (n - min n (cap s r l))).2)
    rw [this]
    unfold put1
    cases s <;> simp <;> omega
theorem runR_sum {s : Bool} : ∀ {rs ls : List Int} {n : Int}, Fit rs ls → (runR s rs ls n).1.sum = put1 s ls.sum (n - (runR s rs ls n).2)
  | _, _, n, .nil => by
    show (0 : Int) = put1 s 0 (n - n)
    unfold put1
    cases s <;> simp
  | r :: rs, l :: ls, n, .cons h1 h2 h => by
    have := runR_sum (s := s) (n := n) h
    show put1 s l (min (runR s rs ls n).2 (cap s r l)) + (runR s rs ls n).1.sum = put1 s (l + ls.sum) (n - ((runR s rs ls n).2 - min (runR s rs ls n).2 (cap s r l)))
    rw [this]
    unfold put1
    cases s <;> simp <;> omega
theorem runM_sum {b : Br} {rs ls : List Int} {n : Int} (h : Fit rs ls) : (runM b rs ls n).1.sum = put1 b.2 ls.sum (n - (runM b rs ls n).2) := by
  unfold runM
  split
  · exact runL_sum h
  · exact runR_sum h
/-! ## words -/
abbrev Wd' := List (Br × Int)
def rnD (x : Br × Int) : PyData := .tuple [.str x.1.nm, .int x.2]
abbrev wD (w : Wd') : List PyData := w.map rnD
def WOk (w : Wd') : Prop := ∀ x ∈ w, 0 ≤ x.2
def hix : Br → Nat
  | (false, true) => 0
  | (false, false) => 1
  | (true, true) => 2
  | (true, false) => 3
theorem gd_hix (b : Br) : gdAt 0 (.str b.nm) = .ret (.int (hix b : Int)) := by
  rcases b with ⟨_ | _, _ | _⟩ <;> rfl
def wstep (rs : List Int) (st : List Int × List Int) (x : Br × Int) : List Int × List Int := ((runM x.1 rs st.1 x.2).1, st.2.set (hix x.1) (st.2.getD (hix x.1) 0 + (runM x.1 rs st.1 x.2).2))
def wordM (rs ls : List Int) (w : Wd') : List Int × List Int := w.foldl (wstep rs) (ls, [0, 0, 0, 0])
theorem hix_lt (b : Br) : hix b < 4 := by
  rcases b with ⟨_ | _, _ | _⟩ <;> decide
theorem run_done_eq' {r st : PyData} {rs ls : List Int} {n : Int} (hr : seqF r = some (dI rs)) (hs : seqF st = some (dI ls)) (hf : Fit rs ls) (hl : rs.length ≤ 1000) (hn : 0 ≤ n) (b : Br) :
    sem_run_done [r, st, .str b.nm, .int n] = .ret (.tuple [lN (runM b rs ls n).1, .int (runM b rs ls n).2]) := by
  rw [run_done_eq hr hs (fit_iff.mp hf) hl hn b, runI_eq b rs ls n hf.len]
theorem word_done_eq {r st wd : PyData} {rs ls : List Int} {w : Wd'} (hr : seqF r = some (dI rs)) (hs : seqF st = some (dI ls)) (hw : seqF wd = some (wD w)) (hf : Fit rs ls) (hl : rs.length ≤ 1000) (ho : WOk w) :
    sem_word_done [r, st, wd] = .ret (.tuple [tN (wordM rs ls w).1, tN (wordM rs ls w).2]) := by
  have key : ∃ env', forL (lstep (evS b_word_done_1) (.tp (.cons (.nm 5) (.cons (.nm 6) .nil)))) (w.map rnD) [.dat r, .dat st, .dat wd, .dat (.list (dI ls)), .own [.int 0, .int 0, .int 0, .int 0], .unk, .unk, .unk] = .ret (.nx env') ∧
      (Fit rs (wordM rs ls w).1 ∧ (wordM rs ls w).2.length = 4 ∧ ∃ a b c, env' = [.dat r, .dat st, .dat wd, .dat (lN (wordM rs ls w).1), .own (dI (wordM rs ls w).2), a, b, c]) := by
    refine forL_fold (enc := fun q env => Fit rs q.1 ∧ q.2.length = 4 ∧ ∃ a b c, env = [.dat r, .dat st, .dat wd, .dat (lN q.1), .own (dI q.2), a, b, c]) (stp := wstep rs) (b := (ls, [0, 0, 0, 0])) ⟨hf, rfl, .unk, .unk, .unk, rfl⟩ ?_
    rintro x hx ⟨L, cs⟩ env ⟨hF, hC, a, b, c, rfl⟩
    have hn := ho x hx
    have e1 := run_done_eq' (st := lN L) hr rfl hF hl hn x.1
    have hi := hix_lt x.1
    have h4 : hix x.1 < cs.length := by rw [hC]; exact hi
    have g1 : cs[hix x.1]? = some cs[hix x.1] := List.getElem?_eq_getElem h4
    have g2 : cs.getD (hix x.1) 0 = cs[hix x.1] := by rw [List.getD_eq_getElem?_getD, g1]; rfl
    have a3 : ixN (dI cs).length (hix x.1 : Int) = some (hix x.1) := ixN_nat (by rw [List.length_map]; exact h4)
    have a4 : (dI cs)[hix x.1]? = some (.int cs[hix x.1]) := by rw [List.getElem?_map, g1]; rfl
    refine ⟨[.dat r, .dat st, .dat wd, .dat (lN (wstep rs (L, cs) x).1), .own (dI (wstep rs (L, cs) x).2), .dat (.str x.1.nm), .dat (.int x.2), .dat (.int (runM x.1 rs L x.2).2)], ?_, (runM_fit hF hn).1, by show (cs.set _ _).length = 4; rw [List.length_set]; exact hC, _, _, _, rfl⟩
    unfold wstep
    simp only [lstep, b_word_done_1, rnD, DP.run, DP.runB, evS, evE, evA, evT, evP, evI, startE, startX, slot_zero, slot_succ, own_zero, own_succ, box_zero, box_succ, bind_r, Dr.bind_assoc, pur_r, put_nm, put_tp, put_tpL, puts_nil, puts_cons, then_nx, then_rt, then_rtO, told_rtO, put2_c, put3_c, evF, evB, flat_i, flat_b, flat_s, asLst_l, f_intI, f_intB, f_odd, f_notN, f_fListL, f_fListT, non_i, non_n, f_neS, then_bk, then_ct, told_rt, evT_qY, andB_t, andB_f, orB_t, orB_f, asInt_i, Dr.opt_some, small, within, List.length_cons, List.length_nil, List.map_cons, List.map_nil, List.cons_append, List.nil_append, List.replicate, List.set_cons_zero, List.set_cons_succ, Tt.vs, Ts.vs, Option.bind_some, Nat.reduceAdd, Nat.reduceSub, Nat.reduceLeDiff, Nat.reduceEqDiff, reduceIte, if_true, if_false, asIx_int, f_add, f_sub, f_lt, f_le, f_gt, f_ge, f_addA, f_subA, f_eqI, f_eqS, f_eqB, f_neI, f_isN, f_ixL, f_ixT, f_neg, f_not, f_min, f_max, f_abs, f_tB, f_lenL, f_lenT, f_list, f_listT, f_tup, f_tupT, f_wSeqL, f_wSeqT, f_cutT, f_cutL, wipeX, List.all_cons, List.all_nil, List.contains_cons, List.elem_nil, Bool.and_true, Bool.true_and, beq_self_eq_true, Bool.or_true, Bool.true_or, Bool.false_eq_true, Option.some.injEq, decide_true, decide_false, Bool.not_true, Bool.not_false, Nat.reduceBEq, Bool.or_false, Bool.false_or, List.append_nil, List.singleton_append, true_and, and_true, and_self, e1, gd_hix, a3, a4, g2, List.map_set]
  obtain ⟨env', e, hF, hC, a, b, c, rfl⟩ := key
  have ew : wSeq.f wd = some (w.map rnD) := hw
  simp only [sem_word_done, a_word_done, DP.run, DP.runB, evS, evE, evA, evT, evP, evI, startE, startX, slot_zero, slot_succ, own_zero, own_succ, box_zero, box_succ, bind_r, Dr.bind_assoc, pur_r, put_nm, put_tp, put_tpL, puts_nil, puts_cons, then_nx, then_rt, then_rtO, told_rtO, put2_c, put3_c, evF, evB, flat_i, flat_b, flat_s, asLst_l, f_intI, f_intB, f_odd, f_notN, f_fListL, f_fListT, non_i, non_n, f_neS, then_bk, then_ct, told_rt, evT_qY, andB_t, andB_f, orB_t, orB_f, asInt_i, Dr.opt_some, small, within, List.length_cons, List.length_nil, List.map_cons, List.map_nil, List.cons_append, List.nil_append, List.replicate, List.set_cons_zero, List.set_cons_succ, Tt.vs, Ts.vs, Option.bind_some, Nat.reduceAdd, Nat.reduceSub, Nat.reduceLeDiff, Nat.reduceEqDiff, reduceIte, if_true, if_false, asIx_int, f_add, f_sub, f_lt, f_le, f_gt, f_ge, f_addA, f_subA, f_eqI, f_eqS, f_eqB, f_neI, f_isN, f_ixL, f_ixT, f_neg, f_not, f_min, f_max, f_abs, f_tB, f_lenL, f_lenT, f_list, f_listT, f_tup, f_tupT, f_wSeqL, f_wSeqT, f_cutT, f_cutL, wipeX, List.all_cons, List.all_nil, List.contains_cons, List.elem_nil, Bool.and_true, Bool.true_and, beq_self_eq_true, Bool.or_true, Bool.true_or, Bool.false_eq_true, Option.some.injEq, decide_true, decide_false, Bool.not_true, Bool.not_false, Nat.reduceBEq, Bool.or_false, Bool.false_or, List.append_nil, List.singleton_append, true_and, and_true, and_self, list_seq hs, ew, e]
theorem breathed_eq {r st wd : PyData} {rs ls : List Int} {w : Wd'} (hr : seqF r = some (dI rs)) (hs : seqF st = some (dI ls)) (hw : seqF wd = some (wD w)) (hf : Fit rs ls) (hl : rs.length ≤ 1000) (ho : WOk w) :
    sem_breathed [r, st, wd] = .ret (tN (wordM rs ls w).1) := by
  simp only [sem_breathed, a_breathed, DP.run, DP.runB, evS, evE, evA, evT, evP, evI, startE, startX, slot_zero, slot_succ, own_zero, own_succ, box_zero, box_succ, bind_r, Dr.bind_assoc, pur_r, put_nm, put_tp, put_tpL, puts_nil, puts_cons, then_nx, then_rt, then_rtO, told_rtO, put2_c, put3_c, evF, evB, flat_i, flat_b, flat_s, asLst_l, f_intI, f_intB, f_odd, f_notN, f_fListL, f_fListT, non_i, non_n, f_neS, then_bk, then_ct, told_rt, evT_qY, andB_t, andB_f, orB_t, orB_f, asInt_i, Dr.opt_some, small, within, List.length_cons, List.length_nil, List.map_cons, List.map_nil, List.cons_append, List.nil_append, List.replicate, List.set_cons_zero, List.set_cons_succ, Tt.vs, Ts.vs, Option.bind_some, Nat.reduceAdd, Nat.reduceSub, Nat.reduceLeDiff, Nat.reduceEqDiff, reduceIte, if_true, if_false, asIx_int, f_add, f_sub, f_lt, f_le, f_gt, f_ge, f_addA, f_subA, f_eqI, f_eqS, f_eqB, f_neI, f_isN, f_ixL, f_ixT, f_neg, f_not, f_min, f_max, f_abs, f_tB, f_lenL, f_lenT, f_list, f_listT, f_tup, f_tupT, f_wSeqL, f_wSeqT, f_cutT, f_cutL, wipeX, List.all_cons, List.all_nil, List.contains_cons, List.elem_nil, Bool.and_true, Bool.true_and, beq_self_eq_true, Bool.or_true, Bool.true_or, Bool.false_eq_true, Option.some.injEq, decide_true, decide_false, Bool.not_true, Bool.not_false, Nat.reduceBEq, Bool.or_false, Bool.false_or, List.append_nil, List.singleton_append, true_and, and_true, and_self, word_done_eq hr hs hw hf hl ho]
theorem heard_eq {r st wd : PyData} {rs ls : List Int} {w : Wd'} (hr : seqF r = some (dI rs)) (hs : seqF st = some (dI ls)) (hw : seqF wd = some (wD w)) (hf : Fit rs ls) (hl : rs.length ≤ 1000) (ho : WOk w) :
    sem_heard [r, st, wd] = .ret (tN (wordM rs ls w).2) := by
  simp only [sem_heard, a_heard, DP.run, DP.runB, evS, evE, evA, evT, evP, evI, startE, startX, slot_zero, slot_succ, own_zero, own_succ, box_zero, box_succ, bind_r, Dr.bind_assoc, pur_r, put_nm, put_tp, put_tpL, puts_nil, puts_cons, then_nx, then_rt, then_rtO, told_rtO, put2_c, put3_c, evF, evB, flat_i, flat_b, flat_s, asLst_l, f_intI, f_intB, f_odd, f_notN, f_fListL, f_fListT, non_i, non_n, f_neS, then_bk, then_ct, told_rt, evT_qY, andB_t, andB_f, orB_t, orB_f, asInt_i, Dr.opt_some, small, within, List.length_cons, List.length_nil, List.map_cons, List.map_nil, List.cons_append, List.nil_append, List.replicate, List.set_cons_zero, List.set_cons_succ, Tt.vs, Ts.vs, Option.bind_some, Nat.reduceAdd, Nat.reduceSub, Nat.reduceLeDiff, Nat.reduceEqDiff, reduceIte, if_true, if_false, asIx_int, f_add, f_sub, f_lt, f_le, f_gt, f_ge, f_addA, f_subA, f_eqI, f_eqS, f_eqB, f_neI, f_isN, f_ixL, f_ixT, f_neg, f_not, f_min, f_max, f_abs, f_tB, f_lenL, f_lenT, f_list, f_listT, f_tup, f_tupT, f_wSeqL, f_wSeqT, f_cutT, f_cutL, wipeX, List.all_cons, List.all_nil, List.contains_cons, List.elem_nil, Bool.and_true, Bool.true_and, beq_self_eq_true, Bool.or_true, Bool.true_or, Bool.false_eq_true, Option.some.injEq, decide_true, decide_false, Bool.not_true, Bool.not_false, Nat.reduceBEq, Bool.or_false, Bool.false_or, List.append_nil, List.singleton_append, true_and, and_true, and_self, word_done_eq hr hs hw hf hl ho]
/-! nets -/
theorem nm_inj {a b : Br} : a.nm = b.nm ↔ a = b := by
  constructor
  · rcases a with ⟨_ | _, _ | _⟩ <;> rcases b with ⟨_ | _, _ | _⟩ <;> first | (intro _; rfl) | (intro h; exact absurd h (by decide +kernel))
  · rintro rfl
    rfl
def netB (b : Br) (w : Wd') : Int := ((w.filter fun x => decide (x.1 = b)).map (·.2)).sum
theorem net_of_eq {wd : PyData} {w : Wd'} (hw : seqF wd = some (wD w)) (hl : w.length ≤ 100000) (a b : Br) : sem_net_of [wd, .str a.nm, .str b.nm] = .ret (.int (netB a w - netB b w)) := by
  have ew : wSeq.f wd = some (w.map rnD) := hw
  have hl2 : (w.map rnD).length ≤ 100000 := by rw [List.length_map]; exact hl
  have k1 : compr (cstep (evT q_net_of_1) (evE x_net_of_1) (.tp (.cons (.nm 5) (.cons (.nm 6) .nil))) [.dat wd, .dat (.str a.nm), .dat (.str b.nm), .unk, .unk, .unk, .unk]) (w.map rnD) = .ret (dI ((w.filter fun x => decide (x.1 = a)).map (·.2))) := by
    rw [compr_filter (h := fun x : Br × Int => .int x.2) (p := fun x => decide (x.1 = a)) fun x hx => ?_]
    · rw [dI, List.map_map]
      rfl
    · simp only [cstep, q_net_of_1, x_net_of_1, rnD, DP.run, DP.runB, evS, evE, evA, evT, evP, evI, startE, startX, slot_zero, slot_succ, own_zero, own_succ, box_zero, box_succ, bind_r, Dr.bind_assoc, pur_r, put_nm, put_tp, put_tpL, puts_nil, puts_cons, then_nx, then_rt, then_rtO, told_rtO, put2_c, put3_c, evF, evB, flat_i, flat_b, flat_s, asLst_l, f_intI, f_intB, f_odd, f_notN, f_fListL, f_fListT, non_i, non_n, f_neS, then_bk, then_ct, told_rt, evT_qY, andB_t, andB_f, orB_t, orB_f, asInt_i, Dr.opt_some, small, within, List.length_cons, List.length_nil, List.map_cons, List.map_nil, List.cons_append, List.nil_append, List.replicate, List.set_cons_zero, List.set_cons_succ, Tt.vs, Ts.vs, Option.bind_some, Nat.reduceAdd, Nat.reduceSub, Nat.reduceLeDiff, Nat.reduceEqDiff, reduceIte, if_true, if_false, asIx_int, f_add, f_sub, f_lt, f_le, f_gt, f_ge, f_addA, f_subA, f_eqI, f_eqS, f_eqB, f_neI, f_isN, f_ixL, f_ixT, f_neg, f_not, f_min, f_max, f_abs, f_tB, f_lenL, f_lenT, f_list, f_listT, f_tup, f_tupT, f_wSeqL, f_wSeqT, f_cutT, f_cutL, wipeX, List.all_cons, List.all_nil, List.contains_cons, List.elem_nil, Bool.and_true, Bool.true_and, beq_self_eq_true, Bool.or_true, Bool.true_or, Bool.false_eq_true, Option.some.injEq, decide_true, decide_false, Bool.not_true, Bool.not_false, Nat.reduceBEq, Bool.or_false, Bool.false_or, List.append_nil, List.singleton_append, true_and, and_true, and_self, nm_inj]
      by_cases hb : x.1 = a <;> simp only [hb, DP.run, DP.runB, evS, evE, evA, evT, evP, evI, startE, startX, slot_zero, slot_succ, own_zero, own_succ, box_zero, box_succ, bind_r, Dr.bind_assoc, pur_r, put_nm, put_tp, put_tpL, puts_nil, puts_cons, then_nx, then_rt, then_rtO, told_rtO, put2_c, put3_c, evF, evB, flat_i, flat_b, flat_s, asLst_l, f_intI, f_intB, f_odd, f_notN, f_fListL, f_fListT, non_i, non_n, f_neS, then_bk, then_ct, told_rt, evT_qY, andB_t, andB_f, orB_t, orB_f, asInt_i, Dr.opt_some, small, within, List.length_cons, List.length_nil, List.map_cons, List.map_nil, List.cons_append, List.nil_append, List.replicate, List.set_cons_zero, List.set_cons_succ, Tt.vs, Ts.vs, Option.bind_some, Nat.reduceAdd, Nat.reduceSub, Nat.reduceLeDiff, Nat.reduceEqDiff, reduceIte, if_true, if_false, asIx_int, f_add, f_sub, f_lt, f_le, f_gt, f_ge, f_addA, f_subA, f_eqI, f_eqS, f_eqB, f_neI, f_isN, f_ixL, f_ixT, f_neg, f_not, f_min, f_max, f_abs, f_tB, f_lenL, f_lenT, f_list, f_listT, f_tup, f_tupT, f_wSeqL, f_wSeqT, f_cutT, f_cutL, wipeX, List.all_cons, List.all_nil, List.contains_cons, List.elem_nil, Bool.and_true, Bool.true_and, beq_self_eq_true, Bool.or_true, Bool.true_or, Bool.false_eq_true, Option.some.injEq, decide_true, decide_false, Bool.not_true, Bool.not_false, Nat.reduceBEq, Bool.or_false, Bool.false_or, List.append_nil, List.singleton_append, true_and, and_true, and_self]
  have k2 : ∀ z, compr (cstep (evT q_net_of_2) (evE x_net_of_2) (.tp (.cons (.nm 5) (.cons (.nm 6) .nil))) [.dat wd, .dat (.str a.nm), .dat (.str b.nm), .dat (.int z), .unk, .unk, .unk]) (w.map rnD) = .ret (dI ((w.filter fun x => decide (x.1 = b)).map (·.2))) := fun z => by
    rw [compr_filter (h := fun x : Br × Int => .int x.2) (p := fun x => decide (x.1 = b)) fun x hx => ?_]
    · rw [dI, List.map_map]
      rfl
    · simp only [cstep, q_net_of_2, x_net_of_2, rnD, DP.run, DP.runB, evS, evE, evA, evT, evP, evI, startE, startX, slot_zero, slot_succ, own_zero, own_succ, box_zero, box_succ, bind_r, Dr.bind_assoc, pur_r, put_nm, put_tp, put_tpL, puts_nil, puts_cons, then_nx, then_rt, then_rtO, told_rtO, put2_c, put3_c, evF, evB, flat_i, flat_b, flat_s, asLst_l, f_intI, f_intB, f_odd, f_notN, f_fListL, f_fListT, non_i, non_n, f_neS, then_bk, then_ct, told_rt, evT_qY, andB_t, andB_f, orB_t, orB_f, asInt_i, Dr.opt_some, small, within, List.length_cons, List.length_nil, List.map_cons, List.map_nil, List.cons_append, List.nil_append, List.replicate, List.set_cons_zero, List.set_cons_succ, Tt.vs, Ts.vs, Option.bind_some, Nat.reduceAdd, Nat.reduceSub, Nat.reduceLeDiff, Nat.reduceEqDiff, reduceIte, if_true, if_false, asIx_int, f_add, f_sub, f_lt, f_le, f_gt, f_ge, f_addA, f_subA, f_eqI, f_eqS, f_eqB, f_neI, f_isN, f_ixL, f_ixT, f_neg, f_not, f_min, f_max, f_abs, f_tB, f_lenL, f_lenT, f_list, f_listT, f_tup, f_tupT, f_wSeqL, f_wSeqT, f_cutT, f_cutL, wipeX, List.all_cons, List.all_nil, List.contains_cons, List.elem_nil, Bool.and_true, Bool.true_and, beq_self_eq_true, Bool.or_true, Bool.true_or, Bool.false_eq_true, Option.some.injEq, decide_true, decide_false, Bool.not_true, Bool.not_false, Nat.reduceBEq, Bool.or_false, Bool.false_or, List.append_nil, List.singleton_append, true_and, and_true, and_self, nm_inj]
      by_cases hb : x.1 = b <;> simp only [hb, DP.run, DP.runB, evS, evE, evA, evT, evP, evI, startE, startX, slot_zero, slot_succ, own_zero, own_succ, box_zero, box_succ, bind_r, Dr.bind_assoc, pur_r, put_nm, put_tp, put_tpL, puts_nil, puts_cons, then_nx, then_rt, then_rtO, told_rtO, put2_c, put3_c, evF, evB, flat_i, flat_b, flat_s, asLst_l, f_intI, f_intB, f_odd, f_notN, f_fListL, f_fListT, non_i, non_n, f_neS, then_bk, then_ct, told_rt, evT_qY, andB_t, andB_f, orB_t, orB_f, asInt_i, Dr.opt_some, small, within, List.length_cons, List.length_nil, List.map_cons, List.map_nil, List.cons_append, List.nil_append, List.replicate, List.set_cons_zero, List.set_cons_succ, Tt.vs, Ts.vs, Option.bind_some, Nat.reduceAdd, Nat.reduceSub, Nat.reduceLeDiff, Nat.reduceEqDiff, reduceIte, if_true, if_false, asIx_int, f_add, f_sub, f_lt, f_le, f_gt, f_ge, f_addA, f_subA, f_eqI, f_eqS, f_eqB, f_neI, f_isN, f_ixL, f_ixT, f_neg, f_not, f_min, f_max, f_abs, f_tB, f_lenL, f_lenT, f_list, f_listT, f_tup, f_tupT, f_wSeqL, f_wSeqT, f_cutT, f_cutL, wipeX, List.all_cons, List.all_nil, List.contains_cons, List.elem_nil, Bool.and_true, Bool.true_and, beq_self_eq_true, Bool.or_true, Bool.true_or, Bool.false_eq_true, Option.some.injEq, decide_true, decide_false, Bool.not_true, Bool.not_false, Nat.reduceBEq, Bool.or_false, Bool.false_or, List.append_nil, List.singleton_append, true_and, and_true, and_self]
  simp only [sem_net_of, a_net_of, DP.run, DP.runB, evS, evE, evA, evT, evP, evI, startE, startX, slot_zero, slot_succ, own_zero, own_succ, box_zero, box_succ, bind_r, Dr.bind_assoc, pur_r, put_nm, put_tp, put_tpL, puts_nil, puts_cons, then_nx, then_rt, then_rtO, told_rtO, put2_c, put3_c, evF, evB, flat_i, flat_b, flat_s, asLst_l, f_intI, f_intB, f_odd, f_notN, f_fListL, f_fListT, non_i, non_n, f_neS, then_bk, then_ct, told_rt, evT_qY, andB_t, andB_f, orB_t, orB_f, asInt_i, Dr.opt_some, small, within, List.length_cons, List.length_nil, List.map_cons, List.map_nil, List.cons_append, List.nil_append, List.replicate, List.set_cons_zero, List.set_cons_succ, Tt.vs, Ts.vs, Option.bind_some, Nat.reduceAdd, Nat.reduceSub, Nat.reduceLeDiff, Nat.reduceEqDiff, reduceIte, if_true, if_false, asIx_int, f_add, f_sub, f_lt, f_le, f_gt, f_ge, f_addA, f_subA, f_eqI, f_eqS, f_eqB, f_neI, f_isN, f_ixL, f_ixT, f_neg, f_not, f_min, f_max, f_abs, f_tB, f_lenL, f_lenT, f_list, f_listT, f_tup, f_tupT, f_wSeqL, f_wSeqT, f_cutT, f_cutL, wipeX, List.all_cons, List.all_nil, List.contains_cons, List.elem_nil, Bool.and_true, Bool.true_and, beq_self_eq_true, Bool.or_true, Bool.true_or, Bool.false_eq_true, Option.some.injEq, decide_true, decide_false, Bool.not_true, Bool.not_false, Nat.reduceBEq, Bool.or_false, Bool.false_or, List.append_nil, List.singleton_append, true_and, and_true, and_self, ew, hl, List.length_map, k1, k2, sum_seq (d := .list (dI _)) rfl, netB]
theorem nets_eq {wd : PyData} {w : Wd'} (hw : seqF wd = some (wD w)) (hl : w.length ≤ 100000) : sem_nets [wd] = .ret (.tuple [.int (netB (true, true) w - netB (true, false) w), .int (netB (false, true) w - netB (false, false) w)]) := by
  have e1 : sem_net_of [wd, .str "L+", .str "L-"] = _ := net_of_eq hw hl (true, true) (true, false)
  have e2 : sem_net_of [wd, .str "R+", .str "R-"] = _ := net_of_eq hw hl (false, true) (false, false)
  simp only [sem_nets, a_nets, DP.run, DP.runB, evS, evE, evA, evT, evP, evI, startE, startX, slot_zero, slot_succ, own_zero, own_succ, box_zero, box_succ, bind_r, Dr.bind_assoc, pur_r, put_nm, put_tp, put_tpL, puts_nil, puts_cons, then_nx, then_rt, then_rtO, told_rtO, put2_c, put3_c, evF, evB, flat_i, flat_b, flat_s, asLst_l, f_intI, f_intB, f_odd, f_notN, f_fListL, f_fListT, non_i, non_n, f_neS, then_bk, then_ct, told_rt, evT_qY, andB_t, andB_f, orB_t, orB_f, asInt_i, Dr.opt_some, small, within, List.length_cons, List.length_nil, List.map_cons, List.map_nil, List.cons_append, List.nil_append, List.replicate, List.set_cons_zero, List.set_cons_succ, Tt.vs, Ts.vs, Option.bind_some, Nat.reduceAdd, Nat.reduceSub, Nat.reduceLeDiff, Nat.reduceEqDiff, reduceIte, if_true, if_false, asIx_int, f_add, f_sub, f_lt, f_le, f_gt, f_ge, f_addA, f_subA, f_eqI, f_eqS, f_eqB, f_neI, f_isN, f_ixL, f_ixT, f_neg, f_not, f_min, f_max, f_abs, f_tB, f_lenL, f_lenT, f_list, f_listT, f_tup, f_tupT, f_wSeqL, f_wSeqT, f_cutT, f_cutL, wipeX, List.all_cons, List.all_nil, List.contains_cons, List.elem_nil, Bool.and_true, Bool.true_and, beq_self_eq_true, Bool.or_true, Bool.true_or, Bool.false_eq_true, Option.some.injEq, decide_true, decide_false, Bool.not_true, Bool.not_false, Nat.reduceBEq, Bool.or_false, Bool.false_or, List.append_nil, List.singleton_append, true_and, and_true, and_self, e1, e2]
/-! aheads -/
def preF (a : Int) : List Int → List Int
  | [] => [a]
  | l :: ls => a :: preF (a + l) ls
abbrev pre (ls : List Int) : List Int := preF 0 ls
theorem atI_last {α : Type} (xs : List α) (a : α) : atI (xs ++ [a]) (-1) = some a := by
  unfold atI ixN
  rw [if_neg (by decide), if_pos (by rw [List.length_append]; show -((xs.length + 1 : Nat) : Int) ≤ -1; omega)]
  show (xs ++ [a])[((-1 : Int) + ((xs ++ [a]).length : Int)).toNat]? = some a
  rw [show ((-1 : Int) + ((xs ++ [a]).length : Int)).toNat = xs.length by rw [List.length_append]; show ((-1 : Int) + ((xs.length + 1 : Nat) : Int)).toNat = _; omega]
  simp
theorem aheads_eq {r st : PyData} {ls : List Int} (hs : seqF st = some (dI ls)) (hl : ls.length ≤ 1000) : sem_aheads [r, st] = .ret (lN (pre ls)) := by
  have key : ∀ (ls acc : List Int) (a : Int) (u : Sl), acc.length + ls.length ≤ 1000 → ∃ v, forL (lstep (evS b_aheads_1) (.nm 3)) (dI ls) [.dat r, .dat st, .own (dI (acc ++ [a])), u] = .ret (.nx [.dat r, .dat st, .own (dI (acc ++ preF a ls)), v]) := fun ls => by
    induction ls with
    | nil => exact fun acc a u _ => ⟨u, rfl⟩
    | cons l ls ih =>
      intro acc a u hlen
      rw [List.length_cons] at hlen
      obtain ⟨v, hv⟩ := ih (acc ++ [a]) (a + l) (.dat (.int l)) (by rw [List.length_append]; show acc.length + 1 + ls.length ≤ 1000; omega)
      refine ⟨v, ?_⟩
      have e1 : atI (dI acc ++ [PyData.int a]) (-1) = some (.int a) := atI_last _ _
      have e2 : (dI acc ++ [PyData.int a]).length ≤ 100000 := by rw [List.length_append, List.length_map]; show acc.length + 1 ≤ 100000; omega
      show (lstep (evS b_aheads_1) (.nm 3) (.int l) _).bind _ = _
      rw [show dI (acc ++ [a]) = dI acc ++ [PyData.int a] by simp]
      rw [show dI (acc ++ [a] ++ [a + l]) = dI acc ++ [PyData.int a] ++ [PyData.int (a + l)] by simp, show acc ++ [a] ++ preF (a + l) ls = acc ++ preF a (l :: ls) by simp [preF]] at hv
      have hst : lstep (evS b_aheads_1) (.nm 3) (.int l) [.dat r, .dat st, .own (dI acc ++ [PyData.int a]), u] = .ret (.nx [.dat r, .dat st, .own (dI acc ++ [PyData.int a] ++ [PyData.int (a + l)]), .dat (.int l)]) := by
        simp only [lstep, b_aheads_1, DP.run, DP.runB, evS, evE, evA, evT, evP, evI, startE, startX, slot_zero, slot_succ, own_zero, own_succ, box_zero, box_succ, bind_r, Dr.bind_assoc, pur_r, put_nm, put_tp, put_tpL, puts_nil, puts_cons, then_nx, then_rt, then_rtO, told_rtO, put2_c, put3_c, evF, evB, flat_i, flat_b, flat_s, asLst_l, f_intI, f_intB, f_odd, f_notN, f_fListL, f_fListT, non_i, non_n, f_neS, then_bk, then_ct, told_rt, evT_qY, andB_t, andB_f, orB_t, orB_f, asInt_i, Dr.opt_some, small, within, List.length_cons, List.length_nil, List.map_cons, List.map_nil, List.cons_append, List.nil_append, List.replicate, List.set_cons_zero, List.set_cons_succ, Tt.vs, Ts.vs, Option.bind_some, Nat.reduceAdd, Nat.reduceSub, Nat.reduceLeDiff, Nat.reduceEqDiff, reduceIte, if_true, if_false, asIx_int, f_add, f_sub, f_lt, f_le, f_gt, f_ge, f_addA, f_subA, f_eqI, f_eqS, f_eqB, f_neI, f_isN, f_ixL, f_ixT, f_neg, f_not, f_min, f_max, f_abs, f_tB, f_lenL, f_lenT, f_list, f_listT, f_tup, f_tupT, f_wSeqL, f_wSeqT, f_cutT, f_cutL, wipeX, List.all_cons, List.all_nil, List.contains_cons, List.elem_nil, Bool.and_true, Bool.true_and, beq_self_eq_true, Bool.or_true, Bool.true_or, Bool.false_eq_true, Option.some.injEq, decide_true, decide_false, Bool.not_true, Bool.not_false, Nat.reduceBEq, Bool.or_false, Bool.false_or, List.append_nil, List.singleton_append, true_and, and_true, and_self, e1, if_pos e2]
      rw [hst]
      exact hv
  obtain ⟨v, hv⟩ := key ls [] 0 .unk (by simpa using hl)
  have hv2 : forL (lstep (evS b_aheads_1) (.nm 3)) (dI ls) [.dat r, .dat st, .own [.int 0], .unk] = .ret (.nx [.dat r, .dat st, .own (dI (pre ls)), v]) := hv
  have ew : wSeq.f st = some (dI ls) := hs
  simp only [sem_aheads, a_aheads, DP.run, DP.runB, evS, evE, evA, evT, evP, evI, startE, startX, slot_zero, slot_succ, own_zero, own_succ, box_zero, box_succ, bind_r, Dr.bind_assoc, pur_r, put_nm, put_tp, put_tpL, puts_nil, puts_cons, then_nx, then_rt, then_rtO, told_rtO, put2_c, put3_c, evF, evB, flat_i, flat_b, flat_s, asLst_l, f_intI, f_intB, f_odd, f_notN, f_fListL, f_fListT, non_i, non_n, f_neS, then_bk, then_ct, told_rt, evT_qY, andB_t, andB_f, orB_t, orB_f, asInt_i, Dr.opt_some, small, within, List.length_cons, List.length_nil, List.map_cons, List.map_nil, List.cons_append, List.nil_append, List.replicate, List.set_cons_zero, List.set_cons_succ, Tt.vs, Ts.vs, Option.bind_some, Nat.reduceAdd, Nat.reduceSub, Nat.reduceLeDiff, Nat.reduceEqDiff, reduceIte, if_true, if_false, asIx_int, f_add, f_sub, f_lt, f_le, f_gt, f_ge, f_addA, f_subA, f_eqI, f_eqS, f_eqB, f_neI, f_isN, f_ixL, f_ixT, f_neg, f_not, f_min, f_max, f_abs, f_tB, f_lenL, f_lenT, f_list, f_listT, f_tup, f_tupT, f_wSeqL, f_wSeqT, f_cutT, f_cutL, wipeX, List.all_cons, List.all_nil, List.contains_cons, List.elem_nil, Bool.and_true, Bool.true_and, beq_self_eq_true, Bool.or_true, Bool.true_or, Bool.false_eq_true, Option.some.injEq, decide_true, decide_false, Bool.not_true, Bool.not_false, Nat.reduceBEq, Bool.or_false, Bool.false_or, List.append_nil, List.singleton_append, true_and, and_true, and_self, ew, hv2]
theorem preF_len : ∀ (a : Int) (ls : List Int), (preF a ls).length = ls.length + 1
  | _, [] => rfl
  | a, l :: ls => congrArg Nat.succ (preF_len (a + l) ls)
theorem wordM_fit {rs : List Int} : ∀ {w : Wd'} {ls cs : List Int}, Fit rs ls → WOk w → cs.length = 4 → Fit rs (w.foldl (wstep rs) (ls, cs)).1 ∧ (w.foldl (wstep rs) (ls, cs)).2.length = 4
  | [], _, _, h, _, hc => ⟨h, hc⟩
  | x :: w, ls, cs, h, ho, hc => wordM_fit (w := w) (runM_fit h (ho x (List.mem_cons_self ..))).1 (fun y hy => ho y (List.mem_cons_of_mem _ hy)) (by rw [List.length_set]; exact hc)
theorem wordM_ok {rs ls : List Int} {w : Wd'} (h : Fit rs ls) (ho : WOk w) : Fit rs (wordM rs ls w).1 ∧ (wordM rs ls w).2.length = 4 := wordM_fit h ho rfl
/-- what came in at the left -/
def came (rs ls : List Int) (w : Wd') : Int := netB (true, true) w - netB (true, false) w - (wordM rs ls w).2.getD 0 0 + (wordM rs ls w).2.getD 1 0
def windsM (rs ls : List Int) (w : Wd') : List Int := ((pre ls).zip (pre (wordM rs ls w).1)).map fun p => came rs ls w - p.2 + p.1
theorem atI_k {ns : List Int} {k : Nat} (h : k < ns.length) : atI (dI ns) (k : Int) = some (.int (ns.getD k 0)) := by
  refine atI_nat' ?_
  rw [List.getElem?_map, List.getD_eq_getElem?_getD, List.getElem?_eq_getElem h]
  rfl
theorem winds_eq {r st wd : PyData} {rs ls : List Int} {w : Wd'} (hr : seqF r = some (dI rs)) (hs : seqF st = some (dI ls)) (hw : seqF wd = some (wD w)) (hf : Fit rs ls) (hl : rs.length ≤ 1000) (ho : WOk w) (hwl : w.length ≤ 100000) :
    sem_winds [r, st, wd] = .ret (lN (windsM rs ls w)) := by
  obtain ⟨f1, f2⟩ := wordM_ok hf ho
  have e1 := word_done_eq hr hs hw hf hl ho
  have e2 := nets_eq hw hwl
  have e3 : sem_aheads [r, st] = _ := aheads_eq hs (by rw [hf.len]; exact hl)
  have e4 : sem_aheads [r, .tuple (dI (wordM rs ls w).1)] = _ := aheads_eq rfl (by rw [f1.len]; exact hl)
  have a0 : atI (dI (wordM rs ls w).2) 0 = some (.int ((wordM rs ls w).2.getD 0 0)) := atI_k (k := 0) (by omega)
  have a1 : atI (dI (wordM rs ls w).2) 1 = some (.int ((wordM rs ls w).2.getD 1 0)) := atI_k (k := 1) (by omega)
  have a2 : ∀ x y : PyData, atI [x, y] 0 = some x := fun _ _ => rfl
  have ez : ∀ xs ys : List Int, wZip.f [lN xs, lN ys] = some ((xs.zip ys).map fun p => .tuple [.int p.1, .int p.2]) := fun xs ys => by
    show some (zipD (dI xs) (dI ys)) = _
    rw [zip_map]
  have hz : ((pre ls).zip (pre (wordM rs ls w).1)).length ≤ 100000 := by
    rw [List.length_zip, preF_len, preF_len, hf.len]
    omega
  have k1 : ∀ (a b c : PyData) (c0 : Int), compr (cstep (evT qY) (evE x_winds_1) (.tp (.cons (.nm 6) (.cons (.nm 7) .nil))) [.dat r, .dat st, .dat wd, .dat a, .dat b, .dat (.int c0), .unk, .unk]) (((pre ls).zip (pre (wordM rs ls w).1)).map fun p => .tuple [.int p.1, .int p.2]) = .ret (dI (((pre ls).zip (pre (wordM rs ls w).1)).map fun p => c0 - p.2 + p.1)) := fun a b c c0 => by
    rw [compr_map (h := fun p : Int × Int => .int (c0 - p.2 + p.1)) fun x hx => ?_]
    · rw [dI, List.map_map]
      rfl
    · simp only [cstep, x_winds_1, DP.run, DP.runB, evS, evE, evA, evT, evP, evI, startE, startX, slot_zero, slot_succ, own_zero, own_succ, box_zero, box_succ, bind_r, Dr.bind_assoc, pur_r, put_nm, put_tp, put_tpL, puts_nil, puts_cons, then_nx, then_rt, then_rtO, told_rtO, put2_c, put3_c, evF, evB, flat_i, flat_b, flat_s, asLst_l, f_intI, f_intB, f_odd, f_notN, f_fListL, f_fListT, non_i, non_n, f_neS, then_bk, then_ct, told_rt, evT_qY, andB_t, andB_f, orB_t, orB_f, asInt_i, Dr.opt_some, small, within, List.length_cons, List.length_nil, List.map_cons, List.map_nil, List.cons_append, List.nil_append, List.replicate, List.set_cons_zero, List.set_cons_succ, Tt.vs, Ts.vs, Option.bind_some, Nat.reduceAdd, Nat.reduceSub, Nat.reduceLeDiff, Nat.reduceEqDiff, reduceIte, if_true, if_false, asIx_int, f_add, f_sub, f_lt, f_le, f_gt, f_ge, f_addA, f_subA, f_eqI, f_eqS, f_eqB, f_neI, f_isN, f_ixL, f_ixT, f_neg, f_not, f_min, f_max, f_abs, f_tB, f_lenL, f_lenT, f_list, f_listT, f_tup, f_tupT, f_wSeqL, f_wSeqT, f_cutT, f_cutL, wipeX, List.all_cons, List.all_nil, List.contains_cons, List.elem_nil, Bool.and_true, Bool.true_and, beq_self_eq_true, Bool.or_true, Bool.true_or, Bool.false_eq_true, Option.some.injEq, decide_true, decide_false, Bool.not_true, Bool.not_false, Nat.reduceBEq, Bool.or_false, Bool.false_or, List.append_nil, List.singleton_append, true_and, and_true, and_self]
  simp only [sem_winds, a_winds, DP.run, DP.runB, evS, evE, evA, evT, evP, evI, startE, startX, slot_zero, slot_succ, own_zero, own_succ, box_zero, box_succ, bind_r, Dr.bind_assoc, pur_r, put_nm, put_tp, put_tpL, puts_nil, puts_cons, then_nx, then_rt, then_rtO, told_rtO, put2_c, put3_c, evF, evB, flat_i, flat_b, flat_s, asLst_l, f_intI, f_intB, f_odd, f_notN, f_fListL, f_fListT, non_i, non_n, f_neS, then_bk, then_ct, told_rt, evT_qY, andB_t, andB_f, orB_t, orB_f, asInt_i, Dr.opt_some, small, within, List.length_cons, List.length_nil, List.map_cons, List.map_nil, List.cons_append, List.nil_append, List.replicate, List.set_cons_zero, List.set_cons_succ, Tt.vs, Ts.vs, Option.bind_some, Nat.reduceAdd, Nat.reduceSub, Nat.reduceLeDiff, Nat.reduceEqDiff, reduceIte, if_true, if_false, asIx_int, f_add, f_sub, f_lt, f_le, f_gt, f_ge, f_addA, f_subA, f_eqI, f_eqS, f_eqB, f_neI, f_isN, f_ixL, f_ixT, f_neg, f_not, f_min, f_max, f_abs, f_tB, f_lenL, f_lenT, f_list, f_listT, f_tup, f_tupT, f_wSeqL, f_wSeqT, f_cutT, f_cutL, wipeX, List.all_cons, List.all_nil, List.contains_cons, List.elem_nil, Bool.and_true, Bool.true_and, beq_self_eq_true, Bool.or_true, Bool.true_or, Bool.false_eq_true, Option.some.injEq, decide_true, decide_false, Bool.not_true, Bool.not_false, Nat.reduceBEq, Bool.or_false, Bool.false_or, List.append_nil, List.singleton_append, true_and, and_true, and_self, e1, e2, e3, e4, a0, a1, a2, ez, List.length_map, hz, k1 _ _ .none, windsM, came]
end DP

namespace DP
open PySem PySem.Spec PyProof.Rows L2 ZX DL RT
theorem takeF_i (m : Int) : takeF [.int m] = .draw m fun j => .ret (.int j) := rfl
theorem bind_d {α β : Type} (m : Int) (k : Int → Dr α) (f : α → Dr β) : (Dr.draw m k).bind f = .draw m fun j => (k j).bind f := rfl
theorem le_draw {α : Type} {m : Int} {k : Int → Dr α} {n : Nat} {Φ : α → Prop} (h1 : 1 ≤ m) (h2 : m < 2 ^ 30) (h : ∀ j, 0 ≤ j → j < m → (k j).le n Φ) : (Dr.draw m k).le (n + 1) Φ := ⟨n, rfl, h1, h2, h⟩
theorem pick3 {α : Type} (a b c : α) {i : Int} (h0 : 0 ≤ i) (h1 : i < 3) : ∃ x, atI [a, b, c] i = some x ∧ (x = a ∨ x = b ∨ x = c) := by
  rcases (by omega : i = 0 ∨ i = 1 ∨ i = 2) with rfl | rfl | rfl
  · exact ⟨a, rfl, .inl rfl⟩
  · exact ⟨b, rfl, .inr (.inl rfl)⟩
  · exact ⟨c, rfl, .inr (.inr rfl)⟩
theorem pick4 {α : Type} (a b c d : α) {i : Int} (h0 : 0 ≤ i) (h1 : i < 4) : ∃ x, atI [a, b, c, d] i = some x ∧ (x = a ∨ x = b ∨ x = c ∨ x = d) := by
  rcases (by omega : i = 0 ∨ i = 1 ∨ i = 2 ∨ i = 3) with rfl | rfl | rfl | rfl
  · exact ⟨a, rfl, .inl rfl⟩
  · exact ⟨b, rfl, .inr (.inl rfl)⟩
  · exact ⟨c, rfl, .inr (.inr (.inl rfl))⟩
  · exact ⟨d, rfl, .inr (.inr (.inr rfl))⟩
/-- lists of ints out of data -/
theorem ints_all {p : Int → Prop} : ∀ {ds : List PyData}, (∀ d ∈ ds, ∃ i, d = .int i ∧ p i) → ∃ ns : List Int, ds = dI ns ∧ ∀ n ∈ ns, p n := ints_of
theorem rngF_n {n : Int} (h0 : 0 ≤ n) (h1 : n < 2 ^ 62) : wRng.f [.int n] = some ((List.range n.toNat).map fun (i : Nat) => PyData.int (i : Int)) := by
  show (if -(2 ^ 62) ≤ n ∧ n < 2 ^ 62 then some (rangeD 0 n.toNat) else none) = _
  rw [if_pos ⟨by omega, h1⟩]
  congr 1
  unfold rangeD
  refine List.map_congr_left fun i _ => ?_
  rw [Int.zero_add]
/-! ## what is drawn -/
def Rms (m : Int) (rs : List Int) : Prop := 1 ≤ rs.length ∧ (rs.length : Int) ≤ m ∧ ∀ r ∈ rs, 1 ≤ r ∧ r ≤ 9
theorem rooms_le {m : Int} (h1 : 1 ≤ m) (h2 : m ≤ 1000) : (sem_L_rooms [.int m]).le (2 * m.toNat + 2) fun d => ∃ rs, d = tN rs ∧ Rms m rs := by
  simp only [sem_L_rooms, a_L_rooms, DP.run, DP.runB, evS, evE, evA, evT, evP, evI, startE, startX, slot_zero, slot_succ, own_zero, own_succ, box_zero, box_succ, bind_r, Dr.bind_assoc, pur_r, put_nm, put_tp, put_tpL, puts_nil, puts_cons, then_nx, then_rt, then_rtO, told_rtO, put2_c, put3_c, evF, evB, flat_i, flat_b, flat_s, asLst_l, f_intI, f_intB, f_odd, f_notN, f_fListL, f_fListT, non_i, non_n, f_neS, then_bk, then_ct, told_rt, evT_qY, andB_t, andB_f, orB_t, orB_f, asInt_i, Dr.opt_some, small, within, List.length_cons, List.length_nil, List.map_cons, List.map_nil, List.cons_append, List.nil_append, List.replicate, List.set_cons_zero, List.set_cons_succ, Tt.vs, Ts.vs, Option.bind_some, Nat.reduceAdd, Nat.reduceSub, Nat.reduceLeDiff, Nat.reduceEqDiff, reduceIte, if_true, if_false, asIx_int, f_add, f_sub, f_lt, f_le, f_gt, f_ge, f_addA, f_subA, f_eqI, f_eqS, f_eqB, f_neI, f_isN, f_ixL, f_ixT, f_neg, f_not, f_min, f_max, f_abs, f_tB, f_lenL, f_lenT, f_list, f_listT, f_tup, f_tupT, f_wSeqL, f_wSeqT, f_cutT, f_cutL, wipeX, List.all_cons, List.all_nil, List.contains_cons, List.elem_nil, Bool.and_true, Bool.true_and, beq_self_eq_true, Bool.or_true, Bool.true_or, Bool.false_eq_true, Option.some.injEq, decide_true, decide_false, Bool.not_true, Bool.not_false, Nat.reduceBEq, Bool.or_false, Bool.false_or, List.append_nil, List.singleton_append, true_and, and_true, and_self, takeF_i, bind_d]
  rw [show 2 * m.toNat + 2 = (2 * m.toNat + 1) + 1 by omega]
  refine le_draw (by decide) (by decide) fun i i0 i1 => ?_
  obtain ⟨x, ex, hx⟩ := pick3 (PyData.int (if m < 3 then m else 3)) (PyData.int (if m < 5 then m else 5)) (PyData.int m) i0 i1
  obtain ⟨c, rfl, c1, c2⟩ : ∃ c, x = .int c ∧ 1 ≤ c ∧ c ≤ m := by
    rcases hx with rfl | rfl | rfl
    · exact ⟨_, rfl, by split <;> omega, by split <;> omega⟩
    · exact ⟨_, rfl, by split <;> omega, by split <;> omega⟩
    · exact ⟨_, rfl, h1, Int.le_refl _⟩
  simp only [DP.run, DP.runB, evS, evE, evA, evT, evP, evI, startE, startX, slot_zero, slot_succ, own_zero, own_succ, box_zero, box_succ, bind_r, Dr.bind_assoc, pur_r, put_nm, put_tp, put_tpL, puts_nil, puts_cons, then_nx, then_rt, then_rtO, told_rtO, put2_c, put3_c, evF, evB, flat_i, flat_b, flat_s, asLst_l, f_intI, f_intB, f_odd, f_notN, f_fListL, f_fListT, non_i, non_n, f_neS, then_bk, then_ct, told_rt, evT_qY, andB_t, andB_f, orB_t, orB_f, asInt_i, Dr.opt_some, small, within, List.length_cons, List.length_nil, List.map_cons, List.map_nil, List.cons_append, List.nil_append, List.replicate, List.set_cons_zero, List.set_cons_succ, Tt.vs, Ts.vs, Option.bind_some, Nat.reduceAdd, Nat.reduceSub, Nat.reduceLeDiff, Nat.reduceEqDiff, reduceIte, if_true, if_false, asIx_int, f_add, f_sub, f_lt, f_le, f_gt, f_ge, f_addA, f_subA, f_eqI, f_eqS, f_eqB, f_neI, f_isN, f_ixL, f_ixT, f_neg, f_not, f_min, f_max, f_abs, f_tB, f_lenL, f_lenT, f_list, f_listT, f_tup, f_tupT, f_wSeqL, f_wSeqT, f_cutT, f_cutL, wipeX, List.all_cons, List.all_nil, List.contains_cons, List.elem_nil, Bool.and_true, Bool.true_and, beq_self_eq_true, Bool.or_true, Bool.true_or, Bool.false_eq_true, Option.some.injEq, decide_true, decide_false, Bool.not_true, Bool.not_false, Nat.reduceBEq, Bool.or_false, Bool.false_or, List.append_nil, List.singleton_append, true_and, and_true, and_self, ex, takeF_i, bind_d]
  refine le_draw c1 (by omega) fun j j0 j1 => ?_
  simp only [DP.run, DP.runB, evS, evE, evA, evT, evP, evI, startE, startX, slot_zero, slot_succ, own_zero, own_succ, box_zero, box_succ, bind_r, Dr.bind_assoc, pur_r, put_nm, put_tp, put_tpL, puts_nil, puts_cons, then_nx, then_rt, then_rtO, told_rtO, put2_c, put3_c, evF, evB, flat_i, flat_b, flat_s, asLst_l, f_intI, f_intB, f_odd, f_notN, f_fListL, f_fListT, non_i, non_n, f_neS, then_bk, then_ct, told_rt, evT_qY, andB_t, andB_f, orB_t, orB_f, asInt_i, Dr.opt_some, small, within, List.length_cons, List.length_nil, List.map_cons, List.map_nil, List.cons_append, List.nil_append, List.replicate, List.set_cons_zero, List.set_cons_succ, Tt.vs, Ts.vs, Option.bind_some, Nat.reduceAdd, Nat.reduceSub, Nat.reduceLeDiff, Nat.reduceEqDiff, reduceIte, if_true, if_false, asIx_int, f_add, f_sub, f_lt, f_le, f_gt, f_ge, f_addA, f_subA, f_eqI, f_eqS, f_eqB, f_neI, f_isN, f_ixL, f_ixT, f_neg, f_not, f_min, f_max, f_abs, f_tB, f_lenL, f_lenT, f_list, f_listT, f_tup, f_tupT, f_wSeqL, f_wSeqT, f_cutT, f_cutL, wipeX, List.all_cons, List.all_nil, List.contains_cons, List.elem_nil, Bool.and_true, Bool.true_and, beq_self_eq_true, Bool.or_true, Bool.true_or, Bool.false_eq_true, Option.some.injEq, decide_true, decide_false, Bool.not_true, Bool.not_false, Nat.reduceBEq, Bool.or_false, Bool.false_or, List.append_nil, List.singleton_append, true_and, and_true, and_self, rngF_n (show 0 ≤ 1 + j by omega) (show 1 + j < 2 ^ 62 by omega), List.length_map, List.length_range]
  rw [if_pos (show (1 + j).toNat ≤ 100000 by omega)]
  simp only [DP.run, DP.runB, evS, evE, evA, evT, evP, evI, startE, startX, slot_zero, slot_succ, own_zero, own_succ, box_zero, box_succ, bind_r, Dr.bind_assoc, pur_r, put_nm, put_tp, put_tpL, puts_nil, puts_cons, then_nx, then_rt, then_rtO, told_rtO, put2_c, put3_c, evF, evB, flat_i, flat_b, flat_s, asLst_l, f_intI, f_intB, f_odd, f_notN, f_fListL, f_fListT, non_i, non_n, f_neS, then_bk, then_ct, told_rt, evT_qY, andB_t, andB_f, orB_t, orB_f, asInt_i, Dr.opt_some, small, within, List.length_cons, List.length_nil, List.map_cons, List.map_nil, List.cons_append, List.nil_append, List.replicate, List.set_cons_zero, List.set_cons_succ, Tt.vs, Ts.vs, Option.bind_some, Nat.reduceAdd, Nat.reduceSub, Nat.reduceLeDiff, Nat.reduceEqDiff, reduceIte, if_true, if_false, asIx_int, f_add, f_sub, f_lt, f_le, f_gt, f_ge, f_addA, f_subA, f_eqI, f_eqS, f_eqB, f_neI, f_isN, f_ixL, f_ixT, f_neg, f_not, f_min, f_max, f_abs, f_tB, f_lenL, f_lenT, f_list, f_listT, f_tup, f_tupT, f_wSeqL, f_wSeqT, f_cutT, f_cutL, wipeX, List.all_cons, List.all_nil, List.contains_cons, List.elem_nil, Bool.and_true, Bool.true_and, beq_self_eq_true, Bool.or_true, Bool.true_or, Bool.false_eq_true, Option.some.injEq, decide_true, decide_false, Bool.not_true, Bool.not_false, Nat.reduceBEq, Bool.or_false, Bool.false_or, List.append_nil, List.singleton_append, true_and, and_true, and_self]
  have hc := compr_le (step := cstep (evT qY) (evE x_L_rooms_1) (.nm 3) [.box, .dat (.int m), .dat (.int (1 + j)), .unk]) (g := fun (i : Nat) => PyData.int (i : Int)) (k := 2) (Ψ := fun _ v => ∃ r, v = .int r ∧ 1 ≤ r ∧ r ≤ 9) (xs := List.range (1 + j).toNat) fun x _ => by
    simp only [cstep, x_L_rooms_1, DP.run, DP.runB, evS, evE, evA, evT, evP, evI, startE, startX, slot_zero, slot_succ, own_zero, own_succ, box_zero, box_succ, bind_r, Dr.bind_assoc, pur_r, put_nm, put_tp, put_tpL, puts_nil, puts_cons, then_nx, then_rt, then_rtO, told_rtO, put2_c, put3_c, evF, evB, flat_i, flat_b, flat_s, asLst_l, f_intI, f_intB, f_odd, f_notN, f_fListL, f_fListT, non_i, non_n, f_neS, then_bk, then_ct, told_rt, evT_qY, andB_t, andB_f, orB_t, orB_f, asInt_i, Dr.opt_some, small, within, List.length_cons, List.length_nil, List.map_cons, List.map_nil, List.cons_append, List.nil_append, List.replicate, List.set_cons_zero, List.set_cons_succ, Tt.vs, Ts.vs, Option.bind_some, Nat.reduceAdd, Nat.reduceSub, Nat.reduceLeDiff, Nat.reduceEqDiff, reduceIte, if_true, if_false, asIx_int, f_add, f_sub, f_lt, f_le, f_gt, f_ge, f_addA, f_subA, f_eqI, f_eqS, f_eqB, f_neI, f_isN, f_ixL, f_ixT, f_neg, f_not, f_min, f_max, f_abs, f_tB, f_lenL, f_lenT, f_list, f_listT, f_tup, f_tupT, f_wSeqL, f_wSeqT, f_cutT, f_cutL, wipeX, List.all_cons, List.all_nil, List.contains_cons, List.elem_nil, Bool.and_true, Bool.true_and, beq_self_eq_true, Bool.or_true, Bool.true_or, Bool.false_eq_true, Option.some.injEq, decide_true, decide_false, Bool.not_true, Bool.not_false, Nat.reduceBEq, Bool.or_false, Bool.false_or, List.append_nil, List.singleton_append, true_and, and_true, and_self, takeF_i, bind_d]
    refine le_draw (by decide) (by decide) fun a a0 a1 => ?_
    refine le_draw (by decide) (by decide) fun b b0 b1 => ?_
    obtain ⟨y, ey, hy⟩ := pick4 (PyData.int 1) (PyData.int 2) (PyData.int 3) (PyData.int (1 + a)) b0 b1
    simp only [DP.run, DP.runB, evS, evE, evA, evT, evP, evI, startE, startX, slot_zero, slot_succ, own_zero, own_succ, box_zero, box_succ, bind_r, Dr.bind_assoc, pur_r, put_nm, put_tp, put_tpL, puts_nil, puts_cons, then_nx, then_rt, then_rtO, told_rtO, put2_c, put3_c, evF, evB, flat_i, flat_b, flat_s, asLst_l, f_intI, f_intB, f_odd, f_notN, f_fListL, f_fListT, non_i, non_n, f_neS, then_bk, then_ct, told_rt, evT_qY, andB_t, andB_f, orB_t, orB_f, asInt_i, Dr.opt_some, small, within, List.length_cons, List.length_nil, List.map_cons, List.map_nil, List.cons_append, List.nil_append, List.replicate, List.set_cons_zero, List.set_cons_succ, Tt.vs, Ts.vs, Option.bind_some, Nat.reduceAdd, Nat.reduceSub, Nat.reduceLeDiff, Nat.reduceEqDiff, reduceIte, if_true, if_false, asIx_int, f_add, f_sub, f_lt, f_le, f_gt, f_ge, f_addA, f_subA, f_eqI, f_eqS, f_eqB, f_neI, f_isN, f_ixL, f_ixT, f_neg, f_not, f_min, f_max, f_abs, f_tB, f_lenL, f_lenT, f_list, f_listT, f_tup, f_tupT, f_wSeqL, f_wSeqT, f_cutT, f_cutL, wipeX, List.all_cons, List.all_nil, List.contains_cons, List.elem_nil, Bool.and_true, Bool.true_and, beq_self_eq_true, Bool.or_true, Bool.true_or, Bool.false_eq_true, Option.some.injEq, decide_true, decide_false, Bool.not_true, Bool.not_false, Nat.reduceBEq, Bool.or_false, Bool.false_or, List.append_nil, List.singleton_append, true_and, and_true, and_self, ey]
    rcases hy with rfl | rfl | rfl | rfl
    · exact ⟨_, rfl, 1, rfl, by omega, by omega⟩
    · exact ⟨_, rfl, 2, rfl, by omega, by omega⟩
    · exact ⟨_, rfl, 3, rfl, by omega, by omega⟩
    · exact ⟨_, rfl, 1 + a, rfl, by omega, by omega⟩
  rw [List.length_range] at hc
  refine Dr.le_up (Dr.le_bind (m := 0) hc fun l ⟨hl, hp⟩ => ?_) (show 2 * (1 + j).toNat + 0 ≤ 2 * m.toNat by omega)
  obtain ⟨rs, rfl, hr⟩ := ints_all (p := fun r => 1 ≤ r ∧ r ≤ 9) (ds := l) fun v hv => by
    obtain ⟨i, hi⟩ := List.mem_iff_getElem?.mp hv
    have hlt : i < (List.range (1 + j).toNat).length := by rw [List.length_range, ← hl]; exact (List.getElem?_eq_some_iff.mp hi).1
    exact hp i _ v (List.getElem?_eq_getElem hlt) hi
  rw [List.length_map] at hl
  exact ⟨rs, rfl, by omega, by omega, hr⟩
theorem standing_le {rs : List Int} (h1 : ∀ r ∈ rs, 1 ≤ r ∧ r < 2 ^ 29) (hl : rs.length ≤ 1000) : (sem_L_standing [tN rs]).le (3 * rs.length) fun d => ∃ ls, d = tN ls ∧ Fit rs ls := by
  simp only [sem_L_standing, a_L_standing, DP.run, DP.runB, evS, evE, evA, evT, evP, evI, startE, startX, slot_zero, slot_succ, own_zero, own_succ, box_zero, box_succ, bind_r, Dr.bind_assoc, pur_r, put_nm, put_tp, put_tpL, puts_nil, puts_cons, then_nx, then_rt, then_rtO, told_rtO, put2_c, put3_c, evF, evB, flat_i, flat_b, flat_s, asLst_l, f_intI, f_intB, f_odd, f_notN, f_fListL, f_fListT, non_i, non_n, f_neS, then_bk, then_ct, told_rt, evT_qY, andB_t, andB_f, orB_t, orB_f, asInt_i, Dr.opt_some, small, within, List.length_cons, List.length_nil, List.map_cons, List.map_nil, List.cons_append, List.nil_append, List.replicate, List.set_cons_zero, List.set_cons_succ, Tt.vs, Ts.vs, Option.bind_some, Nat.reduceAdd, Nat.reduceSub, Nat.reduceLeDiff, Nat.reduceEqDiff, reduceIte, if_true, if_false, asIx_int, f_add, f_sub, f_lt, f_le, f_gt, f_ge, f_addA, f_subA, f_eqI, f_eqS, f_eqB, f_neI, f_isN, f_ixL, f_ixT, f_neg, f_not, f_min, f_max, f_abs, f_tB, f_lenL, f_lenT, f_list, f_listT, f_tup, f_tupT, f_wSeqL, f_wSeqT, f_cutT, f_cutL, wipeX, List.all_cons, List.all_nil, List.contains_cons, List.elem_nil, Bool.and_true, Bool.true_and, beq_self_eq_true, Bool.or_true, Bool.true_or, Bool.false_eq_true, Option.some.injEq, decide_true, decide_false, Bool.not_true, Bool.not_false, Nat.reduceBEq, Bool.or_false, Bool.false_or, List.append_nil, List.singleton_append, true_and, and_true, and_self, List.length_map]
  rw [if_pos (show rs.length ≤ 100000 by omega)]
  simp only [DP.run, DP.runB, evS, evE, evA, evT, evP, evI, startE, startX, slot_zero, slot_succ, own_zero, own_succ, box_zero, box_succ, bind_r, Dr.bind_assoc, pur_r, put_nm, put_tp, put_tpL, puts_nil, puts_cons, then_nx, then_rt, then_rtO, told_rtO, put2_c, put3_c, evF, evB, flat_i, flat_b, flat_s, asLst_l, f_intI, f_intB, f_odd, f_notN, f_fListL, f_fListT, non_i, non_n, f_neS, then_bk, then_ct, told_rt, evT_qY, andB_t, andB_f, orB_t, orB_f, asInt_i, Dr.opt_some, small, within, List.length_cons, List.length_nil, List.map_cons, List.map_nil, List.cons_append, List.nil_append, List.replicate, List.set_cons_zero, List.set_cons_succ, Tt.vs, Ts.vs, Option.bind_some, Nat.reduceAdd, Nat.reduceSub, Nat.reduceLeDiff, Nat.reduceEqDiff, reduceIte, if_true, if_false, asIx_int, f_add, f_sub, f_lt, f_le, f_gt, f_ge, f_addA, f_subA, f_eqI, f_eqS, f_eqB, f_neI, f_isN, f_ixL, f_ixT, f_neg, f_not, f_min, f_max, f_abs, f_tB, f_lenL, f_lenT, f_list, f_listT, f_tup, f_tupT, f_wSeqL, f_wSeqT, f_cutT, f_cutL, wipeX, List.all_cons, List.all_nil, List.contains_cons, List.elem_nil, Bool.and_true, Bool.true_and, beq_self_eq_true, Bool.or_true, Bool.true_or, Bool.false_eq_true, Option.some.injEq, decide_true, decide_false, Bool.not_true, Bool.not_false, Nat.reduceBEq, Bool.or_false, Bool.false_or, List.append_nil, List.singleton_append, true_and, and_true, and_self]
  have hc := compr_le (step := cstep (evT qY) (evE x_L_standing_1) (.nm 2) [.box, .dat (tN rs), .unk]) (g := PyData.int) (k := 3) (Ψ := fun r v => ∃ l, v = .int l ∧ 0 ≤ l ∧ l ≤ r) (xs := rs) fun r hr => by
    obtain ⟨r1, r2⟩ := h1 r hr
    simp only [cstep, x_L_standing_1, DP.run, DP.runB, evS, evE, evA, evT, evP, evI, startE, startX, slot_zero, slot_succ, own_zero, own_succ, box_zero, box_succ, bind_r, Dr.bind_assoc, pur_r, put_nm, put_tp, put_tpL, puts_nil, puts_cons, then_nx, then_rt, then_rtO, told_rtO, put2_c, put3_c, evF, evB, flat_i, flat_b, flat_s, asLst_l, f_intI, f_intB, f_odd, f_notN, f_fListL, f_fListT, non_i, non_n, f_neS, then_bk, then_ct, told_rt, evT_qY, andB_t, andB_f, orB_t, orB_f, asInt_i, Dr.opt_some, small, within, List.length_cons, List.length_nil, List.map_cons, List.map_nil, List.cons_append, List.nil_append, List.replicate, List.set_cons_zero, List.set_cons_succ, Tt.vs, Ts.vs, Option.bind_some, Nat.reduceAdd, Nat.reduceSub, Nat.reduceLeDiff, Nat.reduceEqDiff, reduceIte, if_true, if_false, asIx_int, f_add, f_sub, f_lt, f_le, f_gt, f_ge, f_addA, f_subA, f_eqI, f_eqS, f_eqB, f_neI, f_isN, f_ixL, f_ixT, f_neg, f_not, f_min, f_max, f_abs, f_tB, f_lenL, f_lenT, f_list, f_listT, f_tup, f_tupT, f_wSeqL, f_wSeqT, f_cutT, f_cutL, wipeX, List.all_cons, List.all_nil, List.contains_cons, List.elem_nil, Bool.and_true, Bool.true_and, beq_self_eq_true, Bool.or_true, Bool.true_or, Bool.false_eq_true, Option.some.injEq, decide_true, decide_false, Bool.not_true, Bool.not_false, Nat.reduceBEq, Bool.or_false, Bool.false_or, List.append_nil, List.singleton_append, true_and, and_true, and_self, takeF_i, bind_d]
    refine le_draw (by omega) (by omega) fun a a0 a1 => ?_
    refine le_draw (by omega) (by omega) fun b b0 b1 => ?_
    refine le_draw (by decide) (by decide) fun c c0 c1 => ?_
    obtain ⟨y, ey, hy⟩ := pick4 (PyData.int 0) (PyData.int r) (PyData.int a) (PyData.int b) c0 c1
    simp only [DP.run, DP.runB, evS, evE, evA, evT, evP, evI, startE, startX, slot_zero, slot_succ, own_zero, own_succ, box_zero, box_succ, bind_r, Dr.bind_assoc, pur_r, put_nm, put_tp, put_tpL, puts_nil, puts_cons, then_nx, then_rt, then_rtO, told_rtO, put2_c, put3_c, evF, evB, flat_i, flat_b, flat_s, asLst_l, f_intI, f_intB, f_odd, f_notN, f_fListL, f_fListT, non_i, non_n, f_neS, then_bk, then_ct, told_rt, evT_qY, andB_t, andB_f, orB_t, orB_f, asInt_i, Dr.opt_some, small, within, List.length_cons, List.length_nil, List.map_cons, List.map_nil, List.cons_append, List.nil_append, List.replicate, List.set_cons_zero, List.set_cons_succ, Tt.vs, Ts.vs, Option.bind_some, Nat.reduceAdd, Nat.reduceSub, Nat.reduceLeDiff, Nat.reduceEqDiff, reduceIte, if_true, if_false, asIx_int, f_add, f_sub, f_lt, f_le, f_gt, f_ge, f_addA, f_subA, f_eqI, f_eqS, f_eqB, f_neI, f_isN, f_ixL, f_ixT, f_neg, f_not, f_min, f_max, f_abs, f_tB, f_lenL, f_lenT, f_list, f_listT, f_tup, f_tupT, f_wSeqL, f_wSeqT, f_cutT, f_cutL, wipeX, List.all_cons, List.all_nil, List.contains_cons, List.elem_nil, Bool.and_true, Bool.true_and, beq_self_eq_true, Bool.or_true, Bool.true_or, Bool.false_eq_true, Option.some.injEq, decide_true, decide_false, Bool.not_true, Bool.not_false, Nat.reduceBEq, Bool.or_false, Bool.false_or, List.append_nil, List.singleton_append, true_and, and_true, and_self, ey]
    rcases hy with rfl | rfl | rfl | rfl
    · exact ⟨_, rfl, 0, rfl, by omega, by omega⟩
    · exact ⟨_, rfl, r, rfl, by omega, by omega⟩
    · exact ⟨_, rfl, a, rfl, by omega, by omega⟩
    · exact ⟨_, rfl, b, rfl, by omega, by omega⟩
  refine Dr.le_up (Dr.le_bind (m := 0) hc fun l ⟨hl, hp⟩ => ?_) (show 3 * rs.length + 0 ≤ 3 * rs.length by omega)
  have key : ∀ (rs : List Int) (l : List PyData), l.length = rs.length → (∀ (i : Nat) x v, rs[i]? = some x → l[i]? = some v → ∃ q, v = .int q ∧ 0 ≤ q ∧ q ≤ x) → ∃ ls, l = dI ls ∧ Fit rs ls := fun rs => by
    induction rs with
    | nil =>
      intro l hl _
      have : l = [] := List.eq_nil_of_length_eq_zero hl
      exact ⟨[], this, .nil⟩
    | cons r rs ih =>
      intro l hl hp
      cases l with
      | nil => cases hl
      | cons d l =>
        obtain ⟨q, rfl, q0, q1⟩ := hp 0 r d rfl rfl
        obtain ⟨ls, rfl, hf⟩ := ih l (by simpa using hl) fun i x v hx hv => hp (i + 1) x v hx hv
        exact ⟨q :: ls, rfl, .cons q0 q1 hf⟩
  obtain ⟨ls, rfl, hf⟩ := key rs l hl hp
  exact ⟨ls, rfl, hf⟩
def WIn (m o : Int) (w : Wd') : Prop := (w.length : Int) ≤ m ∧ ∀ x ∈ w, 1 ≤ x.2 ∧ x.2 ≤ o
theorem WIn.ok {m o : Int} {w : Wd'} (h : WIn m o w) : WOk w := fun x hx => by have := h.2 x hx; omega
theorem word_le {m o : Int} (h1 : 0 ≤ m) (h2 : m ≤ 1000) (o1 : 1 ≤ o) (o2 : o < 2 ^ 30) : (sem_L_word [.int m, .int o]).le (2 * m.toNat + 1) fun d => ∃ w, d = .list (wD w) ∧ WIn m o w := by
  simp only [sem_L_word, a_L_word, DP.run, DP.runB, evS, evE, evA, evT, evP, evI, startE, startX, slot_zero, slot_succ, own_zero, own_succ, box_zero, box_succ, bind_r, Dr.bind_assoc, pur_r, put_nm, put_tp, put_tpL, puts_nil, puts_cons, then_nx, then_rt, then_rtO, told_rtO, put2_c, put3_c, evF, evB, flat_i, flat_b, flat_s, asLst_l, f_intI, f_intB, f_odd, f_notN, f_fListL, f_fListT, non_i, non_n, f_neS, then_bk, then_ct, told_rt, evT_qY, andB_t, andB_f, orB_t, orB_f, asInt_i, Dr.opt_some, small, within, List.length_cons, List.length_nil, List.map_cons, List.map_nil, List.cons_append, List.nil_append, List.replicate, List.set_cons_zero, List.set_cons_succ, Tt.vs, Ts.vs, Option.bind_some, Nat.reduceAdd, Nat.reduceSub, Nat.reduceLeDiff, Nat.reduceEqDiff, reduceIte, if_true, if_false, asIx_int, f_add, f_sub, f_lt, f_le, f_gt, f_ge, f_addA, f_subA, f_eqI, f_eqS, f_eqB, f_neI, f_isN, f_ixL, f_ixT, f_neg, f_not, f_min, f_max, f_abs, f_tB, f_lenL, f_lenT, f_list, f_listT, f_tup, f_tupT, f_wSeqL, f_wSeqT, f_cutT, f_cutL, wipeX, List.all_cons, List.all_nil, List.contains_cons, List.elem_nil, Bool.and_true, Bool.true_and, beq_self_eq_true, Bool.or_true, Bool.true_or, Bool.false_eq_true, Option.some.injEq, decide_true, decide_false, Bool.not_true, Bool.not_false, Nat.reduceBEq, Bool.or_false, Bool.false_or, List.append_nil, List.singleton_append, true_and, and_true, and_self, takeF_i, bind_d]
  refine le_draw (by omega) (by omega) fun j j0 j1 => ?_
  simp only [DP.run, DP.runB, evS, evE, evA, evT, evP, evI, startE, startX, slot_zero, slot_succ, own_zero, own_succ, box_zero, box_succ, bind_r, Dr.bind_assoc, pur_r, put_nm, put_tp, put_tpL, puts_nil, puts_cons, then_nx, then_rt, then_rtO, told_rtO, put2_c, put3_c, evF, evB, flat_i, flat_b, flat_s, asLst_l, f_intI, f_intB, f_odd, f_notN, f_fListL, f_fListT, non_i, non_n, f_neS, then_bk, then_ct, told_rt, evT_qY, andB_t, andB_f, orB_t, orB_f, asInt_i, Dr.opt_some, small, within, List.length_cons, List.length_nil, List.map_cons, List.map_nil, List.cons_append, List.nil_append, List.replicate, List.set_cons_zero, List.set_cons_succ, Tt.vs, Ts.vs, Option.bind_some, Nat.reduceAdd, Nat.reduceSub, Nat.reduceLeDiff, Nat.reduceEqDiff, reduceIte, if_true, if_false, asIx_int, f_add, f_sub, f_lt, f_le, f_gt, f_ge, f_addA, f_subA, f_eqI, f_eqS, f_eqB, f_neI, f_isN, f_ixL, f_ixT, f_neg, f_not, f_min, f_max, f_abs, f_tB, f_lenL, f_lenT, f_list, f_listT, f_tup, f_tupT, f_wSeqL, f_wSeqT, f_cutT, f_cutL, wipeX, List.all_cons, List.all_nil, List.contains_cons, List.elem_nil, Bool.and_true, Bool.true_and, beq_self_eq_true, Bool.or_true, Bool.true_or, Bool.false_eq_true, Option.some.injEq, decide_true, decide_false, Bool.not_true, Bool.not_false, Nat.reduceBEq, Bool.or_false, Bool.false_or, List.append_nil, List.singleton_append, true_and, and_true, and_self, rngF_n j0 (show j < 2 ^ 62 by omega)]
  have hL := forL_le (step := lstep (evS b_L_word_1) (.nm 4)) (k := 2) (fun i env => ∃ (w : Wd') (u : Sl), w.length = i ∧ i ≤ 2000 ∧ (∀ x ∈ w, 1 ≤ x.2 ∧ x.2 ≤ o) ∧ env = [.box, .dat (.int m), .dat (.int o), .own (wD w), u]) (its := (List.range j.toNat).map fun (i : Nat) => PyData.int (i : Int)) (j := 0) (env := [.box, .dat (.int m), .dat (.int o), .own [], .unk]) ⟨[], .unk, rfl, by omega, (fun x hx => by cases hx), rfl⟩ fun i d env hd ⟨w, u, hw, hi, hb, he⟩ => by
    subst he
    rw [Nat.zero_add] at hw hi ⊢
    have hlt : i < j.toNat := by
      have := (List.getElem?_eq_some_iff.mp hd).1
      rwa [List.length_map, List.length_range] at this
    simp only [lstep, b_L_word_1, DP.run, DP.runB, evS, evE, evA, evT, evP, evI, startE, startX, slot_zero, slot_succ, own_zero, own_succ, box_zero, box_succ, bind_r, Dr.bind_assoc, pur_r, put_nm, put_tp, put_tpL, puts_nil, puts_cons, then_nx, then_rt, then_rtO, told_rtO, put2_c, put3_c, evF, evB, flat_i, flat_b, flat_s, asLst_l, f_intI, f_intB, f_odd, f_notN, f_fListL, f_fListT, non_i, non_n, f_neS, then_bk, then_ct, told_rt, evT_qY, andB_t, andB_f, orB_t, orB_f, asInt_i, Dr.opt_some, small, within, List.length_cons, List.length_nil, List.map_cons, List.map_nil, List.cons_append, List.nil_append, List.replicate, List.set_cons_zero, List.set_cons_succ, Tt.vs, Ts.vs, Option.bind_some, Nat.reduceAdd, Nat.reduceSub, Nat.reduceLeDiff, Nat.reduceEqDiff, reduceIte, if_true, if_false, asIx_int, f_add, f_sub, f_lt, f_le, f_gt, f_ge, f_addA, f_subA, f_eqI, f_eqS, f_eqB, f_neI, f_isN, f_ixL, f_ixT, f_neg, f_not, f_min, f_max, f_abs, f_tB, f_lenL, f_lenT, f_list, f_listT, f_tup, f_tupT, f_wSeqL, f_wSeqT, f_cutT, f_cutL, wipeX, List.all_cons, List.all_nil, List.contains_cons, List.elem_nil, Bool.and_true, Bool.true_and, beq_self_eq_true, Bool.or_true, Bool.true_or, Bool.false_eq_true, Option.some.injEq, decide_true, decide_false, Bool.not_true, Bool.not_false, Nat.reduceBEq, Bool.or_false, Bool.false_or, List.append_nil, List.singleton_append, true_and, and_true, and_self, takeF_i, bind_d]
    refine le_draw (by decide) (by decide) fun a a0 a1 => ?_
    obtain ⟨y, ey, hy⟩ := pick4 (PyData.str "L+") (PyData.str "L-") (PyData.str "R+") (PyData.str "R-") a0 a1
    simp only [DP.run, DP.runB, evS, evE, evA, evT, evP, evI, startE, startX, slot_zero, slot_succ, own_zero, own_succ, box_zero, box_succ, bind_r, Dr.bind_assoc, pur_r, put_nm, put_tp, put_tpL, puts_nil, puts_cons, then_nx, then_rt, then_rtO, told_rtO, put2_c, put3_c, evF, evB, flat_i, flat_b, flat_s, asLst_l, f_intI, f_intB, f_odd, f_notN, f_fListL, f_fListT, non_i, non_n, f_neS, then_bk, then_ct, told_rt, evT_qY, andB_t, andB_f, orB_t, orB_f, asInt_i, Dr.opt_some, small, within, List.length_cons, List.length_nil, List.map_cons, List.map_nil, List.cons_append, List.nil_append, List.replicate, List.set_cons_zero, List.set_cons_succ, Tt.vs, Ts.vs, Option.bind_some, Nat.reduceAdd, Nat.reduceSub, Nat.reduceLeDiff, Nat.reduceEqDiff, reduceIte, if_true, if_false, asIx_int, f_add, f_sub, f_lt, f_le, f_gt, f_ge, f_addA, f_subA, f_eqI, f_eqS, f_eqB, f_neI, f_isN, f_ixL, f_ixT, f_neg, f_not, f_min, f_max, f_abs, f_tB, f_lenL, f_lenT, f_list, f_listT, f_tup, f_tupT, f_wSeqL, f_wSeqT, f_cutT, f_cutL, wipeX, List.all_cons, List.all_nil, List.contains_cons, List.elem_nil, Bool.and_true, Bool.true_and, beq_self_eq_true, Bool.or_true, Bool.true_or, Bool.false_eq_true, Option.some.injEq, decide_true, decide_false, Bool.not_true, Bool.not_false, Nat.reduceBEq, Bool.or_false, Bool.false_or, List.append_nil, List.singleton_append, true_and, and_true, and_self, ey, takeF_i, bind_d]
    refine le_draw o1 o2 fun c c0 c1 => ?_
    obtain ⟨b, rfl⟩ : ∃ b : Br, y = .str b.nm := by
      rcases hy with rfl | rfl | rfl | rfl
      · exact ⟨(true, true), rfl⟩
      · exact ⟨(true, false), rfl⟩
      · exact ⟨(false, true), rfl⟩
      · exact ⟨(false, false), rfl⟩
    rw [if_pos (show (wD w).length ≤ 100000 by rw [List.length_map]; omega)]
    refine ⟨_, rfl, w ++ [(b, 1 + c)], .dat d, by rw [List.length_append, hw]; rfl, by omega, fun x hx => ?_, by simp [rnD]⟩
    rcases List.mem_append.mp hx with hx | hx
    · exact hb x hx
    · rw [List.mem_singleton.mp hx]
      exact ⟨by show 1 ≤ 1 + c; omega, by show 1 + c ≤ o; omega⟩
  rw [List.length_map, List.length_range] at hL
  refine Dr.le_up (Dr.le_bind (m := 0) hL fun f ⟨env', ef, w, u, hw, _, hb, he⟩ => ?_) (show 2 * j.toNat + 0 ≤ 2 * m.toNat by omega)
  subst ef he
  exact ⟨w, rfl, by omega, hb⟩
end DP

namespace DP
open PySem PySem.Spec PyProof.Rows L2 ZX DL RT
/-! ## data that are alike -/
mutual
theorem eqv_refl : ∀ d : PyData, d.canLay0 = true → PyData.eqv d d = true
  | .none, _ => rfl
  | .bool b, _ => by simp [PyData.eqv]
  | .int i, _ => by simp [PyData.eqv]
  | .str x, _ => by simp [PyData.eqv]
  | .list xs, h => eqvAll_refl xs h
  | .tuple xs, h => eqvAll_refl xs h
  | .dict _, h => by cases h
theorem eqvAll_refl : ∀ ds : List PyData, PyData.canLayAll0 ds = true → PyData.eqvAll ds ds = true
  | [], _ => rfl
  | d :: ds, h => by
    obtain ⟨h1, h2⟩ := Bool.and_eq_true_iff.mp (show (d.canLay0 && PyData.canLayAll0 ds) = true from h)
    show (PyData.eqv d d && PyData.eqvAll ds ds) = true
    rw [eqv_refl d h1, eqvAll_refl ds h2]
    rfl
end
theorem lay_ints : ∀ ns : List Int, PyData.canLayAll0 (dI ns) = true
  | [] => rfl
  | n :: ns => lay_ints ns
theorem depth_ints : ∀ ns : List Int, PyData.depthAll (dI ns) = 0
  | [] => rfl
  | n :: ns => by
    show max 0 (PyData.depthAll (dI ns)) = 0
    rw [depth_ints ns]
    rfl
theorem shaped_l (ns : List Int) : SeqAt.shaped (lN ns) = true := by
  unfold SeqAt.shaped
  refine Bool.and_eq_true_iff.mpr ⟨lay_ints ns, decide_eq_true ?_⟩
  show PyData.depthAll (dI ns) + 1 ≤ 64
  rw [depth_ints]
  decide
theorem shaped_t (ns : List Int) : SeqAt.shaped (tN ns) = true := by
  unfold SeqAt.shaped
  refine Bool.and_eq_true_iff.mpr ⟨lay_ints ns, decide_eq_true ?_⟩
  show PyData.depthAll (dI ns) + 1 ≤ 64
  rw [depth_ints]
  decide
theorem eqvAll_ints : ∀ ns ms : List Int, PyData.eqvAll (dI ns) (dI ms) = decide (ns = ms)
  | [], [] => rfl
  | [], _ :: _ => rfl
  | _ :: _, [] => rfl
  | n :: ns, m :: ms => by
    show ((n == m) && PyData.eqvAll (dI ns) (dI ms)) = decide (n :: ns = m :: ms)
    rw [eqvAll_ints ns ms]
    by_cases h : n = m <;> by_cases h2 : ns = ms <;> simp [h, h2]
theorem neD_l (ns ms : List Int) : oNeD.f (lN ns) (lN ms) = some (.bool (!decide (ns = ms))) := by
  show (if _ then some (PyData.bool (!PyData.eqv (lN ns) (lN ms))) else none) = _
  rw [if_pos ⟨shaped_l ns, shaped_l ms⟩]
  show some (PyData.bool (!PyData.eqvAll (dI ns) (dI ms))) = _
  rw [eqvAll_ints]
theorem eqD_l (ns ms : List Int) : oEqD.f (lN ns) (lN ms) = some (.bool (decide (ns = ms))) := by
  show (if _ then some (PyData.bool (PyData.eqv (lN ns) (lN ms))) else none) = _
  rw [if_pos ⟨shaped_l ns, shaped_l ms⟩]
  show some (PyData.bool (PyData.eqvAll (dI ns) (dI ms))) = _
  rw [eqvAll_ints]
theorem neD_t (ns ms : List Int) : oNeD.f (tN ns) (tN ms) = some (.bool (!decide (ns = ms))) := by
  show (if _ then some (PyData.bool (!PyData.eqv (tN ns) (tN ms))) else none) = _
  rw [if_pos ⟨shaped_t ns, shaped_t ms⟩]
  show some (PyData.bool (!PyData.eqvAll (dI ns) (dI ms))) = _
  rw [eqvAll_ints]
theorem eqD_t (ns ms : List Int) : oEqD.f (tN ns) (tN ms) = some (.bool (decide (ns = ms))) := by
  show (if _ then some (PyData.bool (PyData.eqv (tN ns) (tN ms))) else none) = _
  rw [if_pos ⟨shaped_t ns, shaped_t ms⟩]
  show some (PyData.bool (PyData.eqvAll (dI ns) (dI ms))) = _
  rw [eqvAll_ints]
theorem pl_int' (n : Nat) (i : Int) : Pl n (.int i) := by cases n <;> trivial
theorem pl_tN (n : Nat) {ns : List Int} (h : ns.length ≤ 100000) : Pl (n + 1) (tN ns) := ⟨by rw [List.length_map]; exact h, fun y hy => by
  obtain ⟨i, _, rfl⟩ := List.mem_map.mp hy
  exact pl_int' n i⟩
theorem pl_lN (n : Nat) {ns : List Int} (h : ns.length ≤ 100000) : Pl (n + 1) (lN ns) := ⟨by rw [List.length_map]; exact h, fun y hy => by
  obtain ⟨i, _, rfl⟩ := List.mem_map.mp hy
  exact pl_int' n i⟩
/-! ## zips of numbers -/
theorem zip_ll (xs ys : List Int) : wZip.f [lN xs, lN ys] = some ((xs.zip ys).map fun p => .tuple [.int p.1, .int p.2]) := by
  show some (zipD (dI xs) (dI ys)) = _
  rw [zip_map]
theorem zip_tt (xs ys : List Int) : wZip.f [tN xs, tN ys] = some ((xs.zip ys).map fun p => .tuple [.int p.1, .int p.2]) := by
  show some (zipD (dI xs) (dI ys)) = _
  rw [zip_map]
theorem cut_from1 (xs : List Int) : cutD (dI xs) (some 1) none = dI (xs.drop 1) := by
  unfold cutD
  show ((dI xs).drop (min (1 : Int).toNat (dI xs).length)).take ((dI xs).length - min (1 : Int).toNat (dI xs).length) = _
  cases xs with
  | nil => rfl
  | cons x xs =>
    have : min (1 : Int).toNat (dI (x :: xs)).length = 1 := by
      rw [List.length_map, List.length_cons]
      show min 1 (xs.length + 1) = 1
      omega
    rw [this, List.take_of_length_le (by rw [List.length_drop]; exact Nat.le_refl _), ← List.map_drop]
/-! ## words -/
theorem netB_app (b : Br) (w u : Wd') : netB b (w ++ u) = netB b w + netB b u := by
  unfold netB
  rw [List.filter_append, List.map_append, List.sum_append]
theorem netB_one (b : Br) (x : Br × Int) : netB b [x] = if x.1 = b then x.2 else 0 := by
  unfold netB
  by_cases h : x.1 = b
  · rw [if_pos h]
    simp [h]
  · rw [if_neg h]
    simp [h]
def net (w : Wd') : Int := netB (true, true) w - netB (true, false) w + (netB (false, true) w - netB (false, false) w)
def sg (cs : List Int) : Int := cs.getD 0 0 - cs.getD 1 0 + (cs.getD 2 0 - cs.getD 3 0)
theorem four {cs : List Int} (h : cs.length = 4) : ∃ a b c d, cs = [a, b, c, d] := by
  match cs, h with
  | [a, b, c, d], _ => exact ⟨a, b, c, d, rfl⟩
theorem sum_fold {rs : List Int} : ∀ {w : Wd'} {ls cs : List Int}, Fit rs ls → WOk w → cs.length = 4 → (w.foldl (wstep rs) (ls, cs)).1.sum + sg (w.foldl (wstep rs) (ls, cs)).2 = ls.sum + sg cs + net w
  | [], ls, cs, _, _, _ => by
    show ls.sum + sg cs = ls.sum + sg cs + 0
    omega
  | x :: w, ls, cs, h, ho, hc => by
    have hx := ho x (List.mem_cons_self ..)
    have e := sum_fold (w := w) (ls := (wstep rs (ls, cs) x).1) (cs := (wstep rs (ls, cs) x).2) (runM_fit h hx).1 (fun y hy => ho y (List.mem_cons_of_mem _ hy)) (by show (cs.set _ _).length = 4; rw [List.length_set]; exact hc)
    rw [List.foldl_cons, e]
    have e2 := runM_sum (b := x.1) (n := x.2) h
    have e3 : net (x :: w) = net [x] + net w := by
      unfold net
      rw [show x :: w = [x] ++ w from rfl, netB_app, netB_app, netB_app, netB_app]
      omega
    rw [e3]
    show (runM x.1 rs ls x.2).1.sum + sg (cs.set (hix x.1) (cs.getD (hix x.1) 0 + (runM x.1 rs ls x.2).2)) + net w = _
    rw [e2]
    obtain ⟨a, b, c, d, rfl⟩ := four hc
    unfold net sg put1
    simp only [netB_one]
    obtain ⟨⟨_ | _, _ | _⟩, m⟩ := x <;> simp [hix] <;> omega
theorem wordM_sum {rs ls : List Int} {w : Wd'} (h : Fit rs ls) (ho : WOk w) : (wordM rs ls w).1.sum + sg (wordM rs ls w).2 = ls.sum + net w := by
  have := sum_fold (w := w) (ls := ls) (cs := [0, 0, 0, 0]) h ho rfl
  rw [show sg [0, 0, 0, 0] = 0 from rfl] at this
  unfold wordM
  omega
/-- one run more -/
theorem wordM_snoc (rs ls : List Int) (w : Wd') (x : Br × Int) : wordM rs ls (w ++ [x]) = wstep rs (wordM rs ls w) x := by
  unfold wordM
  rw [List.foldl_append]
  rfl
def addV (xs ys : List Int) : List Int := (xs.zip ys).map fun p => p.1 + p.2
theorem wordM_one {rs ls : List Int} {w : Wd'} {x : Br × Int} (h : Fit rs ls) (ho : WOk w) : (wordM rs ls (w ++ [x])).1 = (wordM rs (wordM rs ls w).1 [x]).1 ∧ (wordM rs ls (w ++ [x])).2 = addV (wordM rs ls w).2 (wordM rs (wordM rs ls w).1 [x]).2 := by
  rw [wordM_snoc]
  obtain ⟨_, h4⟩ := wordM_ok h ho
  refine ⟨rfl, ?_⟩
  obtain ⟨a, b, c, d, e⟩ := four h4
  show (wordM rs ls w).2.set (hix x.1) ((wordM rs ls w).2.getD (hix x.1) 0 + (runM x.1 rs (wordM rs ls w).1 x.2).2) = addV (wordM rs ls w).2 ([0, 0, 0, 0].set (hix x.1) ([0, 0, 0, 0].getD (hix x.1) 0 + (runM x.1 rs (wordM rs ls w).1 x.2).2))
  rw [e]
  obtain ⟨⟨_ | _, _ | _⟩, m⟩ := x <;> simp [hix, addV]
/-! winds, gap by gap -/
def wf (c a b : Int) : List Int → List Int → List Int
  | l :: ls, m :: ms => (c - b + a) :: wf c (a + l) (b + m) ls ms
  | _, _ => [c - b + a]
theorem wf_eq (c : Int) : ∀ (ls ms : List Int) (a b : Int), ls.length = ms.length → ((preF a ls).zip (preF b ms)).map (fun p => c - p.2 + p.1) = wf c a b ls ms
  | [], [], a, b, _ => rfl
  | [], _ :: _, _, _, h => by cases h
  | _ :: _, [], _, _, h => by cases h
  | l :: ls, m :: ms, a, b, h => by
    show (c - b + a) :: ((preF (a + l) ls).zip (preF (b + m) ms)).map (fun p => c - p.2 + p.1) = _
    rw [wf_eq c ls ms (a + l) (b + m) (by simpa using h)]
    rfl
theorem windsM_wf {rs ls : List Int} {w : Wd'} (h : Fit rs ls) (ho : WOk w) : windsM rs ls w = wf (came rs ls w) 0 0 ls (wordM rs ls w).1 := by
  unfold windsM
  exact wf_eq _ ls _ 0 0 (by rw [h.len, (wordM_ok h ho).1.len])
theorem wf_len (c : Int) : ∀ (ls ms : List Int) (a b : Int), ls.length = ms.length → (wf c a b ls ms).length = ls.length + 1
  | [], [], a, b, _ => rfl
  | [], _ :: _, _, _, h => by cases h
  | _ :: _, [], _, _, h => by cases h
  | l :: ls, m :: ms, a, b, h => congrArg Nat.succ (wf_len c ls ms (a + l) (b + m) (by simpa using h))
theorem wf_add (c d : Int) : ∀ (ls ms ks : List Int) (a b e : Int), ls.length = ms.length → ms.length = ks.length → addV (wf c a b ls ms) (wf d b e ms ks) = wf (c + d) a e ls ks
  | [], [], [], a, b, e, _, _ => by
    show [c - b + a + (d - e + b)] = [c + d - e + a]
    congr 1
    omega
  | l :: ls, m :: ms, k :: ks, a, b, e, h1, h2 => by
    show (c - b + a + (d - e + b)) :: addV (wf c (a + l) (b + m) ls ms) (wf d (b + m) (e + k) ms ks) = (c + d - e + a) :: wf (c + d) (a + l) (e + k) ls ks
    rw [wf_add c d ls ms ks _ _ _ (by simpa using h1) (by simpa using h2)]
    congr 1
    omega
  | [], [], _ :: _, _, _, _, _, h => by cases h
  | [], _ :: _, _, _, _, _, h, _ => by cases h
  | _ :: _, [], _, _, _, _, h, _ => by cases h
  | _ :: _, _ :: _, [], _, _, _, _, h => by cases h
theorem wf_zero : ∀ (ls : List Int) (a : Int), wf 0 a a ls ls = List.replicate (ls.length + 1) 0
  | [], a => by
    show [0 - a + a] = [0]
    congr 1
    omega
  | l :: ls, a => by
    show (0 - a + a) :: wf 0 (a + l) (a + l) ls ls = _
    rw [wf_zero ls (a + l), List.length_cons, List.replicate_succ]
    congr 1
    omega
/-- the first and the last -/
theorem wf_head (c : Int) (ls ms : List Int) (a b : Int) (h : ls.length = ms.length) : (wf c a b ls ms)[0]? = some (c - b + a) := by
  cases ls with
  | nil => rfl
  | cons l ls =>
    cases ms with
    | nil => rfl
    | cons m ms => rfl
theorem wf_last (c : Int) : ∀ (ls ms : List Int) (a b : Int), ls.length = ms.length → ∃ xs, wf c a b ls ms = xs ++ [c - (b + ms.sum) + (a + ls.sum)]
  | [], [], a, b, _ => ⟨[], by show [c - b + a] = [c - (b + 0) + (a + 0)]; rw [Int.add_zero, Int.add_zero]⟩
  | [], _ :: _, _, _, h => by cases h
  | _ :: _, [], _, _, h => by cases h
  | l :: ls, m :: ms, a, b, h => by
    obtain ⟨xs, e⟩ := wf_last c ls ms (a + l) (b + m) (by simpa using h)
    refine ⟨(c - b + a) :: xs, ?_⟩
    show (c - b + a) :: wf c (a + l) (b + m) ls ms = _
    rw [e, List.sum_cons, List.sum_cons, List.cons_append]
    congr 3
    omega
/-- from gap to gap -/
theorem wf_diff (c : Int) : ∀ (ls ms : List Int) (a b : Int), ls.length = ms.length → ((wf c a b ls ms).zip ((wf c a b ls ms).drop 1)).map (fun p => p.1 - p.2) = (ls.zip ms).map fun p => p.2 - p.1
  | [], [], a, b, _ => rfl
  | [], _ :: _, _, _, h => by cases h
  | _ :: _, [], _, _, h => by cases h
  | l :: ls, m :: ms, a, b, h => by
    have e := wf_diff c ls ms (a + l) (b + m) (by simpa using h)
    have h0 := wf_head c ls ms (a + l) (b + m) (by simpa using h)
    show (((c - b + a) :: wf c (a + l) (b + m) ls ms).zip (wf c (a + l) (b + m) ls ms)).map (fun p => p.1 - p.2) = (m - l) :: (ls.zip ms).map fun p => p.2 - p.1
    cases hw : wf c (a + l) (b + m) ls ms with
    | nil =>
      rw [hw] at h0
      cases h0
    | cons x xs =>
      rw [hw] at h0 e
      cases h0
      show (c - b + a - (c - (b + m) + (a + l))) :: _ = _
      rw [← e]
      congr 1
      omega
end DP

namespace DP
open PySem PySem.Spec PyProof.Rows L2 ZX DL RT
theorem map_dI {α : Type} (xs : List α) (f : α → Int) : xs.map (fun x => PyData.int (f x)) = dI (xs.map f) := by
  rw [dI, List.map_map]
  rfl
theorem zip_seq {d e : PyData} {xs ys : List Int} (h1 : seqF d = some (dI xs)) (h2 : seqF e = some (dI ys)) : wZip.f [d, e] = some ((xs.zip ys).map fun p => .tuple [.int p.1, .int p.2]) := by
  show (seqF d).bind (fun ds => (seqF e).map fun es => zipD ds es) = _
  rw [h1, h2]
  show some (zipD (dI xs) (dI ys)) = _
  rw [zip_map]
/-! ## turned, contrary -/
def turn (b : Br) : Br := (!b.1, b.2)
def contr (b : Br) : Br := (b.1, !b.2)
def turW (w : Wd') : Wd' := w.map fun x => (turn x.1, x.2)
def conW (w : Wd') : Wd' := w.map fun x => (contr x.1, x.2)
theorem gd_turn (b : Br) : gdAt 1 (.str b.nm) = .ret (.str (turn b).nm) := by
  rcases b with ⟨_ | _, _ | _⟩ <;> rfl
theorem gd_contr (b : Br) : gdAt 2 (.str b.nm) = .ret (.str (contr b).nm) := by
  rcases b with ⟨_ | _, _ | _⟩ <;> rfl
theorem turned_eq {wd : PyData} {w : Wd'} (hw : seqF wd = some (wD w)) (hl : w.length ≤ 100000) : sem_turned [wd] = .ret (.list (wD (turW w))) := by
  have ew : wSeq.f wd = some (w.map rnD) := hw
  simp only [sem_turned, a_turned, DP.run, DP.runB, evS, evE, evA, evT, evP, evI, startE, startX, slot_zero, slot_succ, own_zero, own_succ, box_zero, box_succ, bind_r, Dr.bind_assoc, pur_r, put_nm, put_tp, put_tpL, puts_nil, puts_cons, then_nx, then_rt, then_rtO, told_rtO, put2_c, put3_c, evF, evB, flat_i, flat_b, flat_s, asLst_l, f_intI, f_intB, f_odd, f_notN, f_fListL, f_fListT, non_i, non_n, f_neS, then_bk, then_ct, told_rt, evT_qY, andB_t, andB_f, orB_t, orB_f, asInt_i, Dr.opt_some, small, within, List.length_cons, List.length_nil, List.map_cons, List.map_nil, List.cons_append, List.nil_append, List.replicate, List.set_cons_zero, List.set_cons_succ, Tt.vs, Ts.vs, Option.bind_some, Nat.reduceAdd, Nat.reduceSub, Nat.reduceLeDiff, Nat.reduceEqDiff, reduceIte, if_true, if_false, asIx_int, f_add, f_sub, f_lt, f_le, f_gt, f_ge, f_addA, f_subA, f_eqI, f_eqS, f_eqB, f_neI, f_isN, f_ixL, f_ixT, f_neg, f_not, f_min, f_max, f_abs, f_tB, f_lenL, f_lenT, f_list, f_listT, f_tup, f_tupT, f_wSeqL, f_wSeqT, f_cutT, f_cutL, wipeX, List.all_cons, List.all_nil, List.contains_cons, List.elem_nil, Bool.and_true, Bool.true_and, beq_self_eq_true, Bool.or_true, Bool.true_or, Bool.false_eq_true, Option.some.injEq, decide_true, decide_false, Bool.not_true, Bool.not_false, Nat.reduceBEq, Bool.or_false, Bool.false_or, List.append_nil, List.singleton_append, true_and, and_true, and_self, ew, List.length_map, hl]
  rw [compr_map (h := fun x : Br × Int => rnD (turn x.1, x.2)) fun x _ => by simp only [cstep, x_turned_1, rnD, DP.run, DP.runB, evS, evE, evA, evT, evP, evI, startE, startX, slot_zero, slot_succ, own_zero, own_succ, box_zero, box_succ, bind_r, Dr.bind_assoc, pur_r, put_nm, put_tp, put_tpL, puts_nil, puts_cons, then_nx, then_rt, then_rtO, told_rtO, put2_c, put3_c, evF, evB, flat_i, flat_b, flat_s, asLst_l, f_intI, f_intB, f_odd, f_notN, f_fListL, f_fListT, non_i, non_n, f_neS, then_bk, then_ct, told_rt, evT_qY, andB_t, andB_f, orB_t, orB_f, asInt_i, Dr.opt_some, small, within, List.length_cons, List.length_nil, List.map_cons, List.map_nil, List.cons_append, List.nil_append, List.replicate, List.set_cons_zero, List.set_cons_succ, Tt.vs, Ts.vs, Option.bind_some, Nat.reduceAdd, Nat.reduceSub, Nat.reduceLeDiff, Nat.reduceEqDiff, reduceIte, if_true, if_false, asIx_int, f_add, f_sub, f_lt, f_le, f_gt, f_ge, f_addA, f_subA, f_eqI, f_eqS, f_eqB, f_neI, f_isN, f_ixL, f_ixT, f_neg, f_not, f_min, f_max, f_abs, f_tB, f_lenL, f_lenT, f_list, f_listT, f_tup, f_tupT, f_wSeqL, f_wSeqT, f_cutT, f_cutL, wipeX, List.all_cons, List.all_nil, List.contains_cons, List.elem_nil, Bool.and_true, Bool.true_and, beq_self_eq_true, Bool.or_true, Bool.true_or, Bool.false_eq_true, Option.some.injEq, decide_true, decide_false, Bool.not_true, Bool.not_false, Nat.reduceBEq, Bool.or_false, Bool.false_or, List.append_nil, List.singleton_append, true_and, and_true, and_self, gd_turn]]
  simp only [DP.run, DP.runB, evS, evE, evA, evT, evP, evI, startE, startX, slot_zero, slot_succ, own_zero, own_succ, box_zero, box_succ, bind_r, Dr.bind_assoc, pur_r, put_nm, put_tp, put_tpL, puts_nil, puts_cons, then_nx, then_rt, then_rtO, told_rtO, put2_c, put3_c, evF, evB, flat_i, flat_b, flat_s, asLst_l, f_intI, f_intB, f_odd, f_notN, f_fListL, f_fListT, non_i, non_n, f_neS, then_bk, then_ct, told_rt, evT_qY, andB_t, andB_f, orB_t, orB_f, asInt_i, Dr.opt_some, small, within, List.length_cons, List.length_nil, List.map_cons, List.map_nil, List.cons_append, List.nil_append, List.replicate, List.set_cons_zero, List.set_cons_succ, Tt.vs, Ts.vs, Option.bind_some, Nat.reduceAdd, Nat.reduceSub, Nat.reduceLeDiff, Nat.reduceEqDiff, reduceIte, if_true, if_false, asIx_int, f_add, f_sub, f_lt, f_le, f_gt, f_ge, f_addA, f_subA, f_eqI, f_eqS, f_eqB, f_neI, f_isN, f_ixL, f_ixT, f_neg, f_not, f_min, f_max, f_abs, f_tB, f_lenL, f_lenT, f_list, f_listT, f_tup, f_tupT, f_wSeqL, f_wSeqT, f_cutT, f_cutL, wipeX, List.all_cons, List.all_nil, List.contains_cons, List.elem_nil, Bool.and_true, Bool.true_and, beq_self_eq_true, Bool.or_true, Bool.true_or, Bool.false_eq_true, Option.some.injEq, decide_true, decide_false, Bool.not_true, Bool.not_false, Nat.reduceBEq, Bool.or_false, Bool.false_or, List.append_nil, List.singleton_append, true_and, and_true, and_self]
  unfold turW
  rw [wD, List.map_map]
  rfl
theorem contrary_eq {wd : PyData} {w : Wd'} (hw : seqF wd = some (wD w)) (hl : w.length ≤ 100000) : sem_contrary [wd] = .ret (.list (wD (conW w))) := by
  have ew : wSeq.f wd = some (w.map rnD) := hw
  simp only [sem_contrary, a_contrary, DP.run, DP.runB, evS, evE, evA, evT, evP, evI, startE, startX, slot_zero, slot_succ, own_zero, own_succ, box_zero, box_succ, bind_r, Dr.bind_assoc, pur_r, put_nm, put_tp, put_tpL, puts_nil, puts_cons, then_nx, then_rt, then_rtO, told_rtO, put2_c, put3_c, evF, evB, flat_i, flat_b, flat_s, asLst_l, f_intI, f_intB, f_odd, f_notN, f_fListL, f_fListT, non_i, non_n, f_neS, then_bk, then_ct, told_rt, evT_qY, andB_t, andB_f, orB_t, orB_f, asInt_i, Dr.opt_some, small, within, List.length_cons, List.length_nil, List.map_cons, List.map_nil, List.cons_append, List.nil_append, List.replicate, List.set_cons_zero, List.set_cons_succ, Tt.vs, Ts.vs, Option.bind_some, Nat.reduceAdd, Nat.reduceSub, Nat.reduceLeDiff, Nat.reduceEqDiff, reduceIte, if_true, if_false, asIx_int, f_add, f_sub, f_lt, f_le, f_gt, f_ge, f_addA, f_subA, f_eqI, f_eqS, f_eqB, f_neI, f_isN, f_ixL, f_ixT, f_neg, f_not, f_min, f_max, f_abs, f_tB, f_lenL, f_lenT, f_list, f_listT, f_tup, f_tupT, f_wSeqL, f_wSeqT, f_cutT, f_cutL, wipeX, List.all_cons, List.all_nil, List.contains_cons, List.elem_nil, Bool.and_true, Bool.true_and, beq_self_eq_true, Bool.or_true, Bool.true_or, Bool.false_eq_true, Option.some.injEq, decide_true, decide_false, Bool.not_true, Bool.not_false, Nat.reduceBEq, Bool.or_false, Bool.false_or, List.append_nil, List.singleton_append, true_and, and_true, and_self, ew, List.length_map, hl]
  rw [compr_map (h := fun x : Br × Int => rnD (contr x.1, x.2)) fun x _ => by simp only [cstep, x_contrary_1, rnD, DP.run, DP.runB, evS, evE, evA, evT, evP, evI, startE, startX, slot_zero, slot_succ, own_zero, own_succ, box_zero, box_succ, bind_r, Dr.bind_assoc, pur_r, put_nm, put_tp, put_tpL, puts_nil, puts_cons, then_nx, then_rt, then_rtO, told_rtO, put2_c, put3_c, evF, evB, flat_i, flat_b, flat_s, asLst_l, f_intI, f_intB, f_odd, f_notN, f_fListL, f_fListT, non_i, non_n, f_neS, then_bk, then_ct, told_rt, evT_qY, andB_t, andB_f, orB_t, orB_f, asInt_i, Dr.opt_some, small, within, List.length_cons, List.length_nil, List.map_cons, List.map_nil, List.cons_append, List.nil_append, List.replicate, List.set_cons_zero, List.set_cons_succ, Tt.vs, Ts.vs, Option.bind_some, Nat.reduceAdd, Nat.reduceSub, Nat.reduceLeDiff, Nat.reduceEqDiff, reduceIte, if_true, if_false, asIx_int, f_add, f_sub, f_lt, f_le, f_gt, f_ge, f_addA, f_subA, f_eqI, f_eqS, f_eqB, f_neI, f_isN, f_ixL, f_ixT, f_neg, f_not, f_min, f_max, f_abs, f_tB, f_lenL, f_lenT, f_list, f_listT, f_tup, f_tupT, f_wSeqL, f_wSeqT, f_cutT, f_cutL, wipeX, List.all_cons, List.all_nil, List.contains_cons, List.elem_nil, Bool.and_true, Bool.true_and, beq_self_eq_true, Bool.or_true, Bool.true_or, Bool.false_eq_true, Option.some.injEq, decide_true, decide_false, Bool.not_true, Bool.not_false, Nat.reduceBEq, Bool.or_false, Bool.false_or, List.append_nil, List.singleton_append, true_and, and_true, and_self, gd_contr]]
  simp only [DP.run, DP.runB, evS, evE, evA, evT, evP, evI, startE, startX, slot_zero, slot_succ, own_zero, own_succ, box_zero, box_succ, bind_r, Dr.bind_assoc, pur_r, put_nm, put_tp, put_tpL, puts_nil, puts_cons, then_nx, then_rt, then_rtO, told_rtO, put2_c, put3_c, evF, evB, flat_i, flat_b, flat_s, asLst_l, f_intI, f_intB, f_odd, f_notN, f_fListL, f_fListT, non_i, non_n, f_neS, then_bk, then_ct, told_rt, evT_qY, andB_t, andB_f, orB_t, orB_f, asInt_i, Dr.opt_some, small, within, List.length_cons, List.length_nil, List.map_cons, List.map_nil, List.cons_append, List.nil_append, List.replicate, List.set_cons_zero, List.set_cons_succ, Tt.vs, Ts.vs, Option.bind_some, Nat.reduceAdd, Nat.reduceSub, Nat.reduceLeDiff, Nat.reduceEqDiff, reduceIte, if_true, if_false, asIx_int, f_add, f_sub, f_lt, f_le, f_gt, f_ge, f_addA, f_subA, f_eqI, f_eqS, f_eqB, f_neI, f_isN, f_ixL, f_ixT, f_neg, f_not, f_min, f_max, f_abs, f_tB, f_lenL, f_lenT, f_list, f_listT, f_tup, f_tupT, f_wSeqL, f_wSeqT, f_cutT, f_cutL, wipeX, List.all_cons, List.all_nil, List.contains_cons, List.elem_nil, Bool.and_true, Bool.true_and, beq_self_eq_true, Bool.or_true, Bool.true_or, Bool.false_eq_true, Option.some.injEq, decide_true, decide_false, Bool.not_true, Bool.not_false, Nat.reduceBEq, Bool.or_false, Bool.false_or, List.append_nil, List.singleton_append, true_and, and_true, and_self]
  unfold conW
  rw [wD, List.map_map]
  rfl
def sizeM (w : Wd') : Int := (w.map (·.2)).sum
theorem size_of_eq {wd : PyData} {w : Wd'} (hw : seqF wd = some (wD w)) (hl : w.length ≤ 100000) : sem_size_of [wd] = .ret (.int (sizeM w)) := by
  have ew : wSeq.f wd = some (w.map rnD) := hw
  simp only [sem_size_of, a_size_of, DP.run, DP.runB, evS, evE, evA, evT, evP, evI, startE, startX, slot_zero, slot_succ, own_zero, own_succ, box_zero, box_succ, bind_r, Dr.bind_assoc, pur_r, put_nm, put_tp, put_tpL, puts_nil, puts_cons, then_nx, then_rt, then_rtO, told_rtO, put2_c, put3_c, evF, evB, flat_i, flat_b, flat_s, asLst_l, f_intI, f_intB, f_odd, f_notN, f_fListL, f_fListT, non_i, non_n, f_neS, then_bk, then_ct, told_rt, evT_qY, andB_t, andB_f, orB_t, orB_f, asInt_i, Dr.opt_some, small, within, List.length_cons, List.length_nil, List.map_cons, List.map_nil, List.cons_append, List.nil_append, List.replicate, List.set_cons_zero, List.set_cons_succ, Tt.vs, Ts.vs, Option.bind_some, Nat.reduceAdd, Nat.reduceSub, Nat.reduceLeDiff, Nat.reduceEqDiff, reduceIte, if_true, if_false, asIx_int, f_add, f_sub, f_lt, f_le, f_gt, f_ge, f_addA, f_subA, f_eqI, f_eqS, f_eqB, f_neI, f_isN, f_ixL, f_ixT, f_neg, f_not, f_min, f_max, f_abs, f_tB, f_lenL, f_lenT, f_list, f_listT, f_tup, f_tupT, f_wSeqL, f_wSeqT, f_cutT, f_cutL, wipeX, List.all_cons, List.all_nil, List.contains_cons, List.elem_nil, Bool.and_true, Bool.true_and, beq_self_eq_true, Bool.or_true, Bool.true_or, Bool.false_eq_true, Option.some.injEq, decide_true, decide_false, Bool.not_true, Bool.not_false, Nat.reduceBEq, Bool.or_false, Bool.false_or, List.append_nil, List.singleton_append, true_and, and_true, and_self, ew, List.length_map, hl]
  rw [compr_map (h := fun x : Br × Int => .int x.2) fun x _ => by simp only [cstep, x_size_of_1, rnD, DP.run, DP.runB, evS, evE, evA, evT, evP, evI, startE, startX, slot_zero, slot_succ, own_zero, own_succ, box_zero, box_succ, bind_r, Dr.bind_assoc, pur_r, put_nm, put_tp, put_tpL, puts_nil, puts_cons, then_nx, then_rt, then_rtO, told_rtO, put2_c, put3_c, evF, evB, flat_i, flat_b, flat_s, asLst_l, f_intI, f_intB, f_odd, f_notN, f_fListL, f_fListT, non_i, non_n, f_neS, then_bk, then_ct, told_rt, evT_qY, andB_t, andB_f, orB_t, orB_f, asInt_i, Dr.opt_some, small, within, List.length_cons, List.length_nil, List.map_cons, List.map_nil, List.cons_append, List.nil_append, List.replicate, List.set_cons_zero, List.set_cons_succ, Tt.vs, Ts.vs, Option.bind_some, Nat.reduceAdd, Nat.reduceSub, Nat.reduceLeDiff, Nat.reduceEqDiff, reduceIte, if_true, if_false, asIx_int, f_add, f_sub, f_lt, f_le, f_gt, f_ge, f_addA, f_subA, f_eqI, f_eqS, f_eqB, f_neI, f_isN, f_ixL, f_ixT, f_neg, f_not, f_min, f_max, f_abs, f_tB, f_lenL, f_lenT, f_list, f_listT, f_tup, f_tupT, f_wSeqL, f_wSeqT, f_cutT, f_cutL, wipeX, List.all_cons, List.all_nil, List.contains_cons, List.elem_nil, Bool.and_true, Bool.true_and, beq_self_eq_true, Bool.or_true, Bool.true_or, Bool.false_eq_true, Option.some.injEq, decide_true, decide_false, Bool.not_true, Bool.not_false, Nat.reduceBEq, Bool.or_false, Bool.false_or, List.append_nil, List.singleton_append, true_and, and_true, and_self]]
  simp only [DP.run, DP.runB, evS, evE, evA, evT, evP, evI, startE, startX, slot_zero, slot_succ, own_zero, own_succ, box_zero, box_succ, bind_r, Dr.bind_assoc, pur_r, put_nm, put_tp, put_tpL, puts_nil, puts_cons, then_nx, then_rt, then_rtO, told_rtO, put2_c, put3_c, evF, evB, flat_i, flat_b, flat_s, asLst_l, f_intI, f_intB, f_odd, f_notN, f_fListL, f_fListT, non_i, non_n, f_neS, then_bk, then_ct, told_rt, evT_qY, andB_t, andB_f, orB_t, orB_f, asInt_i, Dr.opt_some, small, within, List.length_cons, List.length_nil, List.map_cons, List.map_nil, List.cons_append, List.nil_append, List.replicate, List.set_cons_zero, List.set_cons_succ, Tt.vs, Ts.vs, Option.bind_some, Nat.reduceAdd, Nat.reduceSub, Nat.reduceLeDiff, Nat.reduceEqDiff, reduceIte, if_true, if_false, asIx_int, f_add, f_sub, f_lt, f_le, f_gt, f_ge, f_addA, f_subA, f_eqI, f_eqS, f_eqB, f_neI, f_isN, f_ixL, f_ixT, f_neg, f_not, f_min, f_max, f_abs, f_tB, f_lenL, f_lenT, f_list, f_listT, f_tup, f_tupT, f_wSeqL, f_wSeqT, f_cutT, f_cutL, wipeX, List.all_cons, List.all_nil, List.contains_cons, List.elem_nil, Bool.and_true, Bool.true_and, beq_self_eq_true, Bool.or_true, Bool.true_or, Bool.false_eq_true, Option.some.injEq, decide_true, decide_false, Bool.not_true, Bool.not_false, Nat.reduceBEq, Bool.or_false, Bool.false_or, List.append_nil, List.singleton_append, true_and, and_true, and_self, map_dI, sum_seq (d := .list (dI _)) rfl, sizeM]
/-! ## lacking -/
def lackM (rs ls : List Int) : List Int := (rs.zip ls).map fun p => p.1 - p.2
theorem lacking_eq {r st : PyData} {rs ls : List Int} (hr : seqF r = some (dI rs)) (hs : seqF st = some (dI ls)) (hl : rs.length ≤ 1000) : sem_lacking [r, st] = .ret (tN (lackM rs ls)) := by
  have hz : (rs.zip ls).length ≤ 100000 := by rw [List.length_zip]; omega
  simp only [sem_lacking, a_lacking, DP.run, DP.runB, evS, evE, evA, evT, evP, evI, startE, startX, slot_zero, slot_succ, own_zero, own_succ, box_zero, box_succ, bind_r, Dr.bind_assoc, pur_r, put_nm, put_tp, put_tpL, puts_nil, puts_cons, then_nx, then_rt, then_rtO, told_rtO, put2_c, put3_c, evF, evB, flat_i, flat_b, flat_s, asLst_l, f_intI, f_intB, f_odd, f_notN, f_fListL, f_fListT, non_i, non_n, f_neS, then_bk, then_ct, told_rt, evT_qY, andB_t, andB_f, orB_t, orB_f, asInt_i, Dr.opt_some, small, within, List.length_cons, List.length_nil, List.map_cons, List.map_nil, List.cons_append, List.nil_append, List.replicate, List.set_cons_zero, List.set_cons_succ, Tt.vs, Ts.vs, Option.bind_some, Nat.reduceAdd, Nat.reduceSub, Nat.reduceLeDiff, Nat.reduceEqDiff, reduceIte, if_true, if_false, asIx_int, f_add, f_sub, f_lt, f_le, f_gt, f_ge, f_addA, f_subA, f_eqI, f_eqS, f_eqB, f_neI, f_isN, f_ixL, f_ixT, f_neg, f_not, f_min, f_max, f_abs, f_tB, f_lenL, f_lenT, f_list, f_listT, f_tup, f_tupT, f_wSeqL, f_wSeqT, f_cutT, f_cutL, wipeX, List.all_cons, List.all_nil, List.contains_cons, List.elem_nil, Bool.and_true, Bool.true_and, beq_self_eq_true, Bool.or_true, Bool.true_or, Bool.false_eq_true, Option.some.injEq, decide_true, decide_false, Bool.not_true, Bool.not_false, Nat.reduceBEq, Bool.or_false, Bool.false_or, List.append_nil, List.singleton_append, true_and, and_true, and_self, zip_seq hr hs, List.length_map, hz]
  rw [compr_map (h := fun p : Int × Int => .int (p.1 - p.2)) fun x _ => by simp only [cstep, x_lacking_1, DP.run, DP.runB, evS, evE, evA, evT, evP, evI, startE, startX, slot_zero, slot_succ, own_zero, own_succ, box_zero, box_succ, bind_r, Dr.bind_assoc, pur_r, put_nm, put_tp, put_tpL, puts_nil, puts_cons, then_nx, then_rt, then_rtO, told_rtO, put2_c, put3_c, evF, evB, flat_i, flat_b, flat_s, asLst_l, f_intI, f_intB, f_odd, f_notN, f_fListL, f_fListT, non_i, non_n, f_neS, then_bk, then_ct, told_rt, evT_qY, andB_t, andB_f, orB_t, orB_f, asInt_i, Dr.opt_some, small, within, List.length_cons, List.length_nil, List.map_cons, List.map_nil, List.cons_append, List.nil_append, List.replicate, List.set_cons_zero, List.set_cons_succ, Tt.vs, Ts.vs, Option.bind_some, Nat.reduceAdd, Nat.reduceSub, Nat.reduceLeDiff, Nat.reduceEqDiff, reduceIte, if_true, if_false, asIx_int, f_add, f_sub, f_lt, f_le, f_gt, f_ge, f_addA, f_subA, f_eqI, f_eqS, f_eqB, f_neI, f_isN, f_ixL, f_ixT, f_neg, f_not, f_min, f_max, f_abs, f_tB, f_lenL, f_lenT, f_list, f_listT, f_tup, f_tupT, f_wSeqL, f_wSeqT, f_cutT, f_cutL, wipeX, List.all_cons, List.all_nil, List.contains_cons, List.elem_nil, Bool.and_true, Bool.true_and, beq_self_eq_true, Bool.or_true, Bool.true_or, Bool.false_eq_true, Option.some.injEq, decide_true, decide_false, Bool.not_true, Bool.not_false, Nat.reduceBEq, Bool.or_false, Bool.false_or, List.append_nil, List.singleton_append, true_and, and_true, and_self]]
  simp only [DP.run, DP.runB, evS, evE, evA, evT, evP, evI, startE, startX, slot_zero, slot_succ, own_zero, own_succ, box_zero, box_succ, bind_r, Dr.bind_assoc, pur_r, put_nm, put_tp, put_tpL, puts_nil, puts_cons, then_nx, then_rt, then_rtO, told_rtO, put2_c, put3_c, evF, evB, flat_i, flat_b, flat_s, asLst_l, f_intI, f_intB, f_odd, f_notN, f_fListL, f_fListT, non_i, non_n, f_neS, then_bk, then_ct, told_rt, evT_qY, andB_t, andB_f, orB_t, orB_f, asInt_i, Dr.opt_some, small, within, List.length_cons, List.length_nil, List.map_cons, List.map_nil, List.cons_append, List.nil_append, List.replicate, List.set_cons_zero, List.set_cons_succ, Tt.vs, Ts.vs, Option.bind_some, Nat.reduceAdd, Nat.reduceSub, Nat.reduceLeDiff, Nat.reduceEqDiff, reduceIte, if_true, if_false, asIx_int, f_add, f_sub, f_lt, f_le, f_gt, f_ge, f_addA, f_subA, f_eqI, f_eqS, f_eqB, f_neI, f_isN, f_ixL, f_ixT, f_neg, f_not, f_min, f_max, f_abs, f_tB, f_lenL, f_lenT, f_list, f_listT, f_tup, f_tupT, f_wSeqL, f_wSeqT, f_cutT, f_cutL, wipeX, List.all_cons, List.all_nil, List.contains_cons, List.elem_nil, Bool.and_true, Bool.true_and, beq_self_eq_true, Bool.or_true, Bool.true_or, Bool.false_eq_true, Option.some.injEq, decide_true, decide_false, Bool.not_true, Bool.not_false, Nat.reduceBEq, Bool.or_false, Bool.false_or, List.append_nil, List.singleton_append, true_and, and_true, and_self, map_dI, lackM]
theorem lack_fit : ∀ {rs ls : List Int}, Fit rs ls → Fit rs (lackM rs ls)
  | _, _, .nil => .nil
  | r :: rs, l :: ls, .cons h1 h2 h => .cons (by show 0 ≤ r - l; omega) (by show r - l ≤ r; omega) (lack_fit h)
theorem lack_lack : ∀ {rs ls : List Int}, Fit rs ls → lackM rs (lackM rs ls) = ls
  | _, _, .nil => rfl
  | r :: rs, l :: ls, .cons h1 h2 h => by
    show (r - (r - l)) :: lackM rs (lackM rs ls) = l :: ls
    rw [lack_lack h]
    congr 1
    omega
/-! ## lands -/
def diff : List Int → List Int → Option Nat
  | a :: as, b :: bs => if a ≠ b then some 0 else (diff as bs).map (· + 1)
  | _, _ => none
theorem diff_cons (a b : Int) (as bs : List Int) : diff (a :: as) (b :: bs) = if a ≠ b then some 0 else (diff as bs).map (· + 1) := rfl
def optD : Option Nat → PyData
  | none => .none
  | some i => .int (i : Int)
def landM (b : Br) (rs ls : List Int) : Option Nat := diff (runM b rs ls 1).1 ls
theorem lands_eq {r st : PyData} {rs ls : List Int} (hr : seqF r = some (dI rs)) (hs : seqF st = some (dI ls)) (hf : Fit rs ls) (hl : rs.length ≤ 1000) (b : Br) : sem_lands [r, st, .str b.nm] = .ret (optD (landM b rs ls)) := by
  have e1 := run_done_eq' hr hs hf hl (show (0 : Int) ≤ 1 by decide) b
  obtain ⟨f1, _, _⟩ := runM_fit (b := b) (n := 1) hf (by decide)
  obtain ⟨L, eL⟩ : ∃ L, (runM b rs ls 1).1 = L := ⟨_, rfl⟩
  obtain ⟨m, em⟩ : ∃ m, (runM b rs ls 1).2 = m := ⟨_, rfl⟩
  rw [eL, em] at e1
  rw [eL] at f1
  have hlen : L.length = ls.length := by rw [f1.len, hf.len]
  have key : ∀ (n k : Nat) (u v : Sl), k + n = L.length → ∃ u' v', forL (lstep (evS b_lands_1) (.tp (.cons (.nm 5) (.cons (.nm 6) .nil)))) ((List.range' k n).map fun i => .tuple [.int (i : Nat), (dI L).getD i .none]) [.dat r, .dat st, .dat (.str b.nm), .dat (lN L), .dat (.int m), u, v] = .ret (match diff (L.drop k) (ls.drop k) with
      | none => .nx [.dat r, .dat st, .dat (.str b.nm), .dat (lN L), .dat (.int m), u', v']
      | some i => .rt (.int ((k + i : Nat) : Int))) := fun n => by
    induction n with
    | zero =>
      intro k u v hk
      refine ⟨u, v, ?_⟩
      rw [List.drop_of_length_le (by omega)]
      rfl
    | succ n ih =>
      intro k u v hk
      have k1 : k < L.length := by omega
      have k2 : k < ls.length := by omega
      have g1 : (dI L).getD k .none = .int L[k] := by
        rw [List.getD_eq_getElem?_getD, List.getElem?_map, List.getElem?_eq_getElem k1]
        rfl
      have g2 : oIxQ.f st (.int (k : Int)) = some (.int ls[k]) := by
        rw [ixQ_seq hs, atI_nat' (a := .int ls[k]) (by rw [List.getElem?_map, List.getElem?_eq_getElem k2]; rfl)]
      rw [List.drop_eq_getElem_cons k1, List.drop_eq_getElem_cons k2, List.range'_succ, List.map_cons]
      obtain ⟨u', v', ih⟩ := ih (k + 1) (.dat (.int (k : Int))) (.dat (.int L[k])) (by omega)
      by_cases hd : L[k] = ls[k]
      · have st1 : lstep (evS b_lands_1) (.tp (.cons (.nm 5) (.cons (.nm 6) .nil))) (.tuple [.int (k : Nat), (dI L).getD k .none]) [.dat r, .dat st, .dat (.str b.nm), .dat (lN L), .dat (.int m), u, v] = .ret (.nx [.dat r, .dat st, .dat (.str b.nm), .dat (lN L), .dat (.int m), .dat (.int (k : Int)), .dat (.int L[k])]) := by
          simp only [lstep, b_lands_1, DP.run, DP.runB, evS, evE, evA, evT, evP, evI, startE, startX, slot_zero, slot_succ, own_zero, own_succ, box_zero, box_succ, bind_r, Dr.bind_assoc, pur_r, put_nm, put_tp, put_tpL, puts_nil, puts_cons, then_nx, then_rt, then_rtO, told_rtO, put2_c, put3_c, evF, evB, flat_i, flat_b, flat_s, asLst_l, f_intI, f_intB, f_odd, f_notN, f_fListL, f_fListT, non_i, non_n, f_neS, then_bk, then_ct, told_rt, evT_qY, andB_t, andB_f, orB_t, orB_f, asInt_i, Dr.opt_some, small, within, List.length_cons, List.length_nil, List.map_cons, List.map_nil, List.cons_append, List.nil_append, List.replicate, List.set_cons_zero, List.set_cons_succ, Tt.vs, Ts.vs, Option.bind_some, Nat.reduceAdd, Nat.reduceSub, Nat.reduceLeDiff, Nat.reduceEqDiff, reduceIte, if_true, if_false, asIx_int, f_add, f_sub, f_lt, f_le, f_gt, f_ge, f_addA, f_subA, f_eqI, f_eqS, f_eqB, f_neI, f_isN, f_ixL, f_ixT, f_neg, f_not, f_min, f_max, f_abs, f_tB, f_lenL, f_lenT, f_list, f_listT, f_tup, f_tupT, f_wSeqL, f_wSeqT, f_cutT, f_cutL, wipeX, List.all_cons, List.all_nil, List.contains_cons, List.elem_nil, Bool.and_true, Bool.true_and, beq_self_eq_true, Bool.or_true, Bool.true_or, Bool.false_eq_true, Option.some.injEq, decide_true, decide_false, Bool.not_true, Bool.not_false, Nat.reduceBEq, Bool.or_false, Bool.false_or, List.append_nil, List.singleton_append, true_and, and_true, and_self, g1, g2, hd]
        refine ⟨u', v', ?_⟩
        show (lstep (evS b_lands_1) _ _ _).bind _ = _
        rw [st1]
        show forL _ _ _ = _
        rw [ih]
        rw [diff_cons, if_neg (by simp [hd])]
        cases diff (L.drop (k + 1)) (ls.drop (k + 1)) with
        | none => rfl
        | some i =>
          show Dr.ret (Fl.rt (.int ((k + 1 + i : Nat) : Int))) = Dr.ret (Fl.rt (.int ((k + (i + 1) : Nat) : Int)))
          rw [show k + 1 + i = k + (i + 1) by omega]
      · have st1 : lstep (evS b_lands_1) (.tp (.cons (.nm 5) (.cons (.nm 6) .nil))) (.tuple [.int (k : Nat), (dI L).getD k .none]) [.dat r, .dat st, .dat (.str b.nm), .dat (lN L), .dat (.int m), u, v] = .ret (.rt (.int (k : Int))) := by
          simp only [lstep, b_lands_1, DP.run, DP.runB, evS, evE, evA, evT, evP, evI, startE, startX, slot_zero, slot_succ, own_zero, own_succ, box_zero, box_succ, bind_r, Dr.bind_assoc, pur_r, put_nm, put_tp, put_tpL, puts_nil, puts_cons, then_nx, then_rt, then_rtO, told_rtO, put2_c, put3_c, evF, evB, flat_i, flat_b, flat_s, asLst_l, f_intI, f_intB, f_odd, f_notN, f_fListL, f_fListT, non_i, non_n, f_neS, then_bk, then_ct, told_rt, evT_qY, andB_t, andB_f, orB_t, orB_f, asInt_i, Dr.opt_some, small, within, List.length_cons, List.length_nil, List.map_cons, List.map_nil, List.cons_append, List.nil_append, List.replicate, List.set_cons_zero, List.set_cons_succ, Tt.vs, Ts.vs, Option.bind_some, Nat.reduceAdd, Nat.reduceSub, Nat.reduceLeDiff, Nat.reduceEqDiff, reduceIte, if_true, if_false, asIx_int, f_add, f_sub, f_lt, f_le, f_gt, f_ge, f_addA, f_subA, f_eqI, f_eqS, f_eqB, f_neI, f_isN, f_ixL, f_ixT, f_neg, f_not, f_min, f_max, f_abs, f_tB, f_lenL, f_lenT, f_list, f_listT, f_tup, f_tupT, f_wSeqL, f_wSeqT, f_cutT, f_cutL, wipeX, List.all_cons, List.all_nil, List.contains_cons, List.elem_nil, Bool.and_true, Bool.true_and, beq_self_eq_true, Bool.or_true, Bool.true_or, Bool.false_eq_true, Option.some.injEq, decide_true, decide_false, Bool.not_true, Bool.not_false, Nat.reduceBEq, Bool.or_false, Bool.false_or, List.append_nil, List.singleton_append, true_and, and_true, and_self, g1, g2, hd]
        refine ⟨u', v', ?_⟩
        show (lstep (evS b_lands_1) _ _ _).bind _ = _
        rw [st1]
        rw [diff_cons, if_pos hd]
        rfl
  obtain ⟨u', v', k0⟩ := key L.length 0 .unk .unk (by omega)
  rw [List.drop_zero, List.drop_zero, ← List.range_eq_range'] at k0
  have ew : wEnum.f [.list (dI L)] = some ((List.range L.length).map fun i => .tuple [.int (i : Nat), (dI L).getD i .none]) := by
    show some (enumL (dI L)) = _
    unfold enumL
    rw [List.length_map]
  simp only [sem_lands, a_lands, DP.run, DP.runB, evS, evE, evA, evT, evP, evI, startE, startX, slot_zero, slot_succ, own_zero, own_succ, box_zero, box_succ, bind_r, Dr.bind_assoc, pur_r, put_nm, put_tp, put_tpL, puts_nil, puts_cons, then_nx, then_rt, then_rtO, told_rtO, put2_c, put3_c, evF, evB, flat_i, flat_b, flat_s, asLst_l, f_intI, f_intB, f_odd, f_notN, f_fListL, f_fListT, non_i, non_n, f_neS, then_bk, then_ct, told_rt, evT_qY, andB_t, andB_f, orB_t, orB_f, asInt_i, Dr.opt_some, small, within, List.length_cons, List.length_nil, List.map_cons, List.map_nil, List.cons_append, List.nil_append, List.replicate, List.set_cons_zero, List.set_cons_succ, Tt.vs, Ts.vs, Option.bind_some, Nat.reduceAdd, Nat.reduceSub, Nat.reduceLeDiff, Nat.reduceEqDiff, reduceIte, if_true, if_false, asIx_int, f_add, f_sub, f_lt, f_le, f_gt, f_ge, f_addA, f_subA, f_eqI, f_eqS, f_eqB, f_neI, f_isN, f_ixL, f_ixT, f_neg, f_not, f_min, f_max, f_abs, f_tB, f_lenL, f_lenT, f_list, f_listT, f_tup, f_tupT, f_wSeqL, f_wSeqT, f_cutT, f_cutL, wipeX, List.all_cons, List.all_nil, List.contains_cons, List.elem_nil, Bool.and_true, Bool.true_and, beq_self_eq_true, Bool.or_true, Bool.true_or, Bool.false_eq_true, Option.some.injEq, decide_true, decide_false, Bool.not_true, Bool.not_false, Nat.reduceBEq, Bool.or_false, Bool.false_or, List.append_nil, List.singleton_append, true_and, and_true, and_self, e1, ew, k0]
  unfold landM
  rw [eL]
  cases diff L ls with
  | none => rfl
  | some i =>
    show Dr.ret (PyData.int ((0 + i : Nat) : Int)) = _
    rw [Nat.zero_add]
    rfl
/-! ## gaps -/
theorem cut_to (xs : List Int) (g : Nat) : cutD (dI xs) none (some (g : Int)) = dI (xs.take g) := by
  unfold cutD
  show ((dI xs).drop 0).take (HT.sIx (dI xs).length (dI xs).length (some (g : Int)) - 0) = _
  rw [HT.sIx_nat, List.drop_zero, Nat.sub_zero, List.length_map, ← List.map_take]
  congr 1
  by_cases h : g ≤ xs.length
  · rw [Nat.min_eq_left h]
  · rw [Nat.min_eq_right (by omega), List.take_of_length_le (Nat.le_refl _), List.take_of_length_le (by omega)]
theorem cut_from (xs : List Int) (g : Nat) : cutD (dI xs) (some (g : Int)) none = dI (xs.drop g) := by
  unfold cutD
  show ((dI xs).drop (HT.sIx (dI xs).length 0 (some (g : Int)))).take ((dI xs).length - HT.sIx (dI xs).length 0 (some (g : Int))) = _
  rw [HT.sIx_nat, List.take_of_length_le (by rw [List.length_drop]; exact Nat.le_refl _), ← List.map_drop]
  congr 1
  rw [List.length_map]
  by_cases h : g ≤ xs.length
  · rw [Nat.min_eq_left h]
  · rw [Nat.min_eq_right (by omega), List.drop_of_length_le (Nat.le_refl _), List.drop_of_length_le (by omega)]
def absI (i : Int) : Int := if i < 0 then -i else i
def overM (b : Br) (L M : List Int) (n : Int) (g : Nat) : Int := if b.1 = true then n - absI ((M.take g).sum - (L.take g).sum) else n - absI ((M.drop g).sum - (L.drop g).sum)
theorem over_gap_eq (b : Br) (L M : List Int) (n : Int) (g : Nat) : sem_over_gap [lN L, lN M, .str b.nm, .int n, .int (g : Int)] = .ret (.int (overM b L M n g)) := by
  have s1 : ∀ xs : List Int, bSum.f [.list (dI xs)] = some (.int xs.sum) := fun xs => sum_seq rfl
  simp only [sem_over_gap, a_over_gap, DP.run, DP.runB, evS, evE, evA, evT, evP, evI, startE, startX, slot_zero, slot_succ, own_zero, own_succ, box_zero, box_succ, bind_r, Dr.bind_assoc, pur_r, put_nm, put_tp, put_tpL, puts_nil, puts_cons, then_nx, then_rt, then_rtO, told_rtO, put2_c, put3_c, evF, evB, flat_i, flat_b, flat_s, asLst_l, f_intI, f_intB, f_odd, f_notN, f_fListL, f_fListT, non_i, non_n, f_neS, then_bk, then_ct, told_rt, evT_qY, andB_t, andB_f, orB_t, orB_f, asInt_i, Dr.opt_some, small, within, List.length_cons, List.length_nil, List.map_cons, List.map_nil, List.cons_append, List.nil_append, List.replicate, List.set_cons_zero, List.set_cons_succ, Tt.vs, Ts.vs, Option.bind_some, Nat.reduceAdd, Nat.reduceSub, Nat.reduceLeDiff, Nat.reduceEqDiff, reduceIte, if_true, if_false, asIx_int, f_add, f_sub, f_lt, f_le, f_gt, f_ge, f_addA, f_subA, f_eqI, f_eqS, f_eqB, f_neI, f_isN, f_ixL, f_ixT, f_neg, f_not, f_min, f_max, f_abs, f_tB, f_lenL, f_lenT, f_list, f_listT, f_tup, f_tupT, f_wSeqL, f_wSeqT, f_cutT, f_cutL, wipeX, List.all_cons, List.all_nil, List.contains_cons, List.elem_nil, Bool.and_true, Bool.true_and, beq_self_eq_true, Bool.or_true, Bool.true_or, Bool.false_eq_true, Option.some.injEq, decide_true, decide_false, Bool.not_true, Bool.not_false, Nat.reduceBEq, Bool.or_false, Bool.false_or, List.append_nil, List.singleton_append, true_and, and_true, and_self, inLL]
  unfold overM absI
  cases b.1 with
  | true => simp only [DP.run, DP.runB, evS, evE, evA, evT, evP, evI, startE, startX, slot_zero, slot_succ, own_zero, own_succ, box_zero, box_succ, bind_r, Dr.bind_assoc, pur_r, put_nm, put_tp, put_tpL, puts_nil, puts_cons, then_nx, then_rt, then_rtO, told_rtO, put2_c, put3_c, evF, evB, flat_i, flat_b, flat_s, asLst_l, f_intI, f_intB, f_odd, f_notN, f_fListL, f_fListT, non_i, non_n, f_neS, then_bk, then_ct, told_rt, evT_qY, andB_t, andB_f, orB_t, orB_f, asInt_i, Dr.opt_some, small, within, List.length_cons, List.length_nil, List.map_cons, List.map_nil, List.cons_append, List.nil_append, List.replicate, List.set_cons_zero, List.set_cons_succ, Tt.vs, Ts.vs, Option.bind_some, Nat.reduceAdd, Nat.reduceSub, Nat.reduceLeDiff, Nat.reduceEqDiff, reduceIte, if_true, if_false, asIx_int, f_add, f_sub, f_lt, f_le, f_gt, f_ge, f_addA, f_subA, f_eqI, f_eqS, f_eqB, f_neI, f_isN, f_ixL, f_ixT, f_neg, f_not, f_min, f_max, f_abs, f_tB, f_lenL, f_lenT, f_list, f_listT, f_tup, f_tupT, f_wSeqL, f_wSeqT, f_cutT, f_cutL, wipeX, List.all_cons, List.all_nil, List.contains_cons, List.elem_nil, Bool.and_true, Bool.true_and, beq_self_eq_true, Bool.or_true, Bool.true_or, Bool.false_eq_true, Option.some.injEq, decide_true, decide_false, Bool.not_true, Bool.not_false, Nat.reduceBEq, Bool.or_false, Bool.false_or, List.append_nil, List.singleton_append, true_and, and_true, and_self, cut_to, s1]
  | false => simp only [DP.run, DP.runB, evS, evE, evA, evT, evP, evI, startE, startX, slot_zero, slot_succ, own_zero, own_succ, box_zero, box_succ, bind_r, Dr.bind_assoc, pur_r, put_nm, put_tp, put_tpL, puts_nil, puts_cons, then_nx, then_rt, then_rtO, told_rtO, put2_c, put3_c, evF, evB, flat_i, flat_b, flat_s, asLst_l, f_intI, f_intB, f_odd, f_notN, f_fListL, f_fListT, non_i, non_n, f_neS, then_bk, then_ct, told_rt, evT_qY, andB_t, andB_f, orB_t, orB_f, asInt_i, Dr.opt_some, small, within, List.length_cons, List.length_nil, List.map_cons, List.map_nil, List.cons_append, List.nil_append, List.replicate, List.set_cons_zero, List.set_cons_succ, Tt.vs, Ts.vs, Option.bind_some, Nat.reduceAdd, Nat.reduceSub, Nat.reduceLeDiff, Nat.reduceEqDiff, reduceIte, if_true, if_false, asIx_int, f_add, f_sub, f_lt, f_le, f_gt, f_ge, f_addA, f_subA, f_eqI, f_eqS, f_eqB, f_neI, f_isN, f_ixL, f_ixT, f_neg, f_not, f_min, f_max, f_abs, f_tB, f_lenL, f_lenT, f_list, f_listT, f_tup, f_tupT, f_wSeqL, f_wSeqT, f_cutT, f_cutL, wipeX, List.all_cons, List.all_nil, List.contains_cons, List.elem_nil, Bool.and_true, Bool.true_and, beq_self_eq_true, Bool.or_true, Bool.true_or, Bool.false_eq_true, Option.some.injEq, decide_true, decide_false, Bool.not_true, Bool.not_false, Nat.reduceBEq, Bool.or_false, Bool.false_or, List.append_nil, List.singleton_append, true_and, and_true, and_self, cut_from, s1]
/-- the state: what lies, how much went to the right, to the left -/
def crStep (rs : List Int) (g : Nat) (q : List Int × Int × Int) (x : Br × Int) : List Int × Int × Int :=
  ((runM x.1 rs q.1 x.2).1, if (x.1.1 == x.1.2) = true then (q.2.1 + overM x.1 q.1 (runM x.1 rs q.1 x.2).1 x.2 g, q.2.2) else (q.2.1, q.2.2 + overM x.1 q.1 (runM x.1 rs q.1 x.2).1 x.2 g))
def crossM (rs ls : List Int) (w : Wd') (g : Nat) : Int × Int := (w.foldl (crStep rs g) (ls, 0, 0)).2
theorem crossed_eq {r st wd : PyData} {rs ls : List Int} {w : Wd'} (hr : seqF r = some (dI rs)) (hs : seqF st = some (dI ls)) (hw : seqF wd = some (wD w)) (hf : Fit rs ls) (hl : rs.length ≤ 1000) (ho : WOk w) (g : Nat) :
    sem_crossed [r, st, wd, .int (g : Int)] = .ret (.tuple [.int (crossM rs ls w g).1, .int (crossM rs ls w g).2]) := by
  have key : ∃ env', forL (lstep (evS b_crossed_1) (.tp (.cons (.nm 7) (.cons (.nm 8) .nil)))) (w.map rnD) [.dat r, .dat st, .dat wd, .dat (.int (g : Int)), .dat (.int 0), .dat (.int 0), .dat (.list (dI ls)), .unk, .unk, .unk, .unk, .unk] = .ret (.nx env') ∧
      (Fit rs (w.foldl (crStep rs g) (ls, 0, 0)).1 ∧ ∃ a b c d e, env' = [.dat r, .dat st, .dat wd, .dat (.int (g : Int)), .dat (.int (crossM rs ls w g).1), .dat (.int (crossM rs ls w g).2), .dat (lN (w.foldl (crStep rs g) (ls, 0, 0)).1), a, b, c, d, e]) := by
    refine forL_fold (enc := fun q env => Fit rs q.1 ∧ ∃ a b c d e, env = [.dat r, .dat st, .dat wd, .dat (.int (g : Int)), .dat (.int q.2.1), .dat (.int q.2.2), .dat (lN q.1), a, b, c, d, e]) (stp := crStep rs g) (b := (ls, 0, 0)) ⟨hf, .unk, .unk, .unk, .unk, .unk, rfl⟩ ?_
    rintro x hx ⟨L, p, q⟩ env ⟨hF, a, b, c, d, e, rfl⟩
    have hn := ho x hx
    have e1 := run_done_eq' (st := lN L) hr rfl hF hl hn x.1
    have e2 := over_gap_eq x.1 L (runM x.1 rs L x.2).1 x.2 g
    refine ⟨[.dat r, .dat st, .dat wd, .dat (.int (g : Int)), .dat (.int (crStep rs g (L, p, q) x).2.1), .dat (.int (crStep rs g (L, p, q) x).2.2), .dat (lN (runM x.1 rs L x.2).1), .dat (.str x.1.nm), .dat (.int x.2), .dat (lN (runM x.1 rs L x.2).1), .dat (.int (runM x.1 rs L x.2).2), .dat (.int (overM x.1 L (runM x.1 rs L x.2).1 x.2 g))], ?_, (runM_fit hF hn).1, _, _, _, _, _, rfl⟩
    unfold crStep
    simp only [lstep, b_crossed_1, rnD, DP.run, DP.runB, evS, evE, evA, evT, evP, evI, startE, startX, slot_zero, slot_succ, own_zero, own_succ, box_zero, box_succ, bind_r, Dr.bind_assoc, pur_r, put_nm, put_tp, put_tpL, puts_nil, puts_cons, then_nx, then_rt, then_rtO, told_rtO, put2_c, put3_c, evF, evB, flat_i, flat_b, flat_s, asLst_l, f_intI, f_intB, f_odd, f_notN, f_fListL, f_fListT, non_i, non_n, f_neS, then_bk, then_ct, told_rt, evT_qY, andB_t, andB_f, orB_t, orB_f, asInt_i, Dr.opt_some, small, within, List.length_cons, List.length_nil, List.map_cons, List.map_nil, List.cons_append, List.nil_append, List.replicate, List.set_cons_zero, List.set_cons_succ, Tt.vs, Ts.vs, Option.bind_some, Nat.reduceAdd, Nat.reduceSub, Nat.reduceLeDiff, Nat.reduceEqDiff, reduceIte, if_true, if_false, asIx_int, f_add, f_sub, f_lt, f_le, f_gt, f_ge, f_addA, f_subA, f_eqI, f_eqS, f_eqB, f_neI, f_isN, f_ixL, f_ixT, f_neg, f_not, f_min, f_max, f_abs, f_tB, f_lenL, f_lenT, f_list, f_listT, f_tup, f_tupT, f_wSeqL, f_wSeqT, f_cutT, f_cutL, wipeX, List.all_cons, List.all_nil, List.contains_cons, List.elem_nil, Bool.and_true, Bool.true_and, beq_self_eq_true, Bool.or_true, Bool.true_or, Bool.false_eq_true, Option.some.injEq, decide_true, decide_false, Bool.not_true, Bool.not_false, Nat.reduceBEq, Bool.or_false, Bool.false_or, List.append_nil, List.singleton_append, true_and, and_true, and_self, e1, e2, inRt]
    cases x.1.1 == x.1.2 with
    | true => simp only [DP.run, DP.runB, evS, evE, evA, evT, evP, evI, startE, startX, slot_zero, slot_succ, own_zero, own_succ, box_zero, box_succ, bind_r, Dr.bind_assoc, pur_r, put_nm, put_tp, put_tpL, puts_nil, puts_cons, then_nx, then_rt, then_rtO, told_rtO, put2_c, put3_c, evF, evB, flat_i, flat_b, flat_s, asLst_l, f_intI, f_intB, f_odd, f_notN, f_fListL, f_fListT, non_i, non_n, f_neS, then_bk, then_ct, told_rt, evT_qY, andB_t, andB_f, orB_t, orB_f, asInt_i, Dr.opt_some, small, within, List.length_cons, List.length_nil, List.map_cons, List.map_nil, List.cons_append, List.nil_append, List.replicate, List.set_cons_zero, List.set_cons_succ, Tt.vs, Ts.vs, Option.bind_some, Nat.reduceAdd, Nat.reduceSub, Nat.reduceLeDiff, Nat.reduceEqDiff, reduceIte, if_true, if_false, asIx_int, f_add, f_sub, f_lt, f_le, f_gt, f_ge, f_addA, f_subA, f_eqI, f_eqS, f_eqB, f_neI, f_isN, f_ixL, f_ixT, f_neg, f_not, f_min, f_max, f_abs, f_tB, f_lenL, f_lenT, f_list, f_listT, f_tup, f_tupT, f_wSeqL, f_wSeqT, f_cutT, f_cutL, wipeX, List.all_cons, List.all_nil, List.contains_cons, List.elem_nil, Bool.and_true, Bool.true_and, beq_self_eq_true, Bool.or_true, Bool.true_or, Bool.false_eq_true, Option.some.injEq, decide_true, decide_false, Bool.not_true, Bool.not_false, Nat.reduceBEq, Bool.or_false, Bool.false_or, List.append_nil, List.singleton_append, true_and, and_true, and_self]
    | false => simp only [DP.run, DP.runB, evS, evE, evA, evT, evP, evI, startE, startX, slot_zero, slot_succ, own_zero, own_succ, box_zero, box_succ, bind_r, Dr.bind_assoc, pur_r, put_nm, put_tp, put_tpL, puts_nil, puts_cons, then_nx, then_rt, then_rtO, told_rtO, put2_c, put3_c, evF, evB, flat_i, flat_b, flat_s, asLst_l, f_intI, f_intB, f_odd, f_notN, f_fListL, f_fListT, non_i, non_n, f_neS, then_bk, then_ct, told_rt, evT_qY, andB_t, andB_f, orB_t, orB_f, asInt_i, Dr.opt_some, small, within, List.length_cons, List.length_nil, List.map_cons, List.map_nil, List.cons_append, List.nil_append, List.replicate, List.set_cons_zero, List.set_cons_succ, Tt.vs, Ts.vs, Option.bind_some, Nat.reduceAdd, Nat.reduceSub, Nat.reduceLeDiff, Nat.reduceEqDiff, reduceIte, if_true, if_false, asIx_int, f_add, f_sub, f_lt, f_le, f_gt, f_ge, f_addA, f_subA, f_eqI, f_eqS, f_eqB, f_neI, f_isN, f_ixL, f_ixT, f_neg, f_not, f_min, f_max, f_abs, f_tB, f_lenL, f_lenT, f_list, f_listT, f_tup, f_tupT, f_wSeqL, f_wSeqT, f_cutT, f_cutL, wipeX, List.all_cons, List.all_nil, List.contains_cons, List.elem_nil, Bool.and_true, Bool.true_and, beq_self_eq_true, Bool.or_true, Bool.true_or, Bool.false_eq_true, Option.some.injEq, decide_true, decide_false, Bool.not_true, Bool.not_false, Nat.reduceBEq, Bool.or_false, Bool.false_or, List.append_nil, List.singleton_append, true_and, and_true, and_self]
  obtain ⟨env', e, hF, a, b, c, d, f, rfl⟩ := key
  have ew : wSeq.f wd = some (w.map rnD) := hw
  simp only [sem_crossed, a_crossed, DP.run, DP.runB, evS, evE, evA, evT, evP, evI, startE, startX, slot_zero, slot_succ, own_zero, own_succ, box_zero, box_succ, bind_r, Dr.bind_assoc, pur_r, put_nm, put_tp, put_tpL, puts_nil, puts_cons, then_nx, then_rt, then_rtO, told_rtO, put2_c, put3_c, evF, evB, flat_i, flat_b, flat_s, asLst_l, f_intI, f_intB, f_odd, f_notN, f_fListL, f_fListT, non_i, non_n, f_neS, then_bk, then_ct, told_rt, evT_qY, andB_t, andB_f, orB_t, orB_f, asInt_i, Dr.opt_some, small, within, List.length_cons, List.length_nil, List.map_cons, List.map_nil, List.cons_append, List.nil_append, List.replicate, List.set_cons_zero, List.set_cons_succ, Tt.vs, Ts.vs, Option.bind_some, Nat.reduceAdd, Nat.reduceSub, Nat.reduceLeDiff, Nat.reduceEqDiff, reduceIte, if_true, if_false, asIx_int, f_add, f_sub, f_lt, f_le, f_gt, f_ge, f_addA, f_subA, f_eqI, f_eqS, f_eqB, f_neI, f_isN, f_ixL, f_ixT, f_neg, f_not, f_min, f_max, f_abs, f_tB, f_lenL, f_lenT, f_list, f_listT, f_tup, f_tupT, f_wSeqL, f_wSeqT, f_cutT, f_cutL, wipeX, List.all_cons, List.all_nil, List.contains_cons, List.elem_nil, Bool.and_true, Bool.true_and, beq_self_eq_true, Bool.or_true, Bool.true_or, Bool.false_eq_true, Option.some.injEq, decide_true, decide_false, Bool.not_true, Bool.not_false, Nat.reduceBEq, Bool.or_false, Bool.false_or, List.append_nil, List.singleton_append, true_and, and_true, and_self, list_seq hs, ew, e]
/-! ## plain, begun -/
def plStep (acc : Wd') (x : Br × Int) : Wd' := match acc.getLast? with
  | some y => if y.1 = x.1 then acc.dropLast ++ [(x.1, y.2 + x.2)] else acc ++ [x]
  | none => [x]
def plainM (w : Wd') : Wd' := w.foldl plStep []
theorem pl_len : ∀ (w acc : Wd'), (w.foldl plStep acc).length ≤ acc.length + w.length
  | [], acc => Nat.le_refl _
  | x :: w, acc => by
    have := pl_len w (plStep acc x)
    have h : (plStep acc x).length ≤ acc.length + 1 := by
      unfold plStep
      cases h : acc.getLast? with
      | none => simp
      | some y =>
        show (if y.1 = x.1 then acc.dropLast ++ [(x.1, y.2 + x.2)] else acc ++ [x]).length ≤ _
        split
        · rw [List.length_append, List.length_dropLast]
          show acc.length - 1 + 1 ≤ acc.length + 1
          omega
        · rw [List.length_append]
          exact Nat.le_refl _
    rw [List.foldl_cons, List.length_cons]
    omega
theorem plain_eq {wd : PyData} {w : Wd'} (hw : seqF wd = some (wD w)) (hl : w.length ≤ 90000) : sem_plain [wd] = .ret (.list (wD (plainM w))) := by
  have key : ∀ (w acc : Wd') (u v : Sl), acc.length + w.length ≤ 90000 → ∃ u' v', forL (lstep (evS b_plain_1) (.tp (.cons (.nm 2) (.cons (.nm 3) .nil)))) (wD w) [.dat wd, .own (wD acc), u, v] = .ret (.nx [.dat wd, .own (wD (w.foldl plStep acc)), u', v']) := fun w => by
    induction w with
    | nil => exact fun acc u v _ => ⟨u, v, rfl⟩
    | cons x w ih =>
      intro acc u v hlen
      rw [List.length_cons] at hlen
      have hlen2 : (plStep acc x).length + w.length ≤ 90000 := by
        have := pl_len [x] acc
        show (plStep acc x).length + w.length ≤ 90000
        have e : ([x].foldl plStep acc) = plStep acc x := rfl
        rw [e] at this
        simp at this
        omega
      obtain ⟨u', v', h⟩ := ih (plStep acc x) (.dat (.str x.1.nm)) (.dat (.int x.2)) hlen2
      refine ⟨u', v', ?_⟩
      show (lstep (evS b_plain_1) (.tp (.cons (.nm 2) (.cons (.nm 3) .nil))) (rnD x) _).bind _ = _
      have hst : lstep (evS b_plain_1) (.tp (.cons (.nm 2) (.cons (.nm 3) .nil))) (rnD x) [.dat wd, .own (wD acc), u, v] = .ret (.nx [.dat wd, .own (wD (plStep acc x)), .dat (.str x.1.nm), .dat (.int x.2)]) := by
        have hla : (wD acc).length ≤ 100000 := by rw [List.length_map]; omega
        rcases List.eq_nil_or_concat acc with rfl | ⟨as, y, rfl⟩
        · simp only [lstep, b_plain_1, rnD, DP.run, DP.runB, evS, evE, evA, evT, evP, evI, startE, startX, slot_zero, slot_succ, own_zero, own_succ, box_zero, box_succ, bind_r, Dr.bind_assoc, pur_r, put_nm, put_tp, put_tpL, puts_nil, puts_cons, then_nx, then_rt, then_rtO, told_rtO, put2_c, put3_c, evF, evB, flat_i, flat_b, flat_s, asLst_l, f_intI, f_intB, f_odd, f_notN, f_fListL, f_fListT, non_i, non_n, f_neS, then_bk, then_ct, told_rt, evT_qY, andB_t, andB_f, orB_t, orB_f, asInt_i, Dr.opt_some, small, within, List.length_cons, List.length_nil, List.map_cons, List.map_nil, List.cons_append, List.nil_append, List.replicate, List.set_cons_zero, List.set_cons_succ, Tt.vs, Ts.vs, Option.bind_some, Nat.reduceAdd, Nat.reduceSub, Nat.reduceLeDiff, Nat.reduceEqDiff, reduceIte, if_true, if_false, asIx_int, f_add, f_sub, f_lt, f_le, f_gt, f_ge, f_addA, f_subA, f_eqI, f_eqS, f_eqB, f_neI, f_isN, f_ixL, f_ixT, f_neg, f_not, f_min, f_max, f_abs, f_tB, f_lenL, f_lenT, f_list, f_listT, f_tup, f_tupT, f_wSeqL, f_wSeqT, f_cutT, f_cutL, wipeX, List.all_cons, List.all_nil, List.contains_cons, List.elem_nil, Bool.and_true, Bool.true_and, beq_self_eq_true, Bool.or_true, Bool.true_or, Bool.false_eq_true, Option.some.injEq, decide_true, decide_false, Bool.not_true, Bool.not_false, Nat.reduceBEq, Bool.or_false, Bool.false_or, List.append_nil, List.singleton_append, true_and, and_true, and_self, List.isEmpty_nil]
          rfl
        · rw [List.concat_eq_append] at hla ⊢
          have e1 : atI (wD (as ++ [y])) (-1) = some (rnD y) := by
            rw [wD, List.map_append]
            exact DP.atI_last _ _
          have e2 : (wD (as ++ [y])).isEmpty = false := by simp
          have e3 : ∀ a b : PyData, atI [a, b] 0 = some a := fun _ _ => rfl
          have e4 : ∀ a b : PyData, atI [a, b] 1 = some b := fun _ _ => rfl
          have e5 : ixN (wD (as ++ [y])).length (-1) = some as.length := by
            unfold ixN
            rw [List.length_map, List.length_append]
            rw [if_neg (by decide), if_pos (by show -((as.length + 1 : Nat) : Int) ≤ -1; omega)]
            congr 1
            show (-1 + ((as.length + 1 : Nat) : Int)).toNat = as.length
            omega
          have e6 : ∀ z : Br × Int, (wD (as ++ [y])).set as.length (rnD z) = wD (as ++ [z]) := fun z => by
            rw [wD, ← List.map_set, List.set_append_right _ _ (Nat.le_refl _), Nat.sub_self]
            rfl
          have e7 : plStep (as ++ [y]) x = if y.1 = x.1 then as ++ [(x.1, y.2 + x.2)] else as ++ [y] ++ [x] := by
            unfold plStep
            rw [List.getLast?_append]
            show (if y.1 = x.1 then (as ++ [y]).dropLast ++ [(x.1, y.2 + x.2)] else as ++ [y] ++ [x]) = _
            rw [List.dropLast_concat]
          by_cases hb : y.1 = x.1
          · rw [e7, if_pos hb]
            have e6' := e6 (x.1, y.2 + x.2)
            unfold rnD at e6'
            unfold rnD at e1
            simp only [lstep, b_plain_1, rnD, DP.run, DP.runB, evS, evE, evA, evT, evP, evI, startE, startX, slot_zero, slot_succ, own_zero, own_succ, box_zero, box_succ, bind_r, Dr.bind_assoc, pur_r, put_nm, put_tp, put_tpL, puts_nil, puts_cons, then_nx, then_rt, then_rtO, told_rtO, put2_c, put3_c, evF, evB, flat_i, flat_b, flat_s, asLst_l, f_intI, f_intB, f_odd, f_notN, f_fListL, f_fListT, non_i, non_n, f_neS, then_bk, then_ct, told_rt, evT_qY, andB_t, andB_f, orB_t, orB_f, asInt_i, Dr.opt_some, small, within, List.length_cons, List.length_nil, List.map_cons, List.map_nil, List.cons_append, List.nil_append, List.replicate, List.set_cons_zero, List.set_cons_succ, Tt.vs, Ts.vs, Option.bind_some, Nat.reduceAdd, Nat.reduceSub, Nat.reduceLeDiff, Nat.reduceEqDiff, reduceIte, if_true, if_false, asIx_int, f_add, f_sub, f_lt, f_le, f_gt, f_ge, f_addA, f_subA, f_eqI, f_eqS, f_eqB, f_neI, f_isN, f_ixL, f_ixT, f_neg, f_not, f_min, f_max, f_abs, f_tB, f_lenL, f_lenT, f_list, f_listT, f_tup, f_tupT, f_wSeqL, f_wSeqT, f_cutT, f_cutL, wipeX, List.all_cons, List.all_nil, List.contains_cons, List.elem_nil, Bool.and_true, Bool.true_and, beq_self_eq_true, Bool.or_true, Bool.true_or, Bool.false_eq_true, Option.some.injEq, decide_true, decide_false, Bool.not_true, Bool.not_false, Nat.reduceBEq, Bool.or_false, Bool.false_or, List.append_nil, List.singleton_append, true_and, and_true, and_self, e1, e2, e3, e4, e5, nm_inj, hb, e6']
          · rw [e7, if_neg hb]
            unfold rnD at e1
            simp only [lstep, b_plain_1, rnD, DP.run, DP.runB, evS, evE, evA, evT, evP, evI, startE, startX, slot_zero, slot_succ, own_zero, own_succ, box_zero, box_succ, bind_r, Dr.bind_assoc, pur_r, put_nm, put_tp, put_tpL, puts_nil, puts_cons, then_nx, then_rt, then_rtO, told_rtO, put2_c, put3_c, evF, evB, flat_i, flat_b, flat_s, asLst_l, f_intI, f_intB, f_odd, f_notN, f_fListL, f_fListT, non_i, non_n, f_neS, then_bk, then_ct, told_rt, evT_qY, andB_t, andB_f, orB_t, orB_f, asInt_i, Dr.opt_some, small, within, List.length_cons, List.length_nil, List.map_cons, List.map_nil, List.cons_append, List.nil_append, List.replicate, List.set_cons_zero, List.set_cons_succ, Tt.vs, Ts.vs, Option.bind_some, Nat.reduceAdd, Nat.reduceSub, Nat.reduceLeDiff, Nat.reduceEqDiff, reduceIte, if_true, if_false, asIx_int, f_add, f_sub, f_lt, f_le, f_gt, f_ge, f_addA, f_subA, f_eqI, f_eqS, f_eqB, f_neI, f_isN, f_ixL, f_ixT, f_neg, f_not, f_min, f_max, f_abs, f_tB, f_lenL, f_lenT, f_list, f_listT, f_tup, f_tupT, f_wSeqL, f_wSeqT, f_cutT, f_cutL, wipeX, List.all_cons, List.all_nil, List.contains_cons, List.elem_nil, Bool.and_true, Bool.true_and, beq_self_eq_true, Bool.or_true, Bool.true_or, Bool.false_eq_true, Option.some.injEq, decide_true, decide_false, Bool.not_true, Bool.not_false, Nat.reduceBEq, Bool.or_false, Bool.false_or, List.append_nil, List.singleton_append, true_and, and_true, and_self, e1, e2, e3, e4, e5, nm_inj, hb, if_pos hla]
            simp [rnD]
      rw [hst]
      exact h
  obtain ⟨u', v', k0⟩ := key w [] .unk .unk (by simpa using hl)
  have k1 : forL (lstep (evS b_plain_1) (.tp (.cons (.nm 2) (.cons (.nm 3) .nil)))) (wD w) [.dat wd, .own [], .unk, .unk] = _ := k0
  have ew : wSeq.f wd = some (w.map rnD) := hw
  simp only [sem_plain, a_plain, DP.run, DP.runB, evS, evE, evA, evT, evP, evI, startE, startX, slot_zero, slot_succ, own_zero, own_succ, box_zero, box_succ, bind_r, Dr.bind_assoc, pur_r, put_nm, put_tp, put_tpL, puts_nil, puts_cons, then_nx, then_rt, then_rtO, told_rtO, put2_c, put3_c, evF, evB, flat_i, flat_b, flat_s, asLst_l, f_intI, f_intB, f_odd, f_notN, f_fListL, f_fListT, non_i, non_n, f_neS, then_bk, then_ct, told_rt, evT_qY, andB_t, andB_f, orB_t, orB_f, asInt_i, Dr.opt_some, small, within, List.length_cons, List.length_nil, List.map_cons, List.map_nil, List.cons_append, List.nil_append, List.replicate, List.set_cons_zero, List.set_cons_succ, Tt.vs, Ts.vs, Option.bind_some, Nat.reduceAdd, Nat.reduceSub, Nat.reduceLeDiff, Nat.reduceEqDiff, reduceIte, if_true, if_false, asIx_int, f_add, f_sub, f_lt, f_le, f_gt, f_ge, f_addA, f_subA, f_eqI, f_eqS, f_eqB, f_neI, f_isN, f_ixL, f_ixT, f_neg, f_not, f_min, f_max, f_abs, f_tB, f_lenL, f_lenT, f_list, f_listT, f_tup, f_tupT, f_wSeqL, f_wSeqT, f_cutT, f_cutL, wipeX, List.all_cons, List.all_nil, List.contains_cons, List.elem_nil, Bool.and_true, Bool.true_and, beq_self_eq_true, Bool.or_true, Bool.true_or, Bool.false_eq_true, Option.some.injEq, decide_true, decide_false, Bool.not_true, Bool.not_false, Nat.reduceBEq, Bool.or_false, Bool.false_or, List.append_nil, List.singleton_append, true_and, and_true, and_self, ew, k1, plainM]
/-- the first so many breaths, not yet plain -/
def cutM : Wd' → Int → Wd'
  | [], _ => []
  | x :: w, n => if n ≤ 0 then [] else (x.1, min x.2 n) :: cutM w (n - x.2)
theorem cut_len : ∀ (w : Wd') (n : Int), (cutM w n).length ≤ w.length
  | [], _ => Nat.le_refl _
  | x :: w, n => by
    unfold cutM
    split
    · exact Nat.zero_le _
    · have := cut_len w (n - x.2)
      rw [List.length_cons, List.length_cons]
      omega
def begM (w : Wd') (n : Int) : Wd' := plainM (cutM w n)
theorem begun_eq {wd : PyData} {w : Wd'} (hw : seqF wd = some (wD w)) (hl : w.length ≤ 90000) (n : Int) : sem_begun [wd, .int n] = .ret (.list (wD (begM w n))) := by
  have key : ∀ (w acc : Wd') (m : Int) (u v : Sl), acc.length + w.length ≤ 90000 → ∃ m' u' v', forL (lstep (evS b_begun_1) (.tp (.cons (.nm 4) (.cons (.nm 5) .nil)))) (wD w) [.dat wd, .dat (.int n), .own (wD acc), .dat (.int m), u, v] = .ret (.nx [.dat wd, .dat (.int n), .own (wD (acc ++ cutM w m)), .dat (.int m'), u', v']) := fun w => by
    induction w with
    | nil =>
      intro acc m u v _
      refine ⟨m, u, v, ?_⟩
      show Dr.ret _ = _
      rw [show cutM [] m = [] from rfl, List.append_nil]
    | cons x w ih =>
      intro acc m u v hlen
      rw [List.length_cons] at hlen
      have hla : (wD acc).length ≤ 100000 := by rw [List.length_map]; omega
      by_cases hm : m ≤ 0
      · refine ⟨m, .dat (.str x.1.nm), .dat (.int x.2), ?_⟩
        show (lstep (evS b_begun_1) (.tp (.cons (.nm 4) (.cons (.nm 5) .nil))) (rnD x) _).bind _ = _
        have hst : lstep (evS b_begun_1) (.tp (.cons (.nm 4) (.cons (.nm 5) .nil))) (rnD x) [.dat wd, .dat (.int n), .own (wD acc), .dat (.int m), u, v] = .ret (.bk [.dat wd, .dat (.int n), .own (wD acc), .dat (.int m), .dat (.str x.1.nm), .dat (.int x.2)]) := by
          simp only [lstep, b_begun_1, rnD, DP.run, DP.runB, evS, evE, evA, evT, evP, evI, startE, startX, slot_zero, slot_succ, own_zero, own_succ, box_zero, box_succ, bind_r, Dr.bind_assoc, pur_r, put_nm, put_tp, put_tpL, puts_nil, puts_cons, then_nx, then_rt, then_rtO, told_rtO, put2_c, put3_c, evF, evB, flat_i, flat_b, flat_s, asLst_l, f_intI, f_intB, f_odd, f_notN, f_fListL, f_fListT, non_i, non_n, f_neS, then_bk, then_ct, told_rt, evT_qY, andB_t, andB_f, orB_t, orB_f, asInt_i, Dr.opt_some, small, within, List.length_cons, List.length_nil, List.map_cons, List.map_nil, List.cons_append, List.nil_append, List.replicate, List.set_cons_zero, List.set_cons_succ, Tt.vs, Ts.vs, Option.bind_some, Nat.reduceAdd, Nat.reduceSub, Nat.reduceLeDiff, Nat.reduceEqDiff, reduceIte, if_true, if_false, asIx_int, f_add, f_sub, f_lt, f_le, f_gt, f_ge, f_addA, f_subA, f_eqI, f_eqS, f_eqB, f_neI, f_isN, f_ixL, f_ixT, f_neg, f_not, f_min, f_max, f_abs, f_tB, f_lenL, f_lenT, f_list, f_listT, f_tup, f_tupT, f_wSeqL, f_wSeqT, f_cutT, f_cutL, wipeX, List.all_cons, List.all_nil, List.contains_cons, List.elem_nil, Bool.and_true, Bool.true_and, beq_self_eq_true, Bool.or_true, Bool.true_or, Bool.false_eq_true, Option.some.injEq, decide_true, decide_false, Bool.not_true, Bool.not_false, Nat.reduceBEq, Bool.or_false, Bool.false_or, List.append_nil, List.singleton_append, true_and, and_true, and_self, hm]
        rw [hst]
        unfold cutM
        rw [if_pos hm, List.append_nil]
        rfl
      · obtain ⟨m', u', v', h⟩ := ih (acc ++ [(x.1, min x.2 m)]) (m - x.2) (.dat (.str x.1.nm)) (.dat (.int x.2)) (by rw [List.length_append]; show acc.length + 1 + w.length ≤ 90000; omega)
        refine ⟨m', u', v', ?_⟩
        show (lstep (evS b_begun_1) (.tp (.cons (.nm 4) (.cons (.nm 5) .nil))) (rnD x) _).bind _ = _
        have hmin : (if m < x.2 then m else x.2) = min x.2 m := by
          split <;> omega
        have hst : lstep (evS b_begun_1) (.tp (.cons (.nm 4) (.cons (.nm 5) .nil))) (rnD x) [.dat wd, .dat (.int n), .own (wD acc), .dat (.int m), u, v] = .ret (.nx [.dat wd, .dat (.int n), .own (wD (acc ++ [(x.1, min x.2 m)])), .dat (.int (m - x.2)), .dat (.str x.1.nm), .dat (.int x.2)]) := by
          simp only [lstep, b_begun_1, rnD, DP.run, DP.runB, evS, evE, evA, evT, evP, evI, startE, startX, slot_zero, slot_succ, own_zero, own_succ, box_zero, box_succ, bind_r, Dr.bind_assoc, pur_r, put_nm, put_tp, put_tpL, puts_nil, puts_cons, then_nx, then_rt, then_rtO, told_rtO, put2_c, put3_c, evF, evB, flat_i, flat_b, flat_s, asLst_l, f_intI, f_intB, f_odd, f_notN, f_fListL, f_fListT, non_i, non_n, f_neS, then_bk, then_ct, told_rt, evT_qY, andB_t, andB_f, orB_t, orB_f, asInt_i, Dr.opt_some, small, within, List.length_cons, List.length_nil, List.map_cons, List.map_nil, List.cons_append, List.nil_append, List.replicate, List.set_cons_zero, List.set_cons_succ, Tt.vs, Ts.vs, Option.bind_some, Nat.reduceAdd, Nat.reduceSub, Nat.reduceLeDiff, Nat.reduceEqDiff, reduceIte, if_true, if_false, asIx_int, f_add, f_sub, f_lt, f_le, f_gt, f_ge, f_addA, f_subA, f_eqI, f_eqS, f_eqB, f_neI, f_isN, f_ixL, f_ixT, f_neg, f_not, f_min, f_max, f_abs, f_tB, f_lenL, f_lenT, f_list, f_listT, f_tup, f_tupT, f_wSeqL, f_wSeqT, f_cutT, f_cutL, wipeX, List.all_cons, List.all_nil, List.contains_cons, List.elem_nil, Bool.and_true, Bool.true_and, beq_self_eq_true, Bool.or_true, Bool.true_or, Bool.false_eq_true, Option.some.injEq, decide_true, decide_false, Bool.not_true, Bool.not_false, Nat.reduceBEq, Bool.or_false, Bool.false_or, List.append_nil, List.singleton_append, true_and, and_true, and_self, hm, hmin, if_pos hla]
          congr 4
          simp [rnD]
        rw [hst]
        unfold cutM
        rw [if_neg hm]
        rw [List.append_assoc] at h
        exact h
  obtain ⟨m', u', v', k0⟩ := key w [] n .unk .unk (by simpa using hl)
  have k1 : forL (lstep (evS b_begun_1) (.tp (.cons (.nm 4) (.cons (.nm 5) .nil)))) (wD w) [.dat wd, .dat (.int n), .own [], .dat (.int n), .unk, .unk] = .ret (.nx [.dat wd, .dat (.int n), .own (wD (cutM w n)), .dat (.int m'), u', v']) := k0
  have ew : wSeq.f wd = some (w.map rnD) := hw
  have e2 := plain_eq (wd := .list (wD (cutM w n))) (w := cutM w n) rfl (Nat.le_trans (cut_len w n) hl)
  simp only [sem_begun, a_begun, DP.run, DP.runB, evS, evE, evA, evT, evP, evI, startE, startX, slot_zero, slot_succ, own_zero, own_succ, box_zero, box_succ, bind_r, Dr.bind_assoc, pur_r, put_nm, put_tp, put_tpL, puts_nil, puts_cons, then_nx, then_rt, then_rtO, told_rtO, put2_c, put3_c, evF, evB, flat_i, flat_b, flat_s, asLst_l, f_intI, f_intB, f_odd, f_notN, f_fListL, f_fListT, non_i, non_n, f_neS, then_bk, then_ct, told_rt, evT_qY, andB_t, andB_f, orB_t, orB_f, asInt_i, Dr.opt_some, small, within, List.length_cons, List.length_nil, List.map_cons, List.map_nil, List.cons_append, List.nil_append, List.replicate, List.set_cons_zero, List.set_cons_succ, Tt.vs, Ts.vs, Option.bind_some, Nat.reduceAdd, Nat.reduceSub, Nat.reduceLeDiff, Nat.reduceEqDiff, reduceIte, if_true, if_false, asIx_int, f_add, f_sub, f_lt, f_le, f_gt, f_ge, f_addA, f_subA, f_eqI, f_eqS, f_eqB, f_neI, f_isN, f_ixL, f_ixT, f_neg, f_not, f_min, f_max, f_abs, f_tB, f_lenL, f_lenT, f_list, f_listT, f_tup, f_tupT, f_wSeqL, f_wSeqT, f_cutT, f_cutL, wipeX, List.all_cons, List.all_nil, List.contains_cons, List.elem_nil, Bool.and_true, Bool.true_and, beq_self_eq_true, Bool.or_true, Bool.true_or, Bool.false_eq_true, Option.some.injEq, decide_true, decide_false, Bool.not_true, Bool.not_false, Nat.reduceBEq, Bool.or_false, Bool.false_or, List.append_nil, List.singleton_append, true_and, and_true, and_self, ew, k1, e2, begM]
end DP

/-! counterparts -/
namespace DP
open PySem PySem.Spec PyProof.Rows L2 ZX DL RT
theorem cap_con (s : Bool) (r l : Int) : cap (!s) r (r - l) = cap s r l := by
  unfold cap
  cases s <;> simp <;> omega
theorem put_con (s : Bool) (r l d : Int) : put1 (!s) (r - l) d = r - put1 s l d := by
  unfold put1
  cases s <;> simp <;> omega
theorem runL_con {s : Bool} : ∀ {rs ls : List Int} {n : Int}, Fit rs ls → runL (!s) rs (lackM rs ls) n = (lackM rs (runL s rs ls n).1, (runL s rs ls n).2)
  | _, _, n, .nil => rfl
  | r :: rs, l :: ls, n, .cons h1 h2 h => by
    show (put1 (!s) (r - l) (min n (cap (!s) r (r - l))) :: (runL (!s) rs (lackM rs ls) (n - min n (cap (!s) r (r - l)))).1, (runL (!s) rs (lackM rs ls) (n - min n (cap (!s) r (r - l)))).2) = _
    rw [cap_con, put_con, runL_con h]
    rfl
theorem runR_con {s : Bool} : ∀ {rs ls : List Int} {n : Int}, Fit rs ls → runR (!s) rs (lackM rs ls) n = (lackM rs (runR s rs ls n).1, (runR s rs ls n).2)
  | _, _, n, .nil => rfl
  | r :: rs, l :: ls, n, .cons h1 h2 h => by
    show (put1 (!s) (r - l) (min (runR (!s) rs (lackM rs ls) n).2 (cap (!s) r (r - l))) :: (runR (!s) rs (lackM rs ls) n).1, (runR (!s) rs (lackM rs ls) n).2 - min (runR (!s) rs (lackM rs ls) n).2 (cap (!s) r (r - l))) = _
    rw [cap_con, put_con, runR_con h]
    rfl
theorem runM_con {b : Br} {rs ls : List Int} {n : Int} (h : Fit rs ls) : runM (contr b) rs (lackM rs ls) n = (lackM rs (runM b rs ls n).1, (runM b rs ls n).2) := by
  unfold runM contr
  split
  · exact runL_con h
  · exact runR_con h
def swap4 (cs : List Int) : List Int := [cs.getD 1 0, cs.getD 0 0, cs.getD 3 0, cs.getD 2 0]
theorem conOk {w : Wd'} (h : WOk w) : WOk (conW w) := fun x hx => by
  obtain ⟨y, hy, rfl⟩ := List.mem_map.mp hx
  exact h y hy
theorem con_len (w : Wd') : (conW w).length = w.length := by
  unfold conW
  rw [List.length_map]
theorem fold_con {rs : List Int} : ∀ {w : Wd'} {ls cs : List Int}, Fit rs ls → WOk w → cs.length = 4 → (conW w).foldl (wstep rs) (lackM rs ls, swap4 cs) = (lackM rs (w.foldl (wstep rs) (ls, cs)).1, swap4 (w.foldl (wstep rs) (ls, cs)).2)
  | [], ls, cs, _, _, _ => rfl
  | x :: w, ls, cs, h, ho, hc => by
    have hx := ho x (List.mem_cons_self ..)
    show (conW w).foldl (wstep rs) (wstep rs (lackM rs ls, swap4 cs) (contr x.1, x.2)) = _
    have e : wstep rs (lackM rs ls, swap4 cs) (contr x.1, x.2) = (lackM rs (wstep rs (ls, cs) x).1, swap4 (wstep rs (ls, cs) x).2) := by
      unfold wstep
      rw [runM_con h]
      obtain ⟨a, b, c, d, rfl⟩ := four hc
      obtain ⟨⟨_ | _, _ | _⟩, m⟩ := x <;> rfl
    rw [e]
    exact fold_con (ls := (wstep rs (ls, cs) x).1) (cs := (wstep rs (ls, cs) x).2) (runM_fit h hx).1 (fun y hy => ho y (List.mem_cons_of_mem _ hy)) (by show (cs.set _ _).length = 4; rw [List.length_set]; exact hc)
theorem wordM_con {rs ls : List Int} {w : Wd'} (h : Fit rs ls) (ho : WOk w) : wordM rs (lackM rs ls) (conW w) = (lackM rs (wordM rs ls w).1, swap4 (wordM rs ls w).2) := fold_con (cs := [0, 0, 0, 0]) h ho rfl
theorem diff_lack : ∀ {rs ls ms : List Int}, Fit rs ls → Fit rs ms → diff (lackM rs ms) (lackM rs ls) = diff ms ls
  | _, _, _, .nil, .nil => rfl
  | r :: rs, l :: ls, m :: ms, .cons _ _ h, .cons _ _ h' => by
    show (if r - m ≠ r - l then some 0 else (diff (lackM rs ms) (lackM rs ls)).map (· + 1)) = (if m ≠ l then some 0 else (diff ms ls).map (· + 1))
    rw [diff_lack h h']
    by_cases e : m = l
    · rw [if_neg (by simp [e]), if_neg (by simp [e])]
    · rw [if_pos (by omega), if_pos e]
theorem landM_con {b : Br} {rs ls : List Int} (h : Fit rs ls) : landM (contr b) rs (lackM rs ls) = landM b rs ls := by
  unfold landM
  rw [runM_con h]
  exact diff_lack h (runM_fit h (by decide)).1
theorem take_lack : ∀ {rs ls : List Int} (g : Nat), Fit rs ls → ((lackM rs ls).take g).sum = (rs.take g).sum - (ls.take g).sum
  | _, _, g, .nil => by
    show (([] : List Int).take g).sum = (([] : List Int).take g).sum - (([] : List Int).take g).sum
    simp
  | r :: rs, l :: ls, 0, .cons _ _ h => rfl
  | r :: rs, l :: ls, g + 1, .cons _ _ h => by
    show (r - l) + ((lackM rs ls).take g).sum = (r + (rs.take g).sum) - (l + (ls.take g).sum)
    rw [take_lack g h]
    omega
theorem drop_lack : ∀ {rs ls : List Int} (g : Nat), Fit rs ls → ((lackM rs ls).drop g).sum = (rs.drop g).sum - (ls.drop g).sum
  | _, _, g, .nil => by
    show (([] : List Int).drop g).sum = (([] : List Int).drop g).sum - (([] : List Int).drop g).sum
    simp
  | r :: rs, l :: ls, 0, .cons _ _ h => by
    have := drop_lack 0 h
    simp only [List.drop_zero] at this
    show (r - l) + (lackM rs ls).sum = (r + rs.sum) - (l + ls.sum)
    omega
  | r :: rs, l :: ls, g + 1, .cons _ _ h => drop_lack g h
theorem absI_neg (i : Int) : absI (-i) = absI i := by
  unfold absI
  split <;> split <;> omega
theorem overM_con {b : Br} {rs L M : List Int} {n : Int} {g : Nat} (h : Fit rs L) (h' : Fit rs M) : overM (contr b) (lackM rs L) (lackM rs M) n g = overM b L M n g := by
  unfold overM contr
  rw [take_lack g h, take_lack g h', drop_lack g h, drop_lack g h']
  rw [show (rs.take g).sum - (M.take g).sum - ((rs.take g).sum - (L.take g).sum) = -((M.take g).sum - (L.take g).sum) by omega, absI_neg]
  rw [show (rs.drop g).sum - (M.drop g).sum - ((rs.drop g).sum - (L.drop g).sum) = -((M.drop g).sum - (L.drop g).sum) by omega, absI_neg]
theorem crossF_con {rs : List Int} {g : Nat} : ∀ {w : Wd'} {ls : List Int} {p q : Int}, Fit rs ls → WOk w → (conW w).foldl (crStep rs g) (lackM rs ls, q, p) = (lackM rs (w.foldl (crStep rs g) (ls, p, q)).1, (w.foldl (crStep rs g) (ls, p, q)).2.2, (w.foldl (crStep rs g) (ls, p, q)).2.1)
  | [], ls, p, q, _, _ => rfl
  | x :: w, ls, p, q, h, ho => by
    have hx := ho x (List.mem_cons_self ..)
    show (conW w).foldl (crStep rs g) (crStep rs g (lackM rs ls, q, p) (contr x.1, x.2)) = _
    have f1 := (runM_fit (b := x.1) (n := x.2) h hx).1
    have e : crStep rs g (lackM rs ls, q, p) (contr x.1, x.2) = (lackM rs (crStep rs g (ls, p, q) x).1, (crStep rs g (ls, p, q) x).2.2, (crStep rs g (ls, p, q) x).2.1) := by
      unfold crStep
      simp only [runM_con h, overM_con h f1]
      obtain ⟨⟨_ | _, _ | _⟩, m⟩ := x <;> rfl
    rw [e]
    exact crossF_con (ls := (crStep rs g (ls, p, q) x).1) (p := (crStep rs g (ls, p, q) x).2.1) (q := (crStep rs g (ls, p, q) x).2.2) f1 fun y hy => ho y (List.mem_cons_of_mem _ hy)
theorem crossM_con {rs ls : List Int} {w : Wd'} {g : Nat} (h : Fit rs ls) (ho : WOk w) : crossM rs (lackM rs ls) (conW w) g = ((crossM rs ls w g).2, (crossM rs ls w g).1) := by
  unfold crossM
  rw [crossF_con h ho]
theorem wf_con : ∀ {rs ls ms : List Int} (c a b A : Int), Fit rs ls → Fit rs ms → wf (-c) (A - a) (A - b) (lackM rs ls) (lackM rs ms) = (wf c a b ls ms).map fun x => -x
  | _, _, _, c, a, b, A, .nil, .nil => by
    show [-c - (A - b) + (A - a)] = [-(c - b + a)]
    congr 1
    omega
  | r :: rs, l :: ls, m :: ms, c, a, b, A, .cons _ _ h, .cons _ _ h' => by
    show (-c - (A - b) + (A - a)) :: wf (-c) (A - a + (r - l)) (A - b + (r - m)) (lackM rs ls) (lackM rs ms) = -(c - b + a) :: (wf c (a + l) (b + m) ls ms).map fun x => -x
    rw [← wf_con c (a + l) (b + m) (A + r) h h', show A - a + (r - l) = A + r - (a + l) by omega, show A - b + (r - m) = A + r - (b + m) by omega]
    congr 1
    omega
theorem netB_con (b : Br) (w : Wd') : netB (contr b) (conW w) = netB b w := by
  unfold netB conW
  rw [List.filter_map, List.map_map]
  congr 1
  refine congrArg (List.map _) ?_
  refine List.filter_congr fun x _ => ?_
  show decide (contr x.1 = contr b) = decide (x.1 = b)
  obtain ⟨⟨_ | _, _ | _⟩, m⟩ := x <;> obtain ⟨_ | _, _ | _⟩ := b <;> rfl
theorem winds_con {rs ls : List Int} {w : Wd'} (h : Fit rs ls) (ho : WOk w) : windsM rs (lackM rs ls) (conW w) = (windsM rs ls w).map fun x => -x := by
  obtain ⟨f1, f2⟩ := wordM_ok h ho
  have hc : came rs (lackM rs ls) (conW w) = -came rs ls w := by
    unfold came
    rw [wordM_con h ho]
    have n1 : netB (true, true) (conW w) = netB (true, false) w := netB_con (true, false) w
    have n2 : netB (true, false) (conW w) = netB (true, true) w := netB_con (true, true) w
    rw [n1, n2]
    obtain ⟨a, b, c, d, e⟩ := four f2
    rw [e]
    show netB (true, false) w - netB (true, true) w - b + a = -(netB (true, true) w - netB (true, false) w - a + b)
    omega
  rw [windsM_wf (lack_fit h) (conOk ho), windsM_wf h ho, hc, wordM_con h ho]
  have := wf_con (came rs ls w) 0 0 0 h f1
  rw [Int.sub_zero] at this
  exact this
/-! begun -/
theorem cut_con : ∀ (w : Wd') (n : Int), cutM (conW w) n = conW (cutM w n)
  | [], _ => rfl
  | x :: w, n => by
    show cutM ((contr x.1, x.2) :: conW w) n = _
    unfold cutM
    split
    · rfl
    · show (contr x.1, min x.2 n) :: cutM (conW w) (n - x.2) = (contr x.1, min x.2 n) :: conW (cutM w (n - x.2))
      rw [cut_con]
theorem con_inj (a b : Br) : contr a = contr b ↔ a = b := by
  obtain ⟨_ | _, _ | _⟩ := a <;> obtain ⟨_ | _, _ | _⟩ := b <;> decide
theorem plStep_con (acc : Wd') (x : Br × Int) : plStep (conW acc) (contr x.1, x.2) = conW (plStep acc x) := by
  unfold plStep conW
  rw [List.getLast?_map]
  cases acc.getLast? with
  | none => rfl
  | some y =>
    show (if contr y.1 = contr x.1 then (acc.map fun z => (contr z.1, z.2)).dropLast ++ [(contr x.1, y.2 + x.2)] else (acc.map fun z => (contr z.1, z.2)) ++ [(contr x.1, x.2)]) = (if y.1 = x.1 then acc.dropLast ++ [(x.1, y.2 + x.2)] else acc ++ [x]).map fun z => (contr z.1, z.2)
    by_cases e : y.1 = x.1
    · rw [if_pos e, if_pos ((con_inj _ _).mpr e), List.map_append, List.map_dropLast]
      rfl
    · rw [if_neg e, if_neg fun h => e ((con_inj _ _).mp h), List.map_append]
      rfl
theorem pl_con : ∀ (w acc : Wd'), (conW w).foldl plStep (conW acc) = conW (w.foldl plStep acc)
  | [], _ => rfl
  | x :: w, acc => by
    show (conW w).foldl plStep (plStep (conW acc) (contr x.1, x.2)) = _
    rw [plStep_con, pl_con]
    rfl
theorem beg_con (w : Wd') (n : Int) : begM (conW w) n = conW (begM w n) := by
  unfold begM plainM
  rw [cut_con]
  exact pl_con (cutM w n) []
/-- what is begun is a word -/
theorem cut_ok : ∀ {w : Wd'} {n : Int}, WOk w → WOk (cutM w n)
  | [], _, h => h
  | x :: w, n, h => by
    unfold cutM
    split
    · exact fun y hy => by cases hy
    · intro y hy
      rcases List.mem_cons.mp hy with rfl | hy
      · have := h x (List.mem_cons_self ..)
        show 0 ≤ min x.2 n
        omega
      · exact cut_ok (fun z hz => h z (List.mem_cons_of_mem _ hz)) y hy
theorem plStep_ok {acc : Wd'} {x : Br × Int} (h : WOk acc) (hx : 0 ≤ x.2) : WOk (plStep acc x) := by
  unfold plStep
  cases e : acc.getLast? with
  | none =>
    intro y hy
    rw [List.mem_singleton.mp hy]
    exact hx
  | some z =>
    have hz := h z (List.mem_of_getLast? e)
    show WOk (if z.1 = x.1 then acc.dropLast ++ [(x.1, z.2 + x.2)] else acc ++ [x])
    split
    · intro y hy
      rcases List.mem_append.mp hy with hy | hy
      · exact h y ((List.dropLast_sublist acc).subset hy)
      · rw [List.mem_singleton.mp hy]
        show 0 ≤ z.2 + x.2
        omega
    · intro y hy
      rcases List.mem_append.mp hy with hy | hy
      · exact h y hy
      · rw [List.mem_singleton.mp hy]
        exact hx
theorem pl_ok : ∀ {w acc : Wd'}, WOk acc → WOk w → WOk (w.foldl plStep acc)
  | [], _, h, _ => h
  | x :: w, acc, h, ho => pl_ok (w := w) (plStep_ok h (ho x (List.mem_cons_self ..))) fun y hy => ho y (List.mem_cons_of_mem _ hy)
theorem beg_ok {w : Wd'} {n : Int} (h : WOk w) : WOk (begM w n) := pl_ok (fun y hy => by cases hy) (cut_ok h)
theorem beg_len (w : Wd') (n : Int) : (begM w n).length ≤ w.length := by
  have h1 := pl_len (cutM w n) []
  have h2 := cut_len w n
  unfold begM plainM
  simp at h1
  omega
/-! sawn -/
theorem fit_take : ∀ {rs ls ms : List Int} (g : Nat), Fit rs ls → Fit rs ms → Fit rs (ls.take g ++ ms.drop g)
  | _, _, _, g, .nil, .nil => by
    simp
    exact .nil
  | r :: rs, l :: ls, m :: ms, 0, .cons _ _ h, .cons a b h' => .cons a b h'
  | r :: rs, l :: ls, m :: ms, g + 1, .cons a b h, .cons _ _ h' => .cons a b (fit_take g h h')
theorem lack_saw : ∀ {rs ls : List Int} (g : Nat), Fit rs ls → lackM rs (ls.take g ++ (lackM rs ls).drop g) = (lackM rs ls).take g ++ ls.drop g
  | _, _, g, .nil => by
    show lackM [] (([] : List Int).take g ++ ([] : List Int).drop g) = ([] : List Int).take g ++ ([] : List Int).drop g
    simp
    rfl
  | r :: rs, l :: ls, 0, .cons a b h => lack_lack (.cons a b h)
  | r :: rs, l :: ls, g + 1, .cons _ _ h => by
    show (r - l) :: lackM rs (ls.take g ++ (lackM rs ls).drop g) = (r - l) :: ((lackM rs ls).take g ++ ls.drop g)
    rw [lack_saw g h]
end DP

/-! rows turned about -/
namespace DP
open PySem PySem.Spec PyProof.Rows L2 ZX DL RT
theorem runL_snoc {s : Bool} : ∀ (rs ls : List Int) (r l n : Int), ls.length = rs.length → runL s (rs ++ [r]) (ls ++ [l]) n = ((runL s rs ls n).1 ++ [put1 s l (min (runL s rs ls n).2 (cap s r l))], (runL s rs ls n).2 - min (runL s rs ls n).2 (cap s r l))
  | [], [], r, l, n, _ => rfl
  | [], _ :: _, _, _, _, h => by cases h
  | _ :: _, [], _, _, _, h => by cases h
  | r0 :: rs, l0 :: ls, r, l, n, h => by
    show (put1 s l0 (min n (cap s r0 l0)) :: (runL s (rs ++ [r]) (ls ++ [l]) (n - min n (cap s r0 l0))).1, (runL s (rs ++ [r]) (ls ++ [l]) (n - min n (cap s r0 l0))).2) = _
    rw [runL_snoc rs ls r l _ (by simpa using h)]
    rfl
theorem runL_rev {s : Bool} : ∀ (rs ls : List Int) (n : Int), ls.length = rs.length → runL s rs.reverse ls.reverse n = ((runR s rs ls n).1.reverse, (runR s rs ls n).2)
  | [], [], n, _ => rfl
  | [], _ :: _, _, h => by cases h
  | _ :: _, [], _, h => by cases h
  | r :: rs, l :: ls, n, h => by
    rw [List.reverse_cons, List.reverse_cons, runL_snoc _ _ _ _ _ (by simpa using h), runL_rev rs ls n (by simpa using h)]
    show _ = ((put1 s l (min (runR s rs ls n).2 (cap s r l)) :: (runR s rs ls n).1).reverse, _)
    rw [List.reverse_cons]
    rfl
theorem runR_rev {s : Bool} (rs ls : List Int) (n : Int) (h : ls.length = rs.length) : runR s rs.reverse ls.reverse n = ((runL s rs ls n).1.reverse, (runL s rs ls n).2) := by
  have := runL_rev (s := s) rs.reverse ls.reverse n (by simpa using h)
  rw [List.reverse_reverse, List.reverse_reverse] at this
  rw [this, List.reverse_reverse]
theorem runM_rev (b : Br) (rs ls : List Int) (n : Int) (h : ls.length = rs.length) : runM (turn b) rs.reverse ls.reverse n = ((runM b rs ls n).1.reverse, (runM b rs ls n).2) := by
  unfold runM turn
  cases b.1 with
  | true => exact runR_rev rs ls n h
  | false => exact runL_rev rs ls n h
theorem fit_app : ∀ {rs ls : List Int} {r l : Int}, Fit rs ls → 0 ≤ l → l ≤ r → Fit (rs ++ [r]) (ls ++ [l])
  | _, _, _, _, .nil, a, b => .cons a b .nil
  | _, _, _, _, .cons p q h, a, b => .cons p q (fit_app h a b)
theorem fit_rev : ∀ {rs ls : List Int}, Fit rs ls → Fit rs.reverse ls.reverse
  | _, _, .nil => .nil
  | _, _, .cons a b h => by
    rw [List.reverse_cons, List.reverse_cons]
    exact fit_app (fit_rev h) a b
def rot4 (cs : List Int) : List Int := [cs.getD 2 0, cs.getD 3 0, cs.getD 0 0, cs.getD 1 0]
theorem turOk {w : Wd'} (h : WOk w) : WOk (turW w) := fun x hx => by
  obtain ⟨y, hy, rfl⟩ := List.mem_map.mp hx
  exact h y hy
theorem tur_len (w : Wd') : (turW w).length = w.length := by
  unfold turW
  rw [List.length_map]
theorem tur_tur (w : Wd') : turW (turW w) = w := by
  unfold turW
  rw [List.map_map]
  refine (List.map_congr_left fun x _ => ?_).trans (List.map_id w)
  obtain ⟨⟨_ | _, _ | _⟩, m⟩ := x <;> rfl
theorem fold_tur {rs : List Int} : ∀ {w : Wd'} {ls cs : List Int}, Fit rs ls → WOk w → cs.length = 4 → (turW w).foldl (wstep rs.reverse) (ls.reverse, rot4 cs) = ((w.foldl (wstep rs) (ls, cs)).1.reverse, rot4 (w.foldl (wstep rs) (ls, cs)).2)
  | [], ls, cs, _, _, _ => rfl
  | x :: w, ls, cs, h, ho, hc => by
    have hx := ho x (List.mem_cons_self ..)
    show (turW w).foldl (wstep rs.reverse) (wstep rs.reverse (ls.reverse, rot4 cs) (turn x.1, x.2)) = _
    have e : wstep rs.reverse (ls.reverse, rot4 cs) (turn x.1, x.2) = ((wstep rs (ls, cs) x).1.reverse, rot4 (wstep rs (ls, cs) x).2) := by
      unfold wstep
      rw [runM_rev _ _ _ _ h.len]
      obtain ⟨a, b, c, d, rfl⟩ := four hc
      obtain ⟨⟨_ | _, _ | _⟩, m⟩ := x <;> rfl
    rw [e]
    exact fold_tur (ls := (wstep rs (ls, cs) x).1) (cs := (wstep rs (ls, cs) x).2) (runM_fit h hx).1 (fun y hy => ho y (List.mem_cons_of_mem _ hy)) (by show (cs.set _ _).length = 4; rw [List.length_set]; exact hc)
theorem wordM_tur {rs ls : List Int} {w : Wd'} (h : Fit rs ls) (ho : WOk w) : wordM rs.reverse ls.reverse (turW w) = ((wordM rs ls w).1.reverse, rot4 (wordM rs ls w).2) := fold_tur (cs := [0, 0, 0, 0]) h ho rfl
/-! one breath -/
theorem runL_zero {s : Bool} : ∀ {rs ls : List Int}, Fit rs ls → runL s rs ls 0 = (ls, 0)
  | _, _, .nil => rfl
  | r :: rs, l :: ls, .cons h1 h2 h => by
    have hc := cap_nn (s := s) h1 h2
    have e : min 0 (cap s r l) = 0 := by omega
    show (put1 s l (min 0 (cap s r l)) :: (runL s rs ls (0 - min 0 (cap s r l))).1, (runL s rs ls (0 - min 0 (cap s r l))).2) = _
    rw [e, Int.sub_zero, runL_zero h]
    unfold put1
    cases s <;> simp
theorem runL_one {s : Bool} : ∀ {rs ls : List Int}, Fit rs ls → (runL s rs ls 1).1 = ls ∨ ∃ (i : Nat) (a v : Int), ls[i]? = some a ∧ v ≠ a ∧ (runL s rs ls 1).1 = ls.set i v
  | _, _, .nil => .inl rfl
  | r :: rs, l :: ls, .cons h1 h2 h => by
    have hc := cap_nn (s := s) h1 h2
    have e0 : (runL s (r :: rs) (l :: ls) 1).1 = put1 s l (min 1 (cap s r l)) :: (runL s rs ls (1 - min 1 (cap s r l))).1 := rfl
    rw [e0]
    by_cases hz : cap s r l = 0
    · have e : min 1 (cap s r l) = 0 := by omega
      have p0 : put1 s l 0 = l := by
        unfold put1
        cases s <;> simp
      rw [e, Int.sub_zero, p0]
      rcases runL_one (s := s) h with q | ⟨i, a, v, q1, q2, q3⟩
      · exact .inl (by rw [q])
      · exact .inr ⟨i + 1, a, v, q1, q2, by rw [q3]; rfl⟩
    · have e : min 1 (cap s r l) = 1 := by omega
      rw [e, show (1 : Int) - 1 = 0 from rfl, runL_zero h]
      refine .inr ⟨0, l, put1 s l 1, rfl, ?_, rfl⟩
      unfold put1
      cases s <;> simp <;> omega
theorem set_rev {α : Type} (xs : List α) (i : Nat) (v : α) (h : i < xs.length) : (xs.set i v).reverse = xs.reverse.set (xs.length - 1 - i) v := by
  refine List.ext_getElem? fun j => ?_
  by_cases hj : j < xs.length
  · rw [List.getElem?_reverse (by rw [List.length_set]; exact hj), List.length_set]
    by_cases e : i = xs.length - 1 - j
    · subst e
      rw [List.getElem?_set_self (by omega), show xs.length - 1 - (xs.length - 1 - j) = j by omega, List.getElem?_set_self (by rw [List.length_reverse]; exact hj)]
    · rw [List.getElem?_set_ne e, List.getElem?_set_ne (by omega), List.getElem?_reverse hj]
  · rw [List.getElem?_eq_none (by rw [List.length_reverse, List.length_set]; omega), List.getElem?_eq_none (by rw [List.length_set, List.length_reverse]; omega)]
theorem runM_one {b : Br} {rs ls : List Int} (h : Fit rs ls) : (runM b rs ls 1).1 = ls ∨ ∃ (i : Nat) (a v : Int), ls[i]? = some a ∧ v ≠ a ∧ (runM b rs ls 1).1 = ls.set i v := by
  unfold runM
  split
  · exact runL_one h
  · have hr := runL_rev (s := b.2) rs ls 1 h.len
    have e : (runR b.2 rs ls 1).1 = (runL b.2 rs.reverse ls.reverse 1).1.reverse := by
      rw [hr, List.reverse_reverse]
    rw [e]
    rcases runL_one (s := b.2) (fit_rev h) with q | ⟨i, a, v, q1, q2, q3⟩
    · exact .inl (by rw [q, List.reverse_reverse])
    · have hi : i < ls.length := by
        have := (List.getElem?_eq_some_iff.mp q1).1
        rwa [List.length_reverse] at this
      refine .inr ⟨ls.length - 1 - i, a, v, by rw [← List.getElem?_reverse hi]; exact q1, q2, ?_⟩
      rw [q3, set_rev _ _ _ (by rw [List.length_reverse]; exact hi), List.reverse_reverse, List.length_reverse]
theorem diff_self : ∀ ls : List Int, diff ls ls = none
  | [] => rfl
  | l :: ls => by
    rw [diff_cons, if_neg (by simp), diff_self ls]
    rfl
theorem diff_set : ∀ {ls : List Int} {i : Nat} {a v : Int}, ls[i]? = some a → v ≠ a → diff (ls.set i v) ls = some i
  | [], _, _, _, h, _ => by simp at h
  | l :: ls, 0, a, v, h, hv => by
    cases h
    show diff (v :: ls) (l :: ls) = _
    rw [diff_cons, if_pos hv]
  | l :: ls, i + 1, a, v, h, hv => by
    show diff (l :: ls.set i v) (l :: ls) = _
    rw [diff_cons, if_neg (by simp), diff_set (by simpa using h) hv]
    rfl
theorem landM_tur {b : Br} {rs ls : List Int} (h : Fit rs ls) : landM (turn b) rs.reverse ls.reverse = (landM b rs ls).map fun i => rs.length - 1 - i := by
  unfold landM
  rw [runM_rev b rs ls 1 h.len]
  show diff (runM b rs ls 1).1.reverse ls.reverse = _
  rcases runM_one (b := b) h with q | ⟨i, a, v, q1, q2, q3⟩
  · rw [q, diff_self, diff_self]
    rfl
  · have hi : i < ls.length := (List.getElem?_eq_some_iff.mp q1).1
    rw [q3, diff_set q1 q2, set_rev _ _ _ hi, ← h.len]
    refine diff_set (a := a) ?_ q2
    rw [List.getElem?_reverse (by omega), show ls.length - 1 - (ls.length - 1 - i) = i by omega]
    exact q1
theorem landM_lt {b : Br} {rs ls : List Int} {i : Nat} (h : Fit rs ls) (e : landM b rs ls = some i) : i < rs.length := by
  unfold landM at e
  rcases runM_one (b := b) h with q | ⟨j, a, v, q1, q2, q3⟩
  · rw [q, diff_self] at e
    cases e
  · rw [q3, diff_set q1 q2] at e
    cases e
    rw [← h.len]
    exact (List.getElem?_eq_some_iff.mp q1).1
/-! gaps -/
theorem sum_rev (xs : List Int) : xs.reverse.sum = xs.sum := by
  induction xs with
  | nil => rfl
  | cons x xs ih =>
    rw [List.reverse_cons, List.sum_append, ih, List.sum_cons]
    simp
    omega
theorem take_rev' (xs : List Int) (g : Nat) : (xs.reverse.take (xs.length - g)).sum = (xs.drop g).sum := by
  rw [List.take_reverse, sum_rev]
  by_cases h : g ≤ xs.length
  · rw [show xs.length - (xs.length - g) = g by omega]
  · rw [show xs.length - (xs.length - g) = xs.length by omega, List.drop_of_length_le (Nat.le_refl _), List.drop_of_length_le (by omega)]
theorem drop_rev' (xs : List Int) (g : Nat) (h : g ≤ xs.length) : (xs.reverse.drop (xs.length - g)).sum = (xs.take g).sum := by
  rw [List.drop_reverse, sum_rev, show xs.length - (xs.length - g) = g by omega]
theorem overM_tur {b : Br} {rs L M : List Int} {n : Int} {g : Nat} (h : Fit rs L) (h' : Fit rs M) (hg : g ≤ rs.length) : overM (turn b) L.reverse M.reverse n (rs.length - g) = overM b L M n g := by
  unfold overM turn
  have l1 := h.len
  have l2 := h'.len
  have t1 := take_rev' L g
  have t2 := take_rev' M g
  have d1 := drop_rev' L g (by omega)
  have d2 := drop_rev' M g (by omega)
  rw [l1] at t1 d1
  rw [l2] at t2 d2
  rw [t1, t2, d1, d2]
  cases b.1 <;> rfl
theorem crossF_tur {rs : List Int} {g : Nat} (hg : g ≤ rs.length) : ∀ {w : Wd'} {ls : List Int} {p q : Int}, Fit rs ls → WOk w → (turW w).foldl (crStep rs.reverse (rs.length - g)) (ls.reverse, q, p) = ((w.foldl (crStep rs g) (ls, p, q)).1.reverse, (w.foldl (crStep rs g) (ls, p, q)).2.2, (w.foldl (crStep rs g) (ls, p, q)).2.1)
  | [], ls, p, q, _, _ => rfl
  | x :: w, ls, p, q, h, ho => by
    have hx := ho x (List.mem_cons_self ..)
    show (turW w).foldl (crStep rs.reverse (rs.length - g)) (crStep rs.reverse (rs.length - g) (ls.reverse, q, p) (turn x.1, x.2)) = _
    have f1 := (runM_fit (b := x.1) (n := x.2) h hx).1
    have e : crStep rs.reverse (rs.length - g) (ls.reverse, q, p) (turn x.1, x.2) = ((crStep rs g (ls, p, q) x).1.reverse, (crStep rs g (ls, p, q) x).2.2, (crStep rs g (ls, p, q) x).2.1) := by
      unfold crStep
      simp only [runM_rev _ _ _ _ h.len, overM_tur h f1 hg]
      obtain ⟨⟨_ | _, _ | _⟩, m⟩ := x <;> rfl
    rw [e]
    exact crossF_tur hg (ls := (crStep rs g (ls, p, q) x).1) (p := (crStep rs g (ls, p, q) x).2.1) (q := (crStep rs g (ls, p, q) x).2.2) f1 fun y hy => ho y (List.mem_cons_of_mem _ hy)
theorem crossM_tur {rs ls : List Int} {w : Wd'} {g : Nat} (hg : g ≤ rs.length) (h : Fit rs ls) (ho : WOk w) : crossM rs.reverse ls.reverse (turW w) (rs.length - g) = ((crossM rs ls w g).2, (crossM rs ls w g).1) := by
  unfold crossM
  rw [crossF_tur hg h ho]
/-! what lies ahead, the other way about -/
theorem preF_snoc : ∀ (ls : List Int) (a l : Int), preF a (ls ++ [l]) = preF a ls ++ [a + ls.sum + l]
  | [], a, l => by
    show [a, a + l] = [a] ++ [a + 0 + l]
    rw [Int.add_zero]
    rfl
  | x :: ls, a, l => by
    show a :: preF (a + x) (ls ++ [l]) = a :: (preF (a + x) ls ++ [a + (x :: ls).sum + l])
    rw [preF_snoc ls (a + x) l, List.sum_cons]
    congr 3
    omega
theorem pre_rev : ∀ (ls : List Int) (a : Int), preF a ls.reverse = ((preF 0 ls).map fun x => a + ls.sum - x).reverse
  | [], a => by
    show [a] = [a + 0 - 0]
    congr 1
    omega
  | l :: ls, a => by
    have shift : ∀ (ls : List Int) (b c : Int), (preF b ls).map (fun x => c + b - x) = (preF 0 ls).map fun x => c - x := fun ls => by
      induction ls with
      | nil =>
        intro b c
        show [c + b - b] = [c - 0]
        congr 1
        omega
      | cons l ls ih =>
        intro b c
        have e1 := ih (b + l) (c - l)
        have e2 := ih (0 + l) (c - l)
        show (c + b - b) :: (preF (b + l) ls).map (fun x => c + b - x) = (c - 0) :: (preF (0 + l) ls).map fun x => c - x
        rw [show (fun x : Int => c + b - x) = fun x => c - l + (b + l) - x from funext fun x => by omega, e1, show (fun x : Int => c - x) = fun x => c - l + (0 + l) - x from funext fun x => by omega, e2]
        congr 1
        omega
    rw [List.reverse_cons, preF_snoc, pre_rev ls a, sum_rev]
    show _ = ((a + (l :: ls).sum - 0) :: (preF (0 + l) ls).map fun x => a + (l :: ls).sum - x).reverse
    rw [List.reverse_cons, List.sum_cons]
    have := shift ls (0 + l) (a + ls.sum)
    rw [show (fun x : Int => a + (l + ls.sum) - x) = fun x => a + ls.sum + (0 + l) - x from funext fun x => by omega, this]
    congr 2
    omega
theorem zip_rev {α β : Type} : ∀ (xs : List α) (ys : List β), xs.length = ys.length → xs.reverse.zip ys.reverse = (xs.zip ys).reverse
  | [], [], _ => rfl
  | [], _ :: _, h => by cases h
  | _ :: _, [], h => by cases h
  | x :: xs, y :: ys, h => by
    have h' : xs.length = ys.length := by simpa using h
    rw [List.reverse_cons, List.reverse_cons, List.zip_append (by simpa using h'), zip_rev xs ys h']
    show _ = ((x, y) :: xs.zip ys).reverse
    rw [List.reverse_cons]
    rfl
theorem netB_tur (b : Br) (w : Wd') : netB (turn b) (turW w) = netB b w := by
  unfold netB turW
  rw [List.filter_map, List.map_map]
  congr 1
  refine congrArg (List.map _) ?_
  refine List.filter_congr fun x _ => ?_
  show decide (turn x.1 = turn b) = decide (x.1 = b)
  obtain ⟨⟨_ | _, _ | _⟩, m⟩ := x <;> obtain ⟨_ | _, _ | _⟩ := b <;> rfl
theorem winds_tur {rs ls : List Int} {w : Wd'} (h : Fit rs ls) (ho : WOk w) : windsM rs.reverse ls.reverse (turW w) = (windsM rs ls w).reverse.map fun x => -x := by
  obtain ⟨f1, f2⟩ := wordM_ok h ho
  have hs := wordM_sum h ho
  have hc : came rs.reverse ls.reverse (turW w) = (wordM rs ls w).1.sum - ls.sum - came rs ls w := by
    unfold came
    rw [wordM_tur h ho]
    have n1 : netB (true, true) (turW w) = netB (false, true) w := netB_tur (false, true) w
    have n2 : netB (true, false) (turW w) = netB (false, false) w := netB_tur (false, false) w
    rw [n1, n2]
    obtain ⟨a, b, c, d, e⟩ := four f2
    rw [e] at hs ⊢
    unfold sg net at hs
    simp at hs
    show netB (false, true) w - netB (false, false) w - c + d = _ - _ - (netB (true, true) w - netB (true, false) w - a + b)
    omega
  unfold windsM
  rw [hc, wordM_tur h ho]
  show ((preF 0 ls.reverse).zip (preF 0 (wordM rs ls w).1.reverse)).map _ = _
  rw [pre_rev, pre_rev, zip_rev _ _ (by rw [List.length_map, List.length_map, preF_len, preF_len, h.len, f1.len]), List.map_reverse, List.map_reverse]
  congr 1
  rw [List.zip_map, List.map_map, List.map_map]
  refine List.map_congr_left fun p _ => ?_
  show (wordM rs ls w).1.sum - ls.sum - came rs ls w - (0 + (wordM rs ls w).1.sum - p.2) + (0 + ls.sum - p.1) = -(came rs ls w - p.2 + p.1)
  omega
end DP

/-! tools for every law -/
namespace DP
open PySem PySem.Spec PyProof.Rows L2 ZX DL RT
theorem pow6 : oPow.f (.int 10) (.int 6) = some (.int 1000000) := by rfl
theorem pl_opt (n : Nat) (o : Option Nat) : Pl n (optD o) := by
  cases o <;> cases n <;> trivial
theorem rev_t (xs : List Int) : uRevT.f (.tuple (dI xs)) = some (tN xs.reverse) := by
  show some (PyData.tuple (dI xs).reverse) = _
  rw [← List.map_reverse]
theorem rev_l (xs : List Int) : uRevL.f (.list (dI xs)) = some (lN xs.reverse) := by
  show some (PyData.list (dI xs).reverse) = _
  rw [← List.map_reverse]
theorem seq_cut {d : PyData} {xs : List Int} (h : seqF d = some (dI xs)) (l u : Option Int) : ∃ d', sSeq.f d l u = some d' ∧ seqF d' = some (cutD (dI xs) l u) := by
  rcases seqF_of h with rfl | rfl
  · exact ⟨_, rfl, rfl⟩
  · exact ⟨_, rfl, rfl⟩
theorem at_gap_eq {r st : PyData} {ls : List Int} (hs : seqF st = some (dI ls)) (g : Nat) : sem_at_gap [r, st, .int (g : Int)] = .ret (.tuple [.int (ls.take g).sum, .int (ls.drop g).sum]) := by
  obtain ⟨d1, e1, h1⟩ := seq_cut hs none (some (g : Int))
  obtain ⟨d2, e2, h2⟩ := seq_cut hs (some (g : Int)) none
  rw [cut_to] at h1
  rw [cut_from] at h2
  simp only [sem_at_gap, a_at_gap, DP.run, DP.runB, evS, evE, evA, evT, evP, evI, startE, startX, slot_zero, slot_succ, own_zero, own_succ, box_zero, box_succ, bind_r, Dr.bind_assoc, pur_r, put_nm, put_tp, put_tpL, puts_nil, puts_cons, then_nx, then_rt, then_rtO, told_rtO, put2_c, put3_c, evF, evB, flat_i, flat_b, flat_s, asLst_l, f_intI, f_intB, f_odd, f_notN, f_fListL, f_fListT, non_i, non_n, f_neS, then_bk, then_ct, told_rt, evT_qY, andB_t, andB_f, orB_t, orB_f, asInt_i, Dr.opt_some, small, within, List.length_cons, List.length_nil, List.map_cons, List.map_nil, List.cons_append, List.nil_append, List.replicate, List.set_cons_zero, List.set_cons_succ, Tt.vs, Ts.vs, Option.bind_some, Nat.reduceAdd, Nat.reduceSub, Nat.reduceLeDiff, Nat.reduceEqDiff, reduceIte, if_true, if_false, asIx_int, f_add, f_sub, f_lt, f_le, f_gt, f_ge, f_addA, f_subA, f_eqI, f_eqS, f_eqB, f_neI, f_isN, f_ixL, f_ixT, f_neg, f_not, f_min, f_max, f_abs, f_tB, f_lenL, f_lenT, f_list, f_listT, f_tup, f_tupT, f_wSeqL, f_wSeqT, f_cutT, f_cutL, wipeX, List.all_cons, List.all_nil, List.contains_cons, List.elem_nil, Bool.and_true, Bool.true_and, beq_self_eq_true, Bool.or_true, Bool.true_or, Bool.false_eq_true, Option.some.injEq, decide_true, decide_false, Bool.not_true, Bool.not_false, Nat.reduceBEq, Bool.or_false, Bool.false_or, List.append_nil, List.singleton_append, true_and, and_true, and_self, e1, e2, sum_seq h1, sum_seq h2]
theorem nm_ok (b : Br) : PyData.strOk b.nm = true := by
  obtain ⟨_ | _, _ | _⟩ := b <;> decide +kernel
theorem pl_runs (n : Nat) {w : Wd'} (h : w.length ≤ 1000) : Pl (n + 2) (.list (wD w)) := ⟨by rw [List.length_map]; omega, fun y hy => by
  obtain ⟨x, _, rfl⟩ := List.mem_map.mp hy
  refine ⟨by simp, fun z hz => ?_⟩
  rcases List.mem_cons.mp hz with rfl | hz
  · cases n <;> exact nm_ok x.1
  · rw [List.mem_singleton.mp hz]
    exact pl_int' n _⟩
theorem preF_last : ∀ (ls : List Int) (a : Int), ∃ xs, preF a ls = xs ++ [a + ls.sum] := fun ls => by
  induction ls with
  | nil => exact fun a => ⟨[], by show [a] = [] ++ [a + 0]; rw [Int.add_zero]; rfl⟩
  | cons l ls ih =>
    intro a
    obtain ⟨xs, e⟩ := ih (a + l)
    refine ⟨a :: xs, ?_⟩
    show a :: preF (a + l) ls = _
    rw [e, List.sum_cons, List.cons_append, Int.add_assoc]
theorem pre_la (ls : List Int) : atI (dI (pre ls)) (-1) = some (.int ls.sum) := by
  obtain ⟨xs, e⟩ := preF_last ls 0
  have e' : dI (pre ls) = dI xs ++ [PyData.int ls.sum] := by
    show dI (preF 0 ls) = _
    rw [e, Int.zero_add]
    exact List.map_append
  rw [e']
  exact atI_last _ _
theorem sub_rev (xs : List Int) (s : Int) : xs.reverse.map (fun x => s - x) = (xs.map fun x => 0 + s - x).reverse := by
  rw [List.map_reverse, Int.zero_add]
theorem bind_n {α β : Type} {a : α} {f : α → Dr β} : (Dr.ret a).bind f = f a := Eq.trans rfl rfl
theorem pur_n {α : Type} {a : α} : (Dr.ret a).pur = .ret a := Eq.trans rfl rfl
theorem then_n {env : En} {k : En → Dr Fl} : (Fl.nx env).then k = k env := Eq.trans rfl rfl
structure Lq {α : Type} (t : Dr α) (n : Nat) (Q : α → Prop) : Prop where
  h : t.le n Q
theorem Lq.up {α : Type} {t : Dr α} {n m : Nat} {Q : α → Prop} (h : Lq t n Q) (hn : n ≤ m) : Lq t m Q := ⟨Dr.le_up h.h hn⟩
theorem Lq.bind {α β : Type} {t : Dr α} {f : α → Dr β} {n m : Nat} {Φ : α → Prop} {Ψ : β → Prop} (h : t.le n Φ) (hf : ∀ a, Φ a → Lq (f a) m Ψ) : Lq (t.bind f) (n + m) Ψ := ⟨Dr.le_bind h fun a q => (hf a q).h⟩
theorem Lq.ret {α : Type} {a : α} {n : Nat} {Φ : α → Prop} (h : Φ a) : Lq (Dr.ret a) n Φ := ⟨h⟩
theorem Lq.draw {α : Type} {m : Int} {k : Int → Dr α} {n : Nat} {Φ : α → Prop} (h1 : 1 ≤ m) (h2 : m < 2 ^ 30) (h : ∀ j, 0 ≤ j → j < m → Lq (k j) n Φ) : Lq (Dr.draw m k) (n + 1) Φ := ⟨le_draw h1 h2 fun j a b => (h j a b).h⟩
theorem ok_of_le {α : Type} {t : Dr α} {n : Nat} {Q : α → Prop} (h : Lq t n Q) : t.ok n fun d _ => Q d := h.h
theorem Lq.zero {α : Type} {t : Dr α} {n : Nat} {Q : α → Prop} (h : ∃ a, t = .ret a ∧ Q a) : Lq t n Q := by
  obtain ⟨a, rfl, h⟩ := h
  exact ⟨h⟩
/-- a loop that ends by a return, whatever -/
theorem forL_exit {step : PyData → En → Dr Fl} {v : PyData} (I : Nat → En → Prop) : ∀ {its : List PyData} {j : Nat} {env : En}, I j env →
    (∀ i d env, its[i]? = some d → I (j + i) env → (∃ env', step d env = .ret (.nx env') ∧ I (j + i + 1) env') ∨ step d env = .ret (.rt v)) → (∀ env, ¬ I (j + its.length) env) → forL step its env = .ret (.rt v)
  | [], j, env, h0, _, hF => absurd h0 (hF env)
  | d :: r, j, env, h0, hs, hF => by
    show (step d env).bind _ = _
    rcases hs 0 d env rfl h0 with ⟨env', e, h⟩ | e
    · rw [e]
      exact forL_exit I (its := r) (j := j + 1) (env := env') h (fun i d env hi hI => by
        have := hs (i + 1) d env hi (by rw [show j + (i + 1) = j + 1 + i from by omega]; exact hI)
        rwa [show j + (i + 1) = j + 1 + i from by omega] at this) (fun env h => hF env (by rw [show j + (d :: r).length = j + 1 + r.length from by rw [List.length_cons]; omega]; exact h))
    · rw [e]
      rfl
/-- the first of which it is so -/
theorem forL_find {α : Type} {g : α → PyData} {step : PyData → En → Dr Fl} {p : α → Bool} {ev : Sl → En} {v : α → PyData} : ∀ {xs : List α} {u : Sl}, (∀ x ∈ xs, ∀ u, step (g x) (ev u) = if p x = true then .ret (.rt (v x)) else .ret (.nx (ev (.dat (g x))))) →
    (∀ x, xs.find? p = some x → forL step (xs.map g) (ev u) = .ret (.rt (v x))) ∧ (xs.find? p = none → ∃ u', forL step (xs.map g) (ev u) = .ret (.nx (ev u')))
  | [], u, _ => ⟨fun x h => (by cases h), fun _ => ⟨u, rfl⟩⟩
  | x :: r, u, hs => by
    have ih := forL_find (g := g) (step := step) (p := p) (ev := ev) (v := v) (xs := r) (u := .dat (g x)) fun y hy => hs y (List.mem_cons_of_mem _ hy)
    have e := hs x (List.mem_cons_self ..) u
    have ef : forL step ((x :: r).map g) (ev u) = (step (g x) (ev u)).bind fun f => match f with
      | .nx env' => forL step (r.map g) env'
      | .ct env' => forL step (r.map g) env'
      | .bk env' => .ret (.nx env')
      | .rt v => .ret (.rt v)
      | .rtO v => .ret (.rtO v)
      | .ex c fs => .ret (.ex c fs) := rfl
    by_cases hp : p x = true
    · rw [if_pos hp] at e
      rw [List.find?_cons_of_pos hp]
      refine ⟨fun y h => ?_, fun h => (by cases h)⟩
      cases h
      rw [ef, e]
      rfl
    · rw [if_neg hp] at e
      rw [List.find?_cons_of_neg hp]
      refine ⟨fun y h => ?_, fun h => ?_⟩
      · rw [ef, e]
        exact ih.1 y h
      · obtain ⟨u', h'⟩ := ih.2 h
        exact ⟨u', by rw [ef, e]; exact h'⟩
/-- a loop of which every turn is right -/
theorem forL_all {step : PyData → En → Dr Fl} (I : En → Prop) : ∀ {its : List PyData} {env : En}, I env → (∀ d ∈ its, ∀ env, I env → ∃ env', step d env = .ret (.nx env') ∧ I env') → ∃ env', forL step its env = .ret (.nx env') ∧ I env'
  | [], env, h0, _ => ⟨env, rfl, h0⟩
  | d :: r, env, h0, hs => by
    obtain ⟨env', e, h⟩ := hs d (List.mem_cons_self ..) env h0
    obtain ⟨env2, e2, h2⟩ := forL_all I (its := r) h fun x hx => hs x (List.mem_cons_of_mem _ hx)
    refine ⟨env2, ?_, h2⟩
    show (step d env).bind _ = _
    rw [e]
    exact e2
/-- the same with draws, k at most a turn -/
theorem forL_allq {step : PyData → En → Dr Fl} (I : En → Prop) (k : Nat) : ∀ {its : List PyData} {env : En}, I env → (∀ d ∈ its, ∀ env, I env → Lq (step d env) k fun f => ∃ env', f = .nx env' ∧ I env') → Lq (forL step its env) (k * its.length) fun f => ∃ env', f = .nx env' ∧ I env'
  | [], env, h0, _ => Lq.ret ⟨env, rfl, h0⟩
  | d :: r, env, h0, hs => by
    rw [List.length_cons, Nat.mul_add, Nat.mul_one, Nat.add_comm]
    refine Lq.bind (hs d (List.mem_cons_self ..) env h0).h fun f hf => ?_
    obtain ⟨env', rfl, h⟩ := hf
    exact forL_allq I k (its := r) h fun x hx => hs x (List.mem_cons_of_mem _ hx)
theorem rng2F_n {a n : Int} (h0 : -(2 ^ 62) ≤ a ∧ a < 2 ^ 62) (h1 : -(2 ^ 62) ≤ n ∧ n < 2 ^ 62) : wRng2.f [.int a, .int n] = some ((List.range (n - a).toNat).map fun (i : Nat) => PyData.int (a + (i : Int))) := by
  show (if _ then some (rangeD a (n - a).toNat) else none) = _
  rw [if_pos ⟨h0.1, h0.2, h1.1, h1.2⟩]
  rfl
end DP

/-! the helpers of the second family of laws -/
namespace DP
open PySem PySem.Spec PyProof.Rows L2 ZX DL RT
def Szs (m h : Int) (rs : List Int) : Prop := 1 ≤ rs.length ∧ (rs.length : Int) ≤ m ∧ ∀ r ∈ rs, 1 ≤ r ∧ r ≤ h
theorem get_all {α : Type} {P : PyData → Prop} {xs : List α} {l : List PyData} (hl : l.length = xs.length) (hp : ∀ (i : Nat) (x : α) v, xs[i]? = some x → l[i]? = some v → P v) : ∀ v ∈ l, P v := fun v hv => by
  obtain ⟨i, hi⟩ := List.mem_iff_getElem?.mp hv
  have hlt : i < xs.length := by rw [← hl]; exact (List.getElem?_eq_some_iff.mp hi).1
  exact hp i _ v (List.getElem?_eq_getElem hlt) hi
theorem sizes_le {m h : Int} (h1 : 1 ≤ m) (h2 : m ≤ 1000) (k1 : 1 ≤ h) (k2 : h < 2 ^ 30) : (sem_L_sizes [.int m, .int h]).le (m.toNat + 1) fun d => ∃ rs, d = tN rs ∧ Szs m h rs := by
  simp only [sem_L_sizes, a_L_sizes, DP.run, DP.runB, evS, evE, evA, evT, evP, evI, startE, startX, slot_zero, slot_succ, own_zero, own_succ, box_zero, box_succ, bind_r, Dr.bind_assoc, pur_r, put_nm, put_tp, put_tpL, puts_nil, puts_cons, then_nx, then_rt, then_rtO, told_rtO, put2_c, put3_c, evF, evB, flat_i, flat_b, flat_s, asLst_l, f_intI, f_intB, f_odd, f_notN, f_fListL, f_fListT, non_i, non_n, f_neS, then_bk, then_ct, told_rt, evT_qY, andB_t, andB_f, orB_t, orB_f, asInt_i, Dr.opt_some, small, within, List.length_cons, List.length_nil, List.map_cons, List.map_nil, List.cons_append, List.nil_append, List.replicate, List.set_cons_zero, List.set_cons_succ, Tt.vs, Ts.vs, Option.bind_some, Nat.reduceAdd, Nat.reduceSub, Nat.reduceLeDiff, Nat.reduceEqDiff, reduceIte, if_true, if_false, asIx_int, f_add, f_sub, f_lt, f_le, f_gt, f_ge, f_addA, f_subA, f_eqI, f_eqS, f_eqB, f_neI, f_isN, f_ixL, f_ixT, f_neg, f_not, f_min, f_max, f_abs, f_tB, f_lenL, f_lenT, f_list, f_listT, f_tup, f_tupT, f_wSeqL, f_wSeqT, f_cutT, f_cutL, wipeX, List.all_cons, List.all_nil, List.contains_cons, List.elem_nil, Bool.and_true, Bool.true_and, beq_self_eq_true, Bool.or_true, Bool.true_or, Bool.false_eq_true, Option.some.injEq, decide_true, decide_false, Bool.not_true, Bool.not_false, Nat.reduceBEq, Bool.or_false, Bool.false_or, List.append_nil, List.singleton_append, true_and, and_true, and_self, takeF_i, bind_d]
  refine le_draw h1 (by omega) fun j j0 j1 => ?_
  simp only [DP.run, DP.runB, evS, evE, evA, evT, evP, evI, startE, startX, slot_zero, slot_succ, own_zero, own_succ, box_zero, box_succ, bind_r, Dr.bind_assoc, pur_r, put_nm, put_tp, put_tpL, puts_nil, puts_cons, then_nx, then_rt, then_rtO, told_rtO, put2_c, put3_c, evF, evB, flat_i, flat_b, flat_s, asLst_l, f_intI, f_intB, f_odd, f_notN, f_fListL, f_fListT, non_i, non_n, f_neS, then_bk, then_ct, told_rt, evT_qY, andB_t, andB_f, orB_t, orB_f, asInt_i, Dr.opt_some, small, within, List.length_cons, List.length_nil, List.map_cons, List.map_nil, List.cons_append, List.nil_append, List.replicate, List.set_cons_zero, List.set_cons_succ, Tt.vs, Ts.vs, Option.bind_some, Nat.reduceAdd, Nat.reduceSub, Nat.reduceLeDiff, Nat.reduceEqDiff, reduceIte, if_true, if_false, asIx_int, f_add, f_sub, f_lt, f_le, f_gt, f_ge, f_addA, f_subA, f_eqI, f_eqS, f_eqB, f_neI, f_isN, f_ixL, f_ixT, f_neg, f_not, f_min, f_max, f_abs, f_tB, f_lenL, f_lenT, f_list, f_listT, f_tup, f_tupT, f_wSeqL, f_wSeqT, f_cutT, f_cutL, wipeX, List.all_cons, List.all_nil, List.contains_cons, List.elem_nil, Bool.and_true, Bool.true_and, beq_self_eq_true, Bool.or_true, Bool.true_or, Bool.false_eq_true, Option.some.injEq, decide_true, decide_false, Bool.not_true, Bool.not_false, Nat.reduceBEq, Bool.or_false, Bool.false_or, List.append_nil, List.singleton_append, true_and, and_true, and_self, rngF_n (show 0 ≤ 1 + j by omega) (show 1 + j < 2 ^ 62 by omega), List.length_map, List.length_range]
  rw [if_pos (show (1 + j).toNat ≤ 100000 by omega)]
  simp only [DP.run, DP.runB, evS, evE, evA, evT, evP, evI, startE, startX, slot_zero, slot_succ, own_zero, own_succ, box_zero, box_succ, bind_r, Dr.bind_assoc, pur_r, put_nm, put_tp, put_tpL, puts_nil, puts_cons, then_nx, then_rt, then_rtO, told_rtO, put2_c, put3_c, evF, evB, flat_i, flat_b, flat_s, asLst_l, f_intI, f_intB, f_odd, f_notN, f_fListL, f_fListT, non_i, non_n, f_neS, then_bk, then_ct, told_rt, evT_qY, andB_t, andB_f, orB_t, orB_f, asInt_i, Dr.opt_some, small, within, List.length_cons, List.length_nil, List.map_cons, List.map_nil, List.cons_append, List.nil_append, List.replicate, List.set_cons_zero, List.set_cons_succ, Tt.vs, Ts.vs, Option.bind_some, Nat.reduceAdd, Nat.reduceSub, Nat.reduceLeDiff, Nat.reduceEqDiff, reduceIte, if_true, if_false, asIx_int, f_add, f_sub, f_lt, f_le, f_gt, f_ge, f_addA, f_subA, f_eqI, f_eqS, f_eqB, f_neI, f_isN, f_ixL, f_ixT, f_neg, f_not, f_min, f_max, f_abs, f_tB, f_lenL, f_lenT, f_list, f_listT, f_tup, f_tupT, f_wSeqL, f_wSeqT, f_cutT, f_cutL, wipeX, List.all_cons, List.all_nil, List.contains_cons, List.elem_nil, Bool.and_true, Bool.true_and, beq_self_eq_true, Bool.or_true, Bool.true_or, Bool.false_eq_true, Option.some.injEq, decide_true, decide_false, Bool.not_true, Bool.not_false, Nat.reduceBEq, Bool.or_false, Bool.false_or, List.append_nil, List.singleton_append, true_and, and_true, and_self]
  have hc := compr_le (step := cstep (evT qY) (evE x_L_sizes_1) (.nm 3) [.box, .dat (.int m), .dat (.int h), .unk]) (g := fun (i : Nat) => PyData.int (i : Int)) (k := 1) (Ψ := fun _ v => ∃ r, v = .int r ∧ 1 ≤ r ∧ r ≤ h) (xs := List.range (1 + j).toNat) fun x _ => by
    simp only [cstep, x_L_sizes_1, DP.run, DP.runB, evS, evE, evA, evT, evP, evI, startE, startX, slot_zero, slot_succ, own_zero, own_succ, box_zero, box_succ, bind_r, Dr.bind_assoc, pur_r, put_nm, put_tp, put_tpL, puts_nil, puts_cons, then_nx, then_rt, then_rtO, told_rtO, put2_c, put3_c, evF, evB, flat_i, flat_b, flat_s, asLst_l, f_intI, f_intB, f_odd, f_notN, f_fListL, f_fListT, non_i, non_n, f_neS, then_bk, then_ct, told_rt, evT_qY, andB_t, andB_f, orB_t, orB_f, asInt_i, Dr.opt_some, small, within, List.length_cons, List.length_nil, List.map_cons, List.map_nil, List.cons_append, List.nil_append, List.replicate, List.set_cons_zero, List.set_cons_succ, Tt.vs, Ts.vs, Option.bind_some, Nat.reduceAdd, Nat.reduceSub, Nat.reduceLeDiff, Nat.reduceEqDiff, reduceIte, if_true, if_false, asIx_int, f_add, f_sub, f_lt, f_le, f_gt, f_ge, f_addA, f_subA, f_eqI, f_eqS, f_eqB, f_neI, f_isN, f_ixL, f_ixT, f_neg, f_not, f_min, f_max, f_abs, f_tB, f_lenL, f_lenT, f_list, f_listT, f_tup, f_tupT, f_wSeqL, f_wSeqT, f_cutT, f_cutL, wipeX, List.all_cons, List.all_nil, List.contains_cons, List.elem_nil, Bool.and_true, Bool.true_and, beq_self_eq_true, Bool.or_true, Bool.true_or, Bool.false_eq_true, Option.some.injEq, decide_true, decide_false, Bool.not_true, Bool.not_false, Nat.reduceBEq, Bool.or_false, Bool.false_or, List.append_nil, List.singleton_append, true_and, and_true, and_self, takeF_i, bind_d]
    refine le_draw k1 k2 fun a a0 a1 => ?_
    exact ⟨_, rfl, 1 + a, rfl, by omega, by omega⟩
  rw [List.length_range] at hc
  refine Dr.le_up (Dr.le_bind (m := 0) hc fun l ⟨hl, hp⟩ => ?_) (show 1 * (1 + j).toNat + 0 ≤ m.toNat by omega)
  obtain ⟨rs, rfl, hr⟩ := ints_all (p := fun r => 1 ≤ r ∧ r ≤ h) (ds := l) (get_all (xs := List.range (1 + j).toNat) (by rw [List.length_range]; exact hl) hp)
  rw [List.length_map] at hl
  exact ⟨rs, rfl, by omega, by omega, hr⟩
theorem rep_z0 (n : Nat) (h2 : n ≤ 1000) : oRepT.f (.tuple [.int 0]) (.int (n : Int)) = some (tN (List.replicate n 0)) := by
  show (if ((0 ≤ (n : Int) ∧ (n : Int) ≤ 1000) ∧ [PyData.int 0].length ≤ 1000) ∧ 0 < [PyData.int 0].length then some (PyData.tuple (List.replicate (n : Int).toNat [PyData.int 0]).flatten) else none) = _
  rw [if_pos ⟨⟨⟨by omega, by omega⟩, by decide⟩, by decide⟩, Int.toNat_natCast]
  congr 2
  induction n with
  | zero => rfl
  | succ n ih =>
    rw [List.replicate_succ, List.flatten_cons]
    by_cases hn : 1 ≤ n
    · rw [ih (by omega)]
      rfl
    · obtain rfl : n = 0 := by omega
      rfl
theorem rep_zero (n : Nat) (h1 : 1 ≤ n) (h2 : n ≤ 1000) : oRepT.f (.tuple [.int 0]) (.int (n : Int)) = some (tN (List.replicate n 0)) := rep_z0 n h2
theorem fit_zero : ∀ {rs : List Int}, (∀ r ∈ rs, 0 ≤ r) → Fit rs (List.replicate rs.length 0)
  | [], _ => .nil
  | r :: rs, h => .cons (Int.le_refl _) (h r (List.mem_cons_self ..)) (fit_zero fun x hx => h x (List.mem_cons_of_mem _ hx))
theorem fit_full : ∀ {rs : List Int}, (∀ r ∈ rs, 0 ≤ r) → Fit rs rs
  | [], _ => .nil
  | r :: rs, h => .cons (h r (List.mem_cons_self ..)) (Int.le_refl _) (fit_full fun x hx => h x (List.mem_cons_of_mem _ hx))
theorem fit_of_get : ∀ {rs : List Int} {l : List PyData}, l.length = rs.length → (∀ (i : Nat) x v, rs[i]? = some x → l[i]? = some v → ∃ q, v = .int q ∧ 0 ≤ q ∧ q ≤ x) → ∃ ls, l = dI ls ∧ Fit rs ls
  | [], l, hl, _ => ⟨[], List.eq_nil_of_length_eq_zero hl, .nil⟩
  | r :: rs, [], hl, _ => by cases hl
  | r :: rs, d :: l, hl, hp => by
    obtain ⟨q, rfl, q0, q1⟩ := hp 0 r d rfl rfl
    obtain ⟨ls, rfl, hf⟩ := fit_of_get (rs := rs) (l := l) (by simpa using hl) fun i x v hx hv => hp (i + 1) x v hx hv
    exact ⟨q :: ls, rfl, .cons q0 q1 hf⟩
theorem lot_le {rs : List Int} (h0 : 1 ≤ rs.length) (hl : rs.length ≤ 1000) (h1 : ∀ r ∈ rs, 1 ≤ r ∧ r < 2 ^ 29) : (sem_L_lot [tN rs]).le (rs.length + 1) fun d => ∃ ls, d = tN ls ∧ Fit rs ls := by
  simp only [sem_L_lot, a_L_lot, DP.run, DP.runB, evS, evE, evA, evT, evP, evI, startE, startX, slot_zero, slot_succ, own_zero, own_succ, box_zero, box_succ, bind_r, Dr.bind_assoc, pur_r, put_nm, put_tp, put_tpL, puts_nil, puts_cons, then_nx, then_rt, then_rtO, told_rtO, put2_c, put3_c, evF, evB, flat_i, flat_b, flat_s, asLst_l, f_intI, f_intB, f_odd, f_notN, f_fListL, f_fListT, non_i, non_n, f_neS, then_bk, then_ct, told_rt, evT_qY, andB_t, andB_f, orB_t, orB_f, asInt_i, Dr.opt_some, small, within, List.length_cons, List.length_nil, List.map_cons, List.map_nil, List.cons_append, List.nil_append, List.replicate, List.set_cons_zero, List.set_cons_succ, Tt.vs, Ts.vs, Option.bind_some, Nat.reduceAdd, Nat.reduceSub, Nat.reduceLeDiff, Nat.reduceEqDiff, reduceIte, if_true, if_false, asIx_int, f_add, f_sub, f_lt, f_le, f_gt, f_ge, f_addA, f_subA, f_eqI, f_eqS, f_eqB, f_neI, f_isN, f_ixL, f_ixT, f_neg, f_not, f_min, f_max, f_abs, f_tB, f_lenL, f_lenT, f_list, f_listT, f_tup, f_tupT, f_wSeqL, f_wSeqT, f_cutT, f_cutL, wipeX, List.all_cons, List.all_nil, List.contains_cons, List.elem_nil, Bool.and_true, Bool.true_and, beq_self_eq_true, Bool.or_true, Bool.true_or, Bool.false_eq_true, Option.some.injEq, decide_true, decide_false, Bool.not_true, Bool.not_false, Nat.reduceBEq, Bool.or_false, Bool.false_or, List.append_nil, List.singleton_append, true_and, and_true, and_self, takeF_i, bind_d]
  refine le_draw (by decide) (by decide) fun j j0 j1 => ?_
  simp only [DP.run, DP.runB, evS, evE, evA, evT, evP, evI, startE, startX, slot_zero, slot_succ, own_zero, own_succ, box_zero, box_succ, bind_r, Dr.bind_assoc, pur_r, put_nm, put_tp, put_tpL, puts_nil, puts_cons, then_nx, then_rt, then_rtO, told_rtO, put2_c, put3_c, evF, evB, flat_i, flat_b, flat_s, asLst_l, f_intI, f_intB, f_odd, f_notN, f_fListL, f_fListT, non_i, non_n, f_neS, then_bk, then_ct, told_rt, evT_qY, andB_t, andB_f, orB_t, orB_f, asInt_i, Dr.opt_some, small, within, List.length_cons, List.length_nil, List.map_cons, List.map_nil, List.cons_append, List.nil_append, List.replicate, List.set_cons_zero, List.set_cons_succ, Tt.vs, Ts.vs, Option.bind_some, Nat.reduceAdd, Nat.reduceSub, Nat.reduceLeDiff, Nat.reduceEqDiff, reduceIte, if_true, if_false, asIx_int, f_add, f_sub, f_lt, f_le, f_gt, f_ge, f_addA, f_subA, f_eqI, f_eqS, f_eqB, f_neI, f_isN, f_ixL, f_ixT, f_neg, f_not, f_min, f_max, f_abs, f_tB, f_lenL, f_lenT, f_list, f_listT, f_tup, f_tupT, f_wSeqL, f_wSeqT, f_cutT, f_cutL, wipeX, List.all_cons, List.all_nil, List.contains_cons, List.elem_nil, Bool.and_true, Bool.true_and, beq_self_eq_true, Bool.or_true, Bool.true_or, Bool.false_eq_true, Option.some.injEq, decide_true, decide_false, Bool.not_true, Bool.not_false, Nat.reduceBEq, Bool.or_false, Bool.false_or, List.append_nil, List.singleton_append, true_and, and_true, and_self, List.length_map]
  rw [if_pos (show rs.length ≤ 100000 by omega)]
  simp only [DP.run, DP.runB, evS, evE, evA, evT, evP, evI, startE, startX, slot_zero, slot_succ, own_zero, own_succ, box_zero, box_succ, bind_r, Dr.bind_assoc, pur_r, put_nm, put_tp, put_tpL, puts_nil, puts_cons, then_nx, then_rt, then_rtO, told_rtO, put2_c, put3_c, evF, evB, flat_i, flat_b, flat_s, asLst_l, f_intI, f_intB, f_odd, f_notN, f_fListL, f_fListT, non_i, non_n, f_neS, then_bk, then_ct, told_rt, evT_qY, andB_t, andB_f, orB_t, orB_f, asInt_i, Dr.opt_some, small, within, List.length_cons, List.length_nil, List.map_cons, List.map_nil, List.cons_append, List.nil_append, List.replicate, List.set_cons_zero, List.set_cons_succ, Tt.vs, Ts.vs, Option.bind_some, Nat.reduceAdd, Nat.reduceSub, Nat.reduceLeDiff, Nat.reduceEqDiff, reduceIte, if_true, if_false, asIx_int, f_add, f_sub, f_lt, f_le, f_gt, f_ge, f_addA, f_subA, f_eqI, f_eqS, f_eqB, f_neI, f_isN, f_ixL, f_ixT, f_neg, f_not, f_min, f_max, f_abs, f_tB, f_lenL, f_lenT, f_list, f_listT, f_tup, f_tupT, f_wSeqL, f_wSeqT, f_cutT, f_cutL, wipeX, List.all_cons, List.all_nil, List.contains_cons, List.elem_nil, Bool.and_true, Bool.true_and, beq_self_eq_true, Bool.or_true, Bool.true_or, Bool.false_eq_true, Option.some.injEq, decide_true, decide_false, Bool.not_true, Bool.not_false, Nat.reduceBEq, Bool.or_false, Bool.false_or, List.append_nil, List.singleton_append, true_and, and_true, and_self]
  have hc := compr_le (step := cstep (evT qY) (evE x_L_lot_1) (.nm 4) [.box, .dat (tN rs), .dat (.int j), .unk, .unk]) (g := PyData.int) (k := 1) (Ψ := fun r v => ∃ l, v = .int l ∧ 0 ≤ l ∧ l ≤ r) (xs := rs) fun r hr => by
    obtain ⟨r1, r2⟩ := h1 r hr
    simp only [cstep, x_L_lot_1, DP.run, DP.runB, evS, evE, evA, evT, evP, evI, startE, startX, slot_zero, slot_succ, own_zero, own_succ, box_zero, box_succ, bind_r, Dr.bind_assoc, pur_r, put_nm, put_tp, put_tpL, puts_nil, puts_cons, then_nx, then_rt, then_rtO, told_rtO, put2_c, put3_c, evF, evB, flat_i, flat_b, flat_s, asLst_l, f_intI, f_intB, f_odd, f_notN, f_fListL, f_fListT, non_i, non_n, f_neS, then_bk, then_ct, told_rt, evT_qY, andB_t, andB_f, orB_t, orB_f, asInt_i, Dr.opt_some, small, within, List.length_cons, List.length_nil, List.map_cons, List.map_nil, List.cons_append, List.nil_append, List.replicate, List.set_cons_zero, List.set_cons_succ, Tt.vs, Ts.vs, Option.bind_some, Nat.reduceAdd, Nat.reduceSub, Nat.reduceLeDiff, Nat.reduceEqDiff, reduceIte, if_true, if_false, asIx_int, f_add, f_sub, f_lt, f_le, f_gt, f_ge, f_addA, f_subA, f_eqI, f_eqS, f_eqB, f_neI, f_isN, f_ixL, f_ixT, f_neg, f_not, f_min, f_max, f_abs, f_tB, f_lenL, f_lenT, f_list, f_listT, f_tup, f_tupT, f_wSeqL, f_wSeqT, f_cutT, f_cutL, wipeX, List.all_cons, List.all_nil, List.contains_cons, List.elem_nil, Bool.and_true, Bool.true_and, beq_self_eq_true, Bool.or_true, Bool.true_or, Bool.false_eq_true, Option.some.injEq, decide_true, decide_false, Bool.not_true, Bool.not_false, Nat.reduceBEq, Bool.or_false, Bool.false_or, List.append_nil, List.singleton_append, true_and, and_true, and_self, takeF_i, bind_d]
    refine le_draw (by omega) (by omega) fun a a0 a1 => ?_
    exact ⟨_, rfl, a, rfl, by omega, by omega⟩
  refine Dr.le_up (Dr.le_bind (m := 0) hc fun l ⟨hl2, hp⟩ => ?_) (show 1 * rs.length + 0 ≤ rs.length by omega)
  obtain ⟨ls, rfl, hf⟩ := fit_of_get hl2 hp
  have hn : ∀ r ∈ rs, 0 ≤ r := fun r hr => by have := h1 r hr; omega
  by_cases c0 : j = 0
  · subst c0
    simp only [DP.run, DP.runB, evS, evE, evA, evT, evP, evI, startE, startX, slot_zero, slot_succ, own_zero, own_succ, box_zero, box_succ, bind_r, Dr.bind_assoc, pur_r, put_nm, put_tp, put_tpL, puts_nil, puts_cons, then_nx, then_rt, then_rtO, told_rtO, put2_c, put3_c, evF, evB, flat_i, flat_b, flat_s, asLst_l, f_intI, f_intB, f_odd, f_notN, f_fListL, f_fListT, non_i, non_n, f_neS, then_bk, then_ct, told_rt, evT_qY, andB_t, andB_f, orB_t, orB_f, asInt_i, Dr.opt_some, small, within, List.length_cons, List.length_nil, List.map_cons, List.map_nil, List.cons_append, List.nil_append, List.replicate, List.set_cons_zero, List.set_cons_succ, Tt.vs, Ts.vs, Option.bind_some, Nat.reduceAdd, Nat.reduceSub, Nat.reduceLeDiff, Nat.reduceEqDiff, reduceIte, if_true, if_false, asIx_int, f_add, f_sub, f_lt, f_le, f_gt, f_ge, f_addA, f_subA, f_eqI, f_eqS, f_eqB, f_neI, f_isN, f_ixL, f_ixT, f_neg, f_not, f_min, f_max, f_abs, f_tB, f_lenL, f_lenT, f_list, f_listT, f_tup, f_tupT, f_wSeqL, f_wSeqT, f_cutT, f_cutL, wipeX, List.all_cons, List.all_nil, List.contains_cons, List.elem_nil, Bool.and_true, Bool.true_and, beq_self_eq_true, Bool.or_true, Bool.true_or, Bool.false_eq_true, Option.some.injEq, decide_true, decide_false, Bool.not_true, Bool.not_false, Nat.reduceBEq, Bool.or_false, Bool.false_or, List.append_nil, List.singleton_append, true_and, and_true, and_self, List.length_map, rep_zero _ h0 hl]
    exact ⟨_, rfl, fit_zero hn⟩
  · by_cases c1 : j = 1
    · subst c1
      simp only [DP.run, DP.runB, evS, evE, evA, evT, evP, evI, startE, startX, slot_zero, slot_succ, own_zero, own_succ, box_zero, box_succ, bind_r, Dr.bind_assoc, pur_r, put_nm, put_tp, put_tpL, puts_nil, puts_cons, then_nx, then_rt, then_rtO, told_rtO, put2_c, put3_c, evF, evB, flat_i, flat_b, flat_s, asLst_l, f_intI, f_intB, f_odd, f_notN, f_fListL, f_fListT, non_i, non_n, f_neS, then_bk, then_ct, told_rt, evT_qY, andB_t, andB_f, orB_t, orB_f, asInt_i, Dr.opt_some, small, within, List.length_cons, List.length_nil, List.map_cons, List.map_nil, List.cons_append, List.nil_append, List.replicate, List.set_cons_zero, List.set_cons_succ, Tt.vs, Ts.vs, Option.bind_some, Nat.reduceAdd, Nat.reduceSub, Nat.reduceLeDiff, Nat.reduceEqDiff, reduceIte, if_true, if_false, asIx_int, f_add, f_sub, f_lt, f_le, f_gt, f_ge, f_addA, f_subA, f_eqI, f_eqS, f_eqB, f_neI, f_isN, f_ixL, f_ixT, f_neg, f_not, f_min, f_max, f_abs, f_tB, f_lenL, f_lenT, f_list, f_listT, f_tup, f_tupT, f_wSeqL, f_wSeqT, f_cutT, f_cutL, wipeX, List.all_cons, List.all_nil, List.contains_cons, List.elem_nil, Bool.and_true, Bool.true_and, beq_self_eq_true, Bool.or_true, Bool.true_or, Bool.false_eq_true, Option.some.injEq, decide_true, decide_false, Bool.not_true, Bool.not_false, Nat.reduceBEq, Bool.or_false, Bool.false_or, List.append_nil, List.singleton_append, true_and, and_true, and_self]
      exact ⟨_, rfl, fit_full hn⟩
    · simp only [DP.run, DP.runB, evS, evE, evA, evT, evP, evI, startE, startX, slot_zero, slot_succ, own_zero, own_succ, box_zero, box_succ, bind_r, Dr.bind_assoc, pur_r, put_nm, put_tp, put_tpL, puts_nil, puts_cons, then_nx, then_rt, then_rtO, told_rtO, put2_c, put3_c, evF, evB, flat_i, flat_b, flat_s, asLst_l, f_intI, f_intB, f_odd, f_notN, f_fListL, f_fListT, non_i, non_n, f_neS, then_bk, then_ct, told_rt, evT_qY, andB_t, andB_f, orB_t, orB_f, asInt_i, Dr.opt_some, small, within, List.length_cons, List.length_nil, List.map_cons, List.map_nil, List.cons_append, List.nil_append, List.replicate, List.set_cons_zero, List.set_cons_succ, Tt.vs, Ts.vs, Option.bind_some, Nat.reduceAdd, Nat.reduceSub, Nat.reduceLeDiff, Nat.reduceEqDiff, reduceIte, if_true, if_false, asIx_int, f_add, f_sub, f_lt, f_le, f_gt, f_ge, f_addA, f_subA, f_eqI, f_eqS, f_eqB, f_neI, f_isN, f_ixL, f_ixT, f_neg, f_not, f_min, f_max, f_abs, f_tB, f_lenL, f_lenT, f_list, f_listT, f_tup, f_tupT, f_wSeqL, f_wSeqT, f_cutT, f_cutL, wipeX, List.all_cons, List.all_nil, List.contains_cons, List.elem_nil, Bool.and_true, Bool.true_and, beq_self_eq_true, Bool.or_true, Bool.true_or, Bool.false_eq_true, Option.some.injEq, decide_true, decide_false, Bool.not_true, Bool.not_false, Nat.reduceBEq, Bool.or_false, Bool.false_or, List.append_nil, List.singleton_append, true_and, and_true, and_self, c0, c1]
      exact ⟨_, rfl, hf⟩
/-! ## one breath -/
theorem optD_s (i : Nat) : optD (some i) = .int (i : Int) := rfl
theorem optD_n : optD none = .none := rfl
theorem ixS0 (b : Br) : oIxS.f (.str b.nm) (.int 0) = some (.str (if b.1 = true then "L" else "R")) := by
  rcases b with ⟨_ | _, _ | _⟩ <;> rfl
theorem ixS1 (b : Br) : oIxS.f (.str b.nm) (.int 1) = some (.str (if b.2 = true then "+" else "-")) := by
  rcases b with ⟨_ | _, _ | _⟩ <;> rfl
def spotL (s : Bool) : List Int → List Int → Option Nat
  | r :: rs, l :: ls => if 0 < cap s r l then some 0 else (spotL s rs ls).map (· + 1)
  | _, _ => none
def spotR (s : Bool) : List Int → List Int → Option Nat
  | r :: rs, l :: ls => match spotR s rs ls with
    | some i => some (i + 1)
    | none => if 0 < cap s r l then some 0 else none
  | _, _ => none
def spotM (b : Br) (rs ls : List Int) : Option Nat := if b.1 = true then spotL b.2 rs ls else spotR b.2 rs ls
def isSp (s : Bool) (rs ls : List Int) (i : Nat) : Bool := decide (0 < cap s (rs.getD i 0) (ls.getD i 0))
theorem find_map_succ (p : Nat → Bool) (xs : List Nat) : (xs.map (· + 1)).find? p = (xs.find? fun i => p (i + 1)).map (· + 1) := by
  rw [List.find?_map]
  rfl
theorem find_spL (s : Bool) : ∀ (rs ls : List Int), ls.length = rs.length → (List.range rs.length).find? (isSp s rs ls) = spotL s rs ls
  | [], [], _ => rfl
  | r :: rs, l :: ls, h => by
    rw [List.length_cons, List.range_succ_eq_map]
    show List.find? (isSp s (r :: rs) (l :: ls)) (0 :: (List.range rs.length).map (· + 1)) = if 0 < cap s r l then some 0 else (spotL s rs ls).map (· + 1)
    have e0 : isSp s (r :: rs) (l :: ls) 0 = decide (0 < cap s r l) := rfl
    by_cases hc : 0 < cap s r l
    · rw [List.find?_cons_of_pos (by rw [e0]; exact decide_eq_true hc), if_pos hc]
    · rw [List.find?_cons_of_neg (by rw [e0]; simpa using hc), if_neg hc, find_map_succ]
      have := find_spL s rs ls (by simpa using h)
      rw [← this]
      rfl
  | [], _ :: _, h => by cases h
  | _ :: _, [], h => by cases h
theorem find_rev_app {α : Type} (p : α → Bool) (xs ys : List α) : (xs ++ ys).find? p = (xs.find? p).or (ys.find? p) := by
  rw [List.find?_append]
theorem find_spR (s : Bool) : ∀ (rs ls : List Int), ls.length = rs.length → (List.range rs.length).reverse.find? (isSp s rs ls) = spotR s rs ls
  | [], [], _ => rfl
  | r :: rs, l :: ls, h => by
    rw [List.length_cons, List.range_succ_eq_map, List.reverse_cons, ← List.map_reverse, find_rev_app]
    have ih := find_spR s rs ls (by simpa using h)
    have e1 : ((List.range rs.length).reverse.map Nat.succ).find? (isSp s (r :: rs) (l :: ls)) = (spotR s rs ls).map (· + 1) := by
      rw [← ih]
      exact find_map_succ _ _
    rw [e1]
    have e0 : isSp s (r :: rs) (l :: ls) 0 = decide (0 < cap s r l) := rfl
    show _ = match spotR s rs ls with
      | some i => some (i + 1)
      | none => if 0 < cap s r l then some 0 else none
    cases spotR s rs ls with
    | some i => rfl
    | none =>
      by_cases hc : 0 < cap s r l
      · rw [if_pos hc]
        show List.find? _ [0] = _
        rw [List.find?_cons_of_pos (by rw [e0]; exact decide_eq_true hc)]
      · rw [if_neg hc]
        show List.find? _ [0] = _
        rw [List.find?_cons_of_neg (by rw [e0]; simpa using hc)]
        rfl
  | [], _ :: _, h => by cases h
  | _ :: _, [], h => by cases h
theorem find_order (b : Br) (rs ls : List Int) (h : ls.length = rs.length) : (order b rs.length).find? (isSp b.2 rs ls) = spotM b rs ls := by
  unfold order spotM
  cases b.1 with
  | true => exact find_spL _ rs ls h
  | false => exact find_spR _ rs ls h
theorem uListRg_n (n : Nat) (h : n ≤ 1000) : uListRg.f (.int (n : Int)) = some (.list (ixD (List.range n))) := by
  show (if 0 ≤ (n : Int) ∧ (n : Int) ≤ 16777216 then some (PyData.list (rangeD 0 (n : Int).toNat)) else none) = _
  rw [if_pos ⟨by omega, by omega⟩, Int.toNat_natCast]
  congr 2
  unfold rangeD
  refine List.map_congr_left fun i _ => ?_
  rw [Int.zero_add]
theorem uRevL_ix (l : List Nat) : uRevL.f (.list (ixD l)) = some (.list (ixD l.reverse)) := by
  show some (PyData.list (ixD l).reverse) = _
  rw [← List.map_reverse]
theorem strL : (decide (("L" : Str) = "L")) = true := by decide +kernel
theorem strRL : (decide (("R" : Str) = "L")) = false := by decide +kernel
theorem strP : (decide (("+" : Str) = "+")) = true := by decide +kernel
theorem strMP : (decide (("-" : Str) = "+")) = false := by decide +kernel
theorem order_it (b : Br) (n : Nat) : (if b.1 = true then List.range n else (List.range n).reverse) = order b n := rfl
theorem spot_eq {rs ls : List Int} (hf : Fit rs ls) (hl : rs.length ≤ 1000) (b : Br) : sem_L_spot [tN rs, tN ls, .str b.nm] = .ret (optD (spotM b rs ls)) := by
  have hs : ∀ i ∈ order b rs.length, ∀ u, lstep (evS b_L_spot_1) (.nm 4) (.int (i : Int)) [.dat (tN rs), .dat (tN ls), .dat (.str b.nm), .dat (.list (ixD (List.range rs.length))), u] = if isSp b.2 rs ls i = true then .ret (.rt (.int (i : Int))) else .ret (.nx [.dat (tN rs), .dat (tN ls), .dat (.str b.nm), .dat (.list (ixD (List.range rs.length))), .dat (.int (i : Int))]) := fun i hi u => by
    have h1 : i < rs.length := order_lt hi
    have h2 : i < ls.length := by rw [hf.len]; exact h1
    simp only [lstep, b_L_spot_1, DP.run, DP.runB, evS, evE, evA, evT, evP, evI, startE, startX, slot_zero, slot_succ, own_zero, own_succ, box_zero, box_succ, bind_r, Dr.bind_assoc, pur_r, put_nm, put_tp, put_tpL, puts_nil, puts_cons, then_nx, then_rt, then_rtO, told_rtO, put2_c, put3_c, evF, evB, flat_i, flat_b, flat_s, asLst_l, f_intI, f_intB, f_odd, f_notN, f_fListL, f_fListT, non_i, non_n, f_neS, then_bk, then_ct, told_rt, evT_qY, andB_t, andB_f, orB_t, orB_f, asInt_i, Dr.opt_some, small, within, List.length_cons, List.length_nil, List.map_cons, List.map_nil, List.cons_append, List.nil_append, List.replicate, List.set_cons_zero, List.set_cons_succ, Tt.vs, Ts.vs, Option.bind_some, Nat.reduceAdd, Nat.reduceSub, Nat.reduceLeDiff, Nat.reduceEqDiff, reduceIte, if_true, if_false, asIx_int, f_add, f_sub, f_lt, f_le, f_gt, f_ge, f_addA, f_subA, f_eqI, f_eqS, f_eqB, f_neI, f_isN, f_ixL, f_ixT, f_neg, f_not, f_min, f_max, f_abs, f_tB, f_lenL, f_lenT, f_list, f_listT, f_tup, f_tupT, f_wSeqL, f_wSeqT, f_cutT, f_cutL, wipeX, List.all_cons, List.all_nil, List.contains_cons, List.elem_nil, Bool.and_true, Bool.true_and, beq_self_eq_true, Bool.or_true, Bool.true_or, Bool.false_eq_true, Option.some.injEq, decide_true, decide_false, Bool.not_true, Bool.not_false, Nat.reduceBEq, Bool.or_false, Bool.false_or, List.append_nil, List.singleton_append, true_and, and_true, and_self, ixS1, atI_k h1, atI_k h2]
    unfold isSp cap
    cases b.2 with
    | true =>
      simp only [DP.run, DP.runB, evS, evE, evA, evT, evP, evI, startE, startX, slot_zero, slot_succ, own_zero, own_succ, box_zero, box_succ, bind_r, Dr.bind_assoc, pur_r, put_nm, put_tp, put_tpL, puts_nil, puts_cons, then_nx, then_rt, then_rtO, told_rtO, put2_c, put3_c, evF, evB, flat_i, flat_b, flat_s, asLst_l, f_intI, f_intB, f_odd, f_notN, f_fListL, f_fListT, non_i, non_n, f_neS, then_bk, then_ct, told_rt, evT_qY, andB_t, andB_f, orB_t, orB_f, asInt_i, Dr.opt_some, small, within, List.length_cons, List.length_nil, List.map_cons, List.map_nil, List.cons_append, List.nil_append, List.replicate, List.set_cons_zero, List.set_cons_succ, Tt.vs, Ts.vs, Option.bind_some, Nat.reduceAdd, Nat.reduceSub, Nat.reduceLeDiff, Nat.reduceEqDiff, reduceIte, if_true, if_false, asIx_int, f_add, f_sub, f_lt, f_le, f_gt, f_ge, f_addA, f_subA, f_eqI, f_eqS, f_eqB, f_neI, f_isN, f_ixL, f_ixT, f_neg, f_not, f_min, f_max, f_abs, f_tB, f_lenL, f_lenT, f_list, f_listT, f_tup, f_tupT, f_wSeqL, f_wSeqT, f_cutT, f_cutL, wipeX, List.all_cons, List.all_nil, List.contains_cons, List.elem_nil, Bool.and_true, Bool.true_and, beq_self_eq_true, Bool.or_true, Bool.true_or, Bool.false_eq_true, Option.some.injEq, decide_true, decide_false, Bool.not_true, Bool.not_false, Nat.reduceBEq, Bool.or_false, Bool.false_or, List.append_nil, List.singleton_append, true_and, and_true, and_self, strP]
      by_cases hc : ls.getD i 0 < rs.getD i 0
      · have hc' : 0 < rs.getD i 0 - ls.getD i 0 := by omega
        simp only [DP.run, DP.runB, evS, evE, evA, evT, evP, evI, startE, startX, slot_zero, slot_succ, own_zero, own_succ, box_zero, box_succ, bind_r, Dr.bind_assoc, pur_r, put_nm, put_tp, put_tpL, puts_nil, puts_cons, then_nx, then_rt, then_rtO, told_rtO, put2_c, put3_c, evF, evB, flat_i, flat_b, flat_s, asLst_l, f_intI, f_intB, f_odd, f_notN, f_fListL, f_fListT, non_i, non_n, f_neS, then_bk, then_ct, told_rt, evT_qY, andB_t, andB_f, orB_t, orB_f, asInt_i, Dr.opt_some, small, within, List.length_cons, List.length_nil, List.map_cons, List.map_nil, List.cons_append, List.nil_append, List.replicate, List.set_cons_zero, List.set_cons_succ, Tt.vs, Ts.vs, Option.bind_some, Nat.reduceAdd, Nat.reduceSub, Nat.reduceLeDiff, Nat.reduceEqDiff, reduceIte, if_true, if_false, asIx_int, f_add, f_sub, f_lt, f_le, f_gt, f_ge, f_addA, f_subA, f_eqI, f_eqS, f_eqB, f_neI, f_isN, f_ixL, f_ixT, f_neg, f_not, f_min, f_max, f_abs, f_tB, f_lenL, f_lenT, f_list, f_listT, f_tup, f_tupT, f_wSeqL, f_wSeqT, f_cutT, f_cutL, wipeX, List.all_cons, List.all_nil, List.contains_cons, List.elem_nil, Bool.and_true, Bool.true_and, beq_self_eq_true, Bool.or_true, Bool.true_or, Bool.false_eq_true, Option.some.injEq, decide_true, decide_false, Bool.not_true, Bool.not_false, Nat.reduceBEq, Bool.or_false, Bool.false_or, List.append_nil, List.singleton_append, true_and, and_true, and_self, hc, hc']
      · have hc' : ¬ 0 < rs.getD i 0 - ls.getD i 0 := by omega
        simp only [DP.run, DP.runB, evS, evE, evA, evT, evP, evI, startE, startX, slot_zero, slot_succ, own_zero, own_succ, box_zero, box_succ, bind_r, Dr.bind_assoc, pur_r, put_nm, put_tp, put_tpL, puts_nil, puts_cons, then_nx, then_rt, then_rtO, told_rtO, put2_c, put3_c, evF, evB, flat_i, flat_b, flat_s, asLst_l, f_intI, f_intB, f_odd, f_notN, f_fListL, f_fListT, non_i, non_n, f_neS, then_bk, then_ct, told_rt, evT_qY, andB_t, andB_f, orB_t, orB_f, asInt_i, Dr.opt_some, small, within, List.length_cons, List.length_nil, List.map_cons, List.map_nil, List.cons_append, List.nil_append, List.replicate, List.set_cons_zero, List.set_cons_succ, Tt.vs, Ts.vs, Option.bind_some, Nat.reduceAdd, Nat.reduceSub, Nat.reduceLeDiff, Nat.reduceEqDiff, reduceIte, if_true, if_false, asIx_int, f_add, f_sub, f_lt, f_le, f_gt, f_ge, f_addA, f_subA, f_eqI, f_eqS, f_eqB, f_neI, f_isN, f_ixL, f_ixT, f_neg, f_not, f_min, f_max, f_abs, f_tB, f_lenL, f_lenT, f_list, f_listT, f_tup, f_tupT, f_wSeqL, f_wSeqT, f_cutT, f_cutL, wipeX, List.all_cons, List.all_nil, List.contains_cons, List.elem_nil, Bool.and_true, Bool.true_and, beq_self_eq_true, Bool.or_true, Bool.true_or, Bool.false_eq_true, Option.some.injEq, decide_true, decide_false, Bool.not_true, Bool.not_false, Nat.reduceBEq, Bool.or_false, Bool.false_or, List.append_nil, List.singleton_append, true_and, and_true, and_self, hc, hc']
    | false =>
      simp only [DP.run, DP.runB, evS, evE, evA, evT, evP, evI, startE, startX, slot_zero, slot_succ, own_zero, own_succ, box_zero, box_succ, bind_r, Dr.bind_assoc, pur_r, put_nm, put_tp, put_tpL, puts_nil, puts_cons, then_nx, then_rt, then_rtO, told_rtO, put2_c, put3_c, evF, evB, flat_i, flat_b, flat_s, asLst_l, f_intI, f_intB, f_odd, f_notN, f_fListL, f_fListT, non_i, non_n, f_neS, then_bk, then_ct, told_rt, evT_qY, andB_t, andB_f, orB_t, orB_f, asInt_i, Dr.opt_some, small, within, List.length_cons, List.length_nil, List.map_cons, List.map_nil, List.cons_append, List.nil_append, List.replicate, List.set_cons_zero, List.set_cons_succ, Tt.vs, Ts.vs, Option.bind_some, Nat.reduceAdd, Nat.reduceSub, Nat.reduceLeDiff, Nat.reduceEqDiff, reduceIte, if_true, if_false, asIx_int, f_add, f_sub, f_lt, f_le, f_gt, f_ge, f_addA, f_subA, f_eqI, f_eqS, f_eqB, f_neI, f_isN, f_ixL, f_ixT, f_neg, f_not, f_min, f_max, f_abs, f_tB, f_lenL, f_lenT, f_list, f_listT, f_tup, f_tupT, f_wSeqL, f_wSeqT, f_cutT, f_cutL, wipeX, List.all_cons, List.all_nil, List.contains_cons, List.elem_nil, Bool.and_true, Bool.true_and, beq_self_eq_true, Bool.or_true, Bool.true_or, Bool.false_eq_true, Option.some.injEq, decide_true, decide_false, Bool.not_true, Bool.not_false, Nat.reduceBEq, Bool.or_false, Bool.false_or, List.append_nil, List.singleton_append, true_and, and_true, and_self, strMP]
  have hF := forL_find (g := fun (i : Nat) => PyData.int (i : Int)) (step := lstep (evS b_L_spot_1) (.nm 4)) (p := isSp b.2 rs ls) (ev := fun u => [.dat (tN rs), .dat (tN ls), .dat (.str b.nm), .dat (.list (ixD (List.range rs.length))), u]) (v := fun i => .int (i : Int)) (xs := order b rs.length) (u := .unk) hs
  rw [find_order b rs ls hf.len] at hF
  have e1 : (if b.1 = true then Dr.ret (PyData.list (ixD (List.range rs.length))) else Dr.ret (PyData.list (ixD (List.range rs.length).reverse))) = .ret (.list (ixD (order b rs.length))) := by
    unfold order
    cases b.1 <;> rfl
  simp only [sem_L_spot, a_L_spot, DP.run, DP.runB, evS, evE, evA, evT, evP, evI, startE, startX, slot_zero, slot_succ, own_zero, own_succ, box_zero, box_succ, bind_r, Dr.bind_assoc, pur_r, put_nm, put_tp, put_tpL, puts_nil, puts_cons, then_nx, then_rt, then_rtO, told_rtO, put2_c, put3_c, evF, evB, flat_i, flat_b, flat_s, asLst_l, f_intI, f_intB, f_odd, f_notN, f_fListL, f_fListT, non_i, non_n, f_neS, then_bk, then_ct, told_rt, evT_qY, andB_t, andB_f, orB_t, orB_f, asInt_i, Dr.opt_some, small, within, List.length_cons, List.length_nil, List.map_cons, List.map_nil, List.cons_append, List.nil_append, List.replicate, List.set_cons_zero, List.set_cons_succ, Tt.vs, Ts.vs, Option.bind_some, Nat.reduceAdd, Nat.reduceSub, Nat.reduceLeDiff, Nat.reduceEqDiff, reduceIte, if_true, if_false, asIx_int, f_add, f_sub, f_lt, f_le, f_gt, f_ge, f_addA, f_subA, f_eqI, f_eqS, f_eqB, f_neI, f_isN, f_ixL, f_ixT, f_neg, f_not, f_min, f_max, f_abs, f_tB, f_lenL, f_lenT, f_list, f_listT, f_tup, f_tupT, f_wSeqL, f_wSeqT, f_cutT, f_cutL, wipeX, List.all_cons, List.all_nil, List.contains_cons, List.elem_nil, Bool.and_true, Bool.true_and, beq_self_eq_true, Bool.or_true, Bool.true_or, Bool.false_eq_true, Option.some.injEq, decide_true, decide_false, Bool.not_true, Bool.not_false, Nat.reduceBEq, Bool.or_false, Bool.false_or, List.append_nil, List.singleton_append, true_and, and_true, and_self, List.length_map, uListRg_n _ hl, ixS0, uRevL_ix]
  have e2 : decide ((if b.1 = true then ("L" : Str) else "R") = "L") = b.1 := by
    cases b.1
    · exact strRL
    · exact strL
  rw [e2, e1]
  simp only [DP.run, DP.runB, evS, evE, evA, evT, evP, evI, startE, startX, slot_zero, slot_succ, own_zero, own_succ, box_zero, box_succ, bind_r, Dr.bind_assoc, pur_r, put_nm, put_tp, put_tpL, puts_nil, puts_cons, then_nx, then_rt, then_rtO, told_rtO, put2_c, put3_c, evF, evB, flat_i, flat_b, flat_s, asLst_l, f_intI, f_intB, f_odd, f_notN, f_fListL, f_fListT, non_i, non_n, f_neS, then_bk, then_ct, told_rt, evT_qY, andB_t, andB_f, orB_t, orB_f, asInt_i, Dr.opt_some, small, within, List.length_cons, List.length_nil, List.map_cons, List.map_nil, List.cons_append, List.nil_append, List.replicate, List.set_cons_zero, List.set_cons_succ, Tt.vs, Ts.vs, Option.bind_some, Nat.reduceAdd, Nat.reduceSub, Nat.reduceLeDiff, Nat.reduceEqDiff, reduceIte, if_true, if_false, asIx_int, f_add, f_sub, f_lt, f_le, f_gt, f_ge, f_addA, f_subA, f_eqI, f_eqS, f_eqB, f_neI, f_isN, f_ixL, f_ixT, f_neg, f_not, f_min, f_max, f_abs, f_tB, f_lenL, f_lenT, f_list, f_listT, f_tup, f_tupT, f_wSeqL, f_wSeqT, f_cutT, f_cutL, wipeX, List.all_cons, List.all_nil, List.contains_cons, List.elem_nil, Bool.and_true, Bool.true_and, beq_self_eq_true, Bool.or_true, Bool.true_or, Bool.false_eq_true, Option.some.injEq, decide_true, decide_false, Bool.not_true, Bool.not_false, Nat.reduceBEq, Bool.or_false, Bool.false_or, List.append_nil, List.singleton_append, true_and, and_true, and_self]
  cases hsp : spotM b rs ls with
  | some i =>
    rw [hF.1 i hsp]
    rfl
  | none =>
    obtain ⟨u', h'⟩ := hF.2 hsp
    rw [h']
    rfl
theorem spotL_run {s : Bool} : ∀ {rs ls : List Int}, Fit rs ls → (spotL s rs ls = none → runL s rs ls 1 = (ls, 1)) ∧ ∀ i, spotL s rs ls = some i → i < ls.length ∧ runL s rs ls 1 = (ls.set i (put1 s (ls.getD i 0) 1), 0)
  | _, _, .nil => ⟨fun _ => rfl, fun i h => by cases h⟩
  | r :: rs, l :: ls, .cons a b t => by
    have c0 := cap_nn (s := s) a b
    have ih := spotL_run (s := s) t
    show ((if 0 < cap s r l then some 0 else (spotL s rs ls).map (· + 1)) = none → _) ∧ ∀ i, (if 0 < cap s r l then some 0 else (spotL s rs ls).map (· + 1)) = some i → _
    by_cases hc : 0 < cap s r l
    · rw [if_pos hc]
      refine ⟨fun h => (by cases h), fun i h => ?_⟩
      cases h
      refine ⟨Nat.succ_pos _, ?_⟩
      show (put1 s l (min 1 (cap s r l)) :: (runL s rs ls (1 - min 1 (cap s r l))).1, (runL s rs ls (1 - min 1 (cap s r l))).2) = _
      rw [show min 1 (cap s r l) = 1 by omega, Int.sub_self, runL_zero t]
      rfl
    · rw [if_neg hc]
      have e : runL s (r :: rs) (l :: ls) 1 = (l :: (runL s rs ls 1).1, (runL s rs ls 1).2) := by
        show (put1 s l (min 1 (cap s r l)) :: (runL s rs ls (1 - min 1 (cap s r l))).1, (runL s rs ls (1 - min 1 (cap s r l))).2) = _
        rw [show min 1 (cap s r l) = 0 by omega, Int.sub_zero]
        have : put1 s l 0 = l := by unfold put1; split <;> omega
        rw [this]
      refine ⟨fun h => ?_, fun i h => ?_⟩
      · rw [e, ih.1 (by cases hq : spotL s rs ls with | none => rfl | some j => rw [hq] at h; cases h)]
      · obtain ⟨j, hj, rfl⟩ := Option.map_eq_some_iff.mp h
        obtain ⟨h1, h2⟩ := ih.2 j hj
        refine ⟨Nat.succ_lt_succ h1, ?_⟩
        rw [e, h2]
        rfl
theorem spotR_run {s : Bool} : ∀ {rs ls : List Int}, Fit rs ls → (spotR s rs ls = none → runR s rs ls 1 = (ls, 1)) ∧ ∀ i, spotR s rs ls = some i → i < ls.length ∧ runR s rs ls 1 = (ls.set i (put1 s (ls.getD i 0) 1), 0)
  | _, _, .nil => ⟨fun _ => rfl, fun i h => by cases h⟩
  | r :: rs, l :: ls, .cons a b t => by
    have c0 := cap_nn (s := s) a b
    have ih := spotR_run (s := s) t
    have er : runR s (r :: rs) (l :: ls) 1 = (put1 s l (min (runR s rs ls 1).2 (cap s r l)) :: (runR s rs ls 1).1, (runR s rs ls 1).2 - min (runR s rs ls 1).2 (cap s r l)) := rfl
    have es : spotR s (r :: rs) (l :: ls) = match spotR s rs ls with
      | some i => some (i + 1)
      | none => if 0 < cap s r l then some 0 else none := rfl
    cases hq : spotR s rs ls with
    | some j =>
      rw [hq] at es
      obtain ⟨h1, h2⟩ := ih.2 j hq
      rw [es, er, h2]
      refine ⟨fun h => (by cases h), fun i h => ?_⟩
      cases h
      refine ⟨Nat.succ_lt_succ h1, ?_⟩
      have : put1 s l 0 = l := by unfold put1; split <;> omega
      rw [show min (0 : Int) (cap s r l) = 0 by omega, this, Int.sub_zero]
      rfl
    | none =>
      rw [hq] at es
      rw [es, er, ih.1 hq]
      by_cases hc : 0 < cap s r l
      · simp only [if_pos hc]
        refine ⟨fun h => (by cases h), fun i h => ?_⟩
        cases h
        refine ⟨Nat.succ_pos _, ?_⟩
        rw [show min 1 (cap s r l) = 1 by omega, Int.sub_self]
        rfl
      · simp only [if_neg hc]
        refine ⟨fun _ => ?_, fun i h => by cases h⟩
        have : put1 s l 0 = l := by unfold put1; split <;> omega
        rw [show min 1 (cap s r l) = 0 by omega, this, Int.sub_zero]
theorem spot_run {b : Br} {rs ls : List Int} (h : Fit rs ls) : (spotM b rs ls = none → runM b rs ls 1 = (ls, 1)) ∧ ∀ i, spotM b rs ls = some i → i < ls.length ∧ runM b rs ls 1 = (ls.set i (put1 b.2 (ls.getD i 0) 1), 0) := by
  unfold spotM runM
  cases b.1 with
  | true => exact spotL_run h
  | false => exact spotR_run h
theorem set_cat : ∀ (ls : List Int) (i : Nat) (v : Int), i < ls.length → ls.take i ++ [v] ++ ls.drop (i + 1) = ls.set i v
  | l :: ls, 0, v, _ => rfl
  | l :: ls, i + 1, v, h => by
    show l :: (ls.take i ++ [v] ++ ls.drop (i + 1)) = l :: ls.set i v
    rw [set_cat ls i v (Nat.lt_of_succ_lt_succ h)]
  | [], i, v, h => absurd h (Nat.not_lt_zero _)
theorem catT_c {xs ys : List Int} (h : xs.length + ys.length ≤ 100000) : oCatT.f (.tuple (dI xs)) (.tuple (dI ys)) = some (tN (xs ++ ys)) := by
  show (if (dI xs).length + (dI ys).length ≤ 100000 then some (PyData.tuple (dI xs ++ dI ys)) else none) = _
  rw [if_pos (by rw [List.length_map, List.length_map]; exact h), ← List.map_append]
theorem breathed1_eq {rs ls : List Int} (hf : Fit rs ls) (hl : rs.length ≤ 1000) (b : Br) : sem_L_breathed [tN rs, tN ls, .str b.nm] = .ret (tN (runM b rs ls 1).1) := by
  have sr := spot_run (b := b) hf
  have hll := hf.len
  simp only [sem_L_breathed, a_L_breathed, DP.run, DP.runB, evS, evE, evA, evT, evP, evI, startE, startX, slot_zero, slot_succ, own_zero, own_succ, box_zero, box_succ, bind_r, Dr.bind_assoc, pur_r, put_nm, put_tp, put_tpL, puts_nil, puts_cons, then_nx, then_rt, then_rtO, told_rtO, put2_c, put3_c, evF, evB, flat_i, flat_b, flat_s, asLst_l, f_intI, f_intB, f_odd, f_notN, f_fListL, f_fListT, non_i, non_n, f_neS, then_bk, then_ct, told_rt, evT_qY, andB_t, andB_f, orB_t, orB_f, asInt_i, Dr.opt_some, small, within, List.length_cons, List.length_nil, List.map_cons, List.map_nil, List.cons_append, List.nil_append, List.replicate, List.set_cons_zero, List.set_cons_succ, Tt.vs, Ts.vs, Option.bind_some, Nat.reduceAdd, Nat.reduceSub, Nat.reduceLeDiff, Nat.reduceEqDiff, reduceIte, if_true, if_false, asIx_int, f_add, f_sub, f_lt, f_le, f_gt, f_ge, f_addA, f_subA, f_eqI, f_eqS, f_eqB, f_neI, f_isN, f_ixL, f_ixT, f_neg, f_not, f_min, f_max, f_abs, f_tB, f_lenL, f_lenT, f_list, f_listT, f_tup, f_tupT, f_wSeqL, f_wSeqT, f_cutT, f_cutL, wipeX, List.all_cons, List.all_nil, List.contains_cons, List.elem_nil, Bool.and_true, Bool.true_and, beq_self_eq_true, Bool.or_true, Bool.true_or, Bool.false_eq_true, Option.some.injEq, decide_true, decide_false, Bool.not_true, Bool.not_false, Nat.reduceBEq, Bool.or_false, Bool.false_or, List.append_nil, List.singleton_append, true_and, and_true, and_self, spot_eq hf hl b]
  cases hsp : spotM b rs ls with
  | none =>
    rw [sr.1 hsp]
    rfl
  | some i =>
    obtain ⟨h1, h2⟩ := sr.2 i hsp
    rw [h2]
    simp only [DP.run, DP.runB, evS, evE, evA, evT, evP, evI, startE, startX, slot_zero, slot_succ, own_zero, own_succ, box_zero, box_succ, bind_r, Dr.bind_assoc, pur_r, put_nm, put_tp, put_tpL, puts_nil, puts_cons, then_nx, then_rt, then_rtO, told_rtO, put2_c, put3_c, evF, evB, flat_i, flat_b, flat_s, asLst_l, f_intI, f_intB, f_odd, f_notN, f_fListL, f_fListT, non_i, non_n, f_neS, then_bk, then_ct, told_rt, evT_qY, andB_t, andB_f, orB_t, orB_f, asInt_i, Dr.opt_some, small, within, List.length_cons, List.length_nil, List.map_cons, List.map_nil, List.cons_append, List.nil_append, List.replicate, List.set_cons_zero, List.set_cons_succ, Tt.vs, Ts.vs, Option.bind_some, Nat.reduceAdd, Nat.reduceSub, Nat.reduceLeDiff, Nat.reduceEqDiff, reduceIte, if_true, if_false, asIx_int, f_add, f_sub, f_lt, f_le, f_gt, f_ge, f_addA, f_subA, f_eqI, f_eqS, f_eqB, f_neI, f_isN, f_ixL, f_ixT, f_neg, f_not, f_min, f_max, f_abs, f_tB, f_lenL, f_lenT, f_list, f_listT, f_tup, f_tupT, f_wSeqL, f_wSeqT, f_cutT, f_cutL, wipeX, List.all_cons, List.all_nil, List.contains_cons, List.elem_nil, Bool.and_true, Bool.true_and, beq_self_eq_true, Bool.or_true, Bool.true_or, Bool.false_eq_true, Option.some.injEq, decide_true, decide_false, Bool.not_true, Bool.not_false, Nat.reduceBEq, Bool.or_false, Bool.false_or, List.append_nil, List.singleton_append, true_and, and_true, and_self, optD_s, atI_k h1, ixS1, cut_to]
    have e1 : cutD (dI ls) (some ((i : Int) + 1)) none = dI (ls.drop (i + 1)) := cut_from ls (i + 1)
    have e2 : ∀ v : Int, oCatT.f (.tuple (dI (ls.take i))) (.tuple [.int v]) = some (tN (ls.take i ++ [v])) := fun v => catT_c (ys := [v]) (by rw [List.length_take]; simp; omega)
    have e3 : ∀ v : Int, oCatT.f (tN (ls.take i ++ [v])) (.tuple (dI (ls.drop (i + 1)))) = some (tN (ls.set i v)) := fun v => by
      rw [catT_c (by rw [List.length_append, List.length_take, List.length_drop]; simp; omega), set_cat ls i v h1]
    cases hb : b.2 with
    | true => simp only [DP.run, DP.runB, evS, evE, evA, evT, evP, evI, startE, startX, slot_zero, slot_succ, own_zero, own_succ, box_zero, box_succ, bind_r, Dr.bind_assoc, pur_r, put_nm, put_tp, put_tpL, puts_nil, puts_cons, then_nx, then_rt, then_rtO, told_rtO, put2_c, put3_c, evF, evB, flat_i, flat_b, flat_s, asLst_l, f_intI, f_intB, f_odd, f_notN, f_fListL, f_fListT, non_i, non_n, f_neS, then_bk, then_ct, told_rt, evT_qY, andB_t, andB_f, orB_t, orB_f, asInt_i, Dr.opt_some, small, within, List.length_cons, List.length_nil, List.map_cons, List.map_nil, List.cons_append, List.nil_append, List.replicate, List.set_cons_zero, List.set_cons_succ, Tt.vs, Ts.vs, Option.bind_some, Nat.reduceAdd, Nat.reduceSub, Nat.reduceLeDiff, Nat.reduceEqDiff, reduceIte, if_true, if_false, asIx_int, f_add, f_sub, f_lt, f_le, f_gt, f_ge, f_addA, f_subA, f_eqI, f_eqS, f_eqB, f_neI, f_isN, f_ixL, f_ixT, f_neg, f_not, f_min, f_max, f_abs, f_tB, f_lenL, f_lenT, f_list, f_listT, f_tup, f_tupT, f_wSeqL, f_wSeqT, f_cutT, f_cutL, wipeX, List.all_cons, List.all_nil, List.contains_cons, List.elem_nil, Bool.and_true, Bool.true_and, beq_self_eq_true, Bool.or_true, Bool.true_or, Bool.false_eq_true, Option.some.injEq, decide_true, decide_false, Bool.not_true, Bool.not_false, Nat.reduceBEq, Bool.or_false, Bool.false_or, List.append_nil, List.singleton_append, true_and, and_true, and_self, strP, e1, e2, e3, put1]
    | false => simp only [DP.run, DP.runB, evS, evE, evA, evT, evP, evI, startE, startX, slot_zero, slot_succ, own_zero, own_succ, box_zero, box_succ, bind_r, Dr.bind_assoc, pur_r, put_nm, put_tp, put_tpL, puts_nil, puts_cons, then_nx, then_rt, then_rtO, told_rtO, put2_c, put3_c, evF, evB, flat_i, flat_b, flat_s, asLst_l, f_intI, f_intB, f_odd, f_notN, f_fListL, f_fListT, non_i, non_n, f_neS, then_bk, then_ct, told_rt, evT_qY, andB_t, andB_f, orB_t, orB_f, asInt_i, Dr.opt_some, small, within, List.length_cons, List.length_nil, List.map_cons, List.map_nil, List.cons_append, List.nil_append, List.replicate, List.set_cons_zero, List.set_cons_succ, Tt.vs, Ts.vs, Option.bind_some, Nat.reduceAdd, Nat.reduceSub, Nat.reduceLeDiff, Nat.reduceEqDiff, reduceIte, if_true, if_false, asIx_int, f_add, f_sub, f_lt, f_le, f_gt, f_ge, f_addA, f_subA, f_eqI, f_eqS, f_eqB, f_neI, f_isN, f_ixL, f_ixT, f_neg, f_not, f_min, f_max, f_abs, f_tB, f_lenL, f_lenT, f_list, f_listT, f_tup, f_tupT, f_wSeqL, f_wSeqT, f_cutT, f_cutL, wipeX, List.all_cons, List.all_nil, List.contains_cons, List.elem_nil, Bool.and_true, Bool.true_and, beq_self_eq_true, Bool.or_true, Bool.true_or, Bool.false_eq_true, Option.some.injEq, decide_true, decide_false, Bool.not_true, Bool.not_false, Nat.reduceBEq, Bool.or_false, Bool.false_or, List.append_nil, List.singleton_append, true_and, and_true, and_self, strMP, e1, e2, e3, put1, Int.sub_eq_add_neg]
end DP

/-! what lies ahead of a gap -/
namespace DP
open PySem PySem.Spec PyProof.Rows L2 ZX DL RT
/-- how much there is room for, or lies, ahead of a gap -/
def capS (s : Bool) (rs ls : List Int) (g : Nat) : Int := if s = true then (rs.take g).sum - (ls.take g).sum else (ls.take g).sum
theorem capS_cons (s : Bool) (r l : Int) (rs ls : List Int) (g : Nat) : capS s (r :: rs) (l :: ls) (g + 1) = cap s r l + capS s rs ls g := by
  unfold capS cap
  simp only [List.take_succ_cons, List.sum_cons]
  split <;> omega
theorem capS_zero (s : Bool) (rs ls : List Int) : capS s rs ls 0 = 0 := by
  unfold capS
  simp only [List.take_zero, List.sum_nil]
  split <;> omega
theorem capS_nil (s : Bool) (g : Nat) : capS s [] [] g = 0 := by
  unfold capS
  simp only [List.take_nil, List.sum_nil]
  split <;> omega
theorem capS_nn {s : Bool} : ∀ {rs ls : List Int} {g : Nat}, Fit rs ls → 0 ≤ capS s rs ls g
  | _, _, g, .nil => by rw [capS_nil]; omega
  | _, _, 0, .cons _ _ _ => by rw [capS_zero]; omega
  | r :: rs, l :: ls, g + 1, .cons a b t => by
    rw [capS_cons]
    have := cap_nn (s := s) a b
    have := capS_nn (s := s) (g := g) t
    omega
theorem fit_nn : ∀ {rs ls : List Int}, Fit rs ls → (∀ l ∈ ls, 0 ≤ l) ∧ ∀ r ∈ rs, 0 ≤ r
  | _, _, .nil => ⟨fun l h => (by cases h), fun l h => (by cases h)⟩
  | r :: rs, l :: ls, .cons a b t => by
    obtain ⟨h1, h2⟩ := fit_nn t
    refine ⟨fun x hx => ?_, fun x hx => ?_⟩
    · rcases List.mem_cons.mp hx with rfl | hx
      · exact a
      · exact h1 x hx
    · rcases List.mem_cons.mp hx with rfl | hx
      · omega
      · exact h2 x hx
theorem sum_nn : ∀ {xs : List Int}, (∀ x ∈ xs, 0 ≤ x) → 0 ≤ xs.sum
  | [], _ => Int.le_refl _
  | x :: xs, h => by
    rw [List.sum_cons]
    have := h x (List.mem_cons_self ..)
    have := sum_nn (xs := xs) fun y hy => h y (List.mem_cons_of_mem _ hy)
    omega
theorem take_sum_le : ∀ {xs : List Int} (g : Nat), (∀ x ∈ xs, 0 ≤ x) → 0 ≤ (xs.take g).sum ∧ (xs.take g).sum ≤ xs.sum := fun {xs} g h => by
  have e : (xs.take g).sum + (xs.drop g).sum = xs.sum := by rw [← List.sum_append, List.take_append_drop]
  have h1 := sum_nn (xs := xs.take g) fun x hx => h x (List.mem_of_mem_take hx)
  have h2 := sum_nn (xs := xs.drop g) fun x hx => h x (List.mem_of_mem_drop hx)
  omega
theorem fit_sum : ∀ {rs ls : List Int}, Fit rs ls → ls.sum ≤ rs.sum
  | _, _, .nil => Int.le_refl _
  | r :: rs, l :: ls, .cons a b t => by
    rw [List.sum_cons, List.sum_cons]
    have := fit_sum t
    omega
theorem capS_le {s : Bool} {rs ls : List Int} {g : Nat} (h : Fit rs ls) : capS s rs ls g ≤ rs.sum := by
  obtain ⟨h1, h2⟩ := fit_nn h
  have a := take_sum_le g h1
  have b := take_sum_le g h2
  have c := fit_sum h
  unfold capS
  split <;> omega
/-- the left hand's run, ahead of a gap -/
theorem runL_take {s : Bool} : ∀ {rs ls : List Int} {n : Int} {g : Nat}, Fit rs ls → 0 ≤ n → ((runL s rs ls n).1.take g).sum = put1 s (ls.take g).sum (min n (capS s rs ls g))
  | _, _, n, g, .nil, hn => by
    rw [capS_nil]
    show (([] : List Int).take g).sum = _
    simp only [List.take_nil, List.sum_nil]
    unfold put1
    split <;> omega
  | _, _, n, 0, .cons _ _ _, hn => by
    rw [capS_zero]
    simp only [List.take_zero, List.sum_nil]
    unfold put1
    split <;> omega
  | r :: rs, l :: ls, n, g + 1, .cons a b t, hn => by
    have c0 := cap_nn (s := s) a b
    have cn := capS_nn (s := s) (g := g) t
    rw [capS_cons]
    show ((put1 s l (min n (cap s r l)) :: (runL s rs ls (n - min n (cap s r l))).1).take (g + 1)).sum = _
    rw [List.take_succ_cons, List.sum_cons, runL_take (g := g) t (by omega), List.take_succ_cons, List.sum_cons]
    unfold put1
    split <;> omega
theorem runL_capS {s : Bool} {rs ls : List Int} {n : Int} {g : Nat} (h : Fit rs ls) (hn : 0 ≤ n) : capS s rs (runL s rs ls n).1 g = capS s rs ls g - min n (capS s rs ls g) := by
  have e := runL_take (s := s) (n := n) (g := g) h hn
  unfold capS at e ⊢
  rw [e]
  unfold put1
  cases s <;> simp <;> omega
theorem spotL_gap {s : Bool} : ∀ {rs ls : List Int} {g : Nat}, Fit rs ls → (0 < capS s rs ls g → ∃ i, spotL s rs ls = some i ∧ i < g) ∧ (capS s rs ls g = 0 → ∀ i, spotL s rs ls = some i → g ≤ i)
  | _, _, g, .nil => ⟨fun h => by rw [capS_nil] at h; omega, fun _ i h => by cases h⟩
  | _, _, 0, .cons _ _ _ => ⟨fun h => by rw [capS_zero] at h; omega, fun _ i _ => Nat.zero_le _⟩
  | r :: rs, l :: ls, g + 1, .cons a b t => by
    have c0 := cap_nn (s := s) a b
    have cn := capS_nn (s := s) (g := g) t
    have ih := spotL_gap (s := s) (g := g) t
    rw [capS_cons]
    show (_ → ∃ i, (if 0 < cap s r l then some 0 else (spotL s rs ls).map (· + 1)) = some i ∧ _) ∧ (_ → ∀ i, (if 0 < cap s r l then some 0 else (spotL s rs ls).map (· + 1)) = some i → _)
    by_cases hc : 0 < cap s r l
    · rw [if_pos hc]
      exact ⟨fun _ => ⟨0, rfl, Nat.succ_pos _⟩, fun h => by omega⟩
    · rw [if_neg hc]
      refine ⟨fun h => ?_, fun h i hi => ?_⟩
      · obtain ⟨i, e, hi⟩ := ih.1 (by omega)
        exact ⟨i + 1, by rw [e]; rfl, Nat.succ_lt_succ hi⟩
      · obtain ⟨j, hj, rfl⟩ := Option.map_eq_some_iff.mp hi
        exact Nat.succ_le_succ (ih.2 (by omega) j hj)
theorem seqF_t (ds : List PyData) : seqF (.tuple ds) = some ds := rfl
theorem seqF_l (ds : List PyData) : seqF (.list ds) = some ds := rfl
theorem first_over_eq {r st : PyData} {rs ls : List Int} (hr : seqF r = some (dI rs)) (hs : seqF st = some (dI ls)) (g : Nat) : sem_first_over [r, st, .int (g : Int)] = .ret (.tuple [.int ((rs.take g).sum - (ls.take g).sum + 1), .int ((ls.take g).sum + 1)]) := by
  obtain ⟨d1, e1, h1⟩ := seq_cut hs none (some (g : Int))
  obtain ⟨d2, e2, h2⟩ := seq_cut hr none (some (g : Int))
  rw [cut_to] at h1 h2
  simp only [sem_first_over, a_first_over, DP.run, DP.runB, evS, evE, evA, evT, evP, evI, startE, startX, slot_zero, slot_succ, own_zero, own_succ, box_zero, box_succ, bind_r, Dr.bind_assoc, pur_r, put_nm, put_tp, put_tpL, puts_nil, puts_cons, then_nx, then_rt, then_rtO, told_rtO, put2_c, put3_c, evF, evB, flat_i, flat_b, flat_s, asLst_l, f_intI, f_intB, f_odd, f_notN, f_fListL, f_fListT, non_i, non_n, f_neS, then_bk, then_ct, told_rt, evT_qY, andB_t, andB_f, orB_t, orB_f, asInt_i, Dr.opt_some, small, within, List.length_cons, List.length_nil, List.map_cons, List.map_nil, List.cons_append, List.nil_append, List.replicate, List.set_cons_zero, List.set_cons_succ, Tt.vs, Ts.vs, Option.bind_some, Nat.reduceAdd, Nat.reduceSub, Nat.reduceLeDiff, Nat.reduceEqDiff, reduceIte, if_true, if_false, asIx_int, f_add, f_sub, f_lt, f_le, f_gt, f_ge, f_addA, f_subA, f_eqI, f_eqS, f_eqB, f_neI, f_isN, f_ixL, f_ixT, f_neg, f_not, f_min, f_max, f_abs, f_tB, f_lenL, f_lenT, f_list, f_listT, f_tup, f_tupT, f_wSeqL, f_wSeqT, f_cutT, f_cutL, wipeX, List.all_cons, List.all_nil, List.contains_cons, List.elem_nil, Bool.and_true, Bool.true_and, beq_self_eq_true, Bool.or_true, Bool.true_or, Bool.false_eq_true, Option.some.injEq, decide_true, decide_false, Bool.not_true, Bool.not_false, Nat.reduceBEq, Bool.or_false, Bool.false_or, List.append_nil, List.singleton_append, true_and, and_true, and_self, e1, e2, sum_seq h1, sum_seq h2]
end DP

/-! the left hand's way -/
namespace DP
open PySem PySem.Spec PyProof.Rows L2 ZX DL RT
abbrev Tr := Nat × Bool × Int
/-- of lists turned about: the last one first -/
def wayR : List Int → List Int → List Int → List Tr
  | r :: rs, l :: ls, t :: ts =>
    if l < t then (rs.length, true, rs.sum - ls.sum + t - l) :: wayR rs rs ts
    else if t < l then (rs.length, false, ls.sum + l - t) :: wayR rs (List.replicate rs.length 0) ts
    else wayR rs ls ts
  | _, _, _ => []
def wayM (rs ls ts : List Int) : List Tr := wayR rs.reverse ls.reverse ts.reverse
def trD (x : Tr) : PyData := .tuple [.int (x.1 : Int), .str (Br.nm (true, x.2.1)), .int x.2.2]
def trW (w : List Tr) : Wd' := w.map fun x => ((true, x.2.1), x.2.2)
def wayW (rs ls ts : List Int) : Wd' := trW (wayM rs ls ts)
theorem take_snoc {xs : List Int} {k : Nat} (h : k < xs.length) : xs.take (k + 1) = xs.take k ++ [xs.getD k 0] := by
  rw [List.take_succ, List.getElem?_eq_getElem h, List.getD_eq_getElem?_getD, List.getElem?_eq_getElem h]
  rfl
theorem wayR_len : ∀ (rs ls ts : List Int), (wayR rs ls ts).length ≤ rs.length
  | [], _, _ => by simp [wayR]
  | r :: rs, [], ts => by simp [wayR]
  | r :: rs, l :: ls, [] => by simp [wayR]
  | r :: rs, l :: ls, t :: ts => by
    unfold wayR
    split
    · have := wayR_len rs rs ts
      simp only [List.length_cons]
      omega
    · split
      · have := wayR_len rs (List.replicate rs.length 0) ts
        simp only [List.length_cons]
        omega
      · have := wayR_len rs ls ts
        simp only [List.length_cons]
        omega
theorem wayM_len (rs ls ts : List Int) : (wayM rs ls ts).length ≤ rs.length := by
  have := wayR_len rs.reverse ls.reverse ts.reverse
  rwa [List.length_reverse] at this
theorem slPut_c {ms xs : List Int} {k : Nat} (h : k ≤ ms.length) (h2 : ms.length + xs.length ≤ 100000) : slPut (dI ms) (.list (dI xs)) (.int (k : Int)) = .ret (dI (xs ++ ms.drop k)) := by
  show (if 0 ≤ (k : Int) ∧ (k : Int) ≤ (dI ms).length ∧ (dI ms).length + (dI xs).length ≤ 100000 then Dr.ret (dI xs ++ (dI ms).drop (k : Int).toNat) else .bad) = _
  rw [if_pos ⟨by omega, by rw [List.length_map]; omega, by rw [List.length_map, List.length_map]; exact h2⟩, Int.toNat_natCast, ← List.map_drop, ← List.map_append]
theorem rep_zeroL (n : Nat) (h2 : n ≤ 1000) : oRepL.f (.list [.int 0]) (.int (n : Int)) = some (lN (List.replicate n 0)) := by
  show (if (0 ≤ (n : Int) ∧ (n : Int) ≤ 1000) ∧ [PyData.int 0].length ≤ 1000 then some (PyData.list (List.replicate (n : Int).toNat [PyData.int 0]).flatten) else none) = _
  rw [if_pos ⟨⟨by omega, by omega⟩, by decide⟩, Int.toNat_natCast]
  congr 2
  induction n with
  | zero => rfl
  | succ n ih =>
    rw [List.replicate_succ, List.flatten_cons, ih (by omega)]
    rfl
theorem take_cat {xs ys : List Int} {k : Nat} (h : xs.length = k) : (xs ++ ys).take k = xs := by
  subst h
  exact List.take_left
theorem revRg_n (n : Nat) (h : n ≤ 1000) : revRg (.int (n : Int)) = .ret ((List.range n).reverse.map fun (k : Nat) => PyData.int (k : Int)) := by
  have e : (n : Int) < 2 ^ 62 ∧ -(2 ^ 62) ≤ (n : Int) := ⟨by omega, by omega⟩
  unfold revRg
  simp only [e, and_self, if_true, Int.toNat_natCast]
set_option maxHeartbeats 4000000 in
theorem left_way_eq {r o t : PyData} {rs ls ts : List Int} (hr : seqF r = some (dI rs)) (ho : seqF o = some (dI ls)) (ht : seqF t = some (dI ts)) (h1 : ls.length = rs.length) (h2 : ts.length = rs.length) (hl : rs.length ≤ 1000) : sem_left_way [r, o, t] = .ret (.list ((wayM rs ls ts).map trD)) := by
  have rv := revRg_n rs.length hl
  obtain ⟨env', e, ms, u, v, rfl⟩ := forL_inv (step := lstep (evS b_left_way_1) (.nm 5)) (F := fun env => ∃ ms u v, env = [.dat r, .dat o, .dat t, .own ((wayM rs ls ts).map trD), .own (dI ms), u, v]) (fun i env => ∃ (ms : List Int) (acc : List Tr) (u v : Sl), ms.length = rs.length ∧ acc ++ wayR (rs.take (rs.length - i)).reverse (ms.take (rs.length - i)).reverse (ts.take (rs.length - i)).reverse = wayM rs ls ts ∧ env = [.dat r, .dat o, .dat t, .own (acc.map trD), .own (dI ms), u, v])
    (its := (List.range rs.length).reverse.map fun (k : Nat) => PyData.int (k : Int)) (j := 0) (env := [.dat r, .dat o, .dat t, .own [], .own (dI ls), .unk, .unk]) ⟨ls, [], .unk, .unk, h1, by
      rw [Nat.sub_zero, List.take_length, ← h1, List.take_length, h1, ← h2, List.take_length]
      rfl, rfl⟩ (fun i d env hd ⟨ms, acc, u, v, hm, hw, he⟩ => by
    subst he
    rw [Nat.zero_add] at hw ⊢
    have hi : i < rs.length := by
      have := (List.getElem?_eq_some_iff.mp hd).1
      simpa using this
    obtain ⟨k, hk⟩ : ∃ k, rs.length - i = k + 1 := ⟨rs.length - i - 1, by omega⟩
    have hk' : rs.length - (i + 1) = k := by omega
    rw [List.getElem?_map, List.getElem?_reverse (by simpa using hi), List.length_range, List.getElem?_range (by omega)] at hd
    obtain rfl : d = .int (k : Int) := by
      have := (Option.some.inj hd).symm
      rw [this, show rs.length - 1 - i = k by omega]
    rw [hk] at hw
    rw [hk']
    have k1 : k < rs.length := by omega
    have k2 : k < ms.length := by omega
    have k3 : k < ts.length := by omega
    rw [take_snoc k1, take_snoc k2, take_snoc k3, List.reverse_append, List.reverse_append, List.reverse_append] at hw
    have al : acc.length ≤ 1000 := by
      have := wayM_len rs ls ts
      have e := congrArg List.length hw
      rw [List.length_append] at e
      omega
    obtain ⟨d1, c1, s1⟩ := seq_cut hr none (some (k : Int))
    rw [cut_to] at s1
    have q1 := sum_seq s1
    have q2 := list_seq s1
    have q3 : bSum.f [.list (dI (ms.take k))] = some (.int (ms.take k).sum) := sum_seq rfl
    have q4 := ixQ_seq ht (k : Int)
    have a1 : (acc.map trD).length ≤ 100000 := by rw [List.length_map]; omega
    have z1 := rep_zeroL k (by omega)
    have p1 := slPut_c (ms := ms) (xs := rs.take k) (k := k) (by omega) (by rw [List.length_take]; omega)
    have p2 := slPut_c (ms := ms) (xs := List.replicate k 0) (k := k) (by omega) (by rw [List.length_replicate]; omega)
    have lt1 : (rs.take k).length = k := by rw [List.length_take]; omega
    have sr : ∀ xs : List Int, xs.reverse.sum = xs.sum := sum_rev
    by_cases ca : ms.getD k 0 < ts.getD k 0
    · have st : lstep (evS b_left_way_1) (.nm 5) (.int (k : Int)) [.dat r, .dat o, .dat t, .own (acc.map trD), .own (dI ms), u, v] = .ret (.nx [.dat r, .dat o, .dat t, .own (acc.map trD ++ [trD (k, true, (rs.take k).sum - (ms.take k).sum + ts.getD k 0 - ms.getD k 0)]), .own (dI (rs.take k ++ ms.drop k)), .dat (.int (k : Int)), .dat (.int ((rs.take k).sum - (ms.take k).sum + ts.getD k 0 - ms.getD k 0))]) := by
        simp only [lstep, b_left_way_1, DP.run, DP.runB, evS, evE, evA, evT, evP, evI, startE, startX, slot_zero, slot_succ, own_zero, own_succ, box_zero, box_succ, bind_n, Dr.bind_assoc, pur_n, put_nm, put_tp, put_tpL, puts_nil, puts_cons, then_n, then_rt, then_rtO, told_rtO, put2_c, put3_c, evF, evB, flat_i, flat_b, flat_s, asLst_l, f_intI, f_intB, f_odd, f_notN, f_fListL, f_fListT, non_i, non_n, f_neS, then_bk, then_ct, told_rt, evT_qY, andB_t, andB_f, orB_t, orB_f, asInt_i, Dr.opt_some, small, within, List.length_cons, List.length_nil, List.map_cons, List.map_nil, List.cons_append, List.nil_append, List.replicate, List.set_cons_zero, List.set_cons_succ, Tt.vs, Ts.vs, Option.bind_some, Nat.reduceAdd, Nat.reduceSub, Nat.reduceLeDiff, Nat.reduceEqDiff, reduceIte, if_true, if_false, asIx_int, f_add, f_sub, f_lt, f_le, f_gt, f_ge, f_addA, f_subA, f_eqI, f_eqS, f_eqB, f_neI, f_isN, f_ixL, f_ixT, f_neg, f_not, f_min, f_max, f_abs, f_tB, f_lenL, f_lenT, f_list, f_listT, f_tup, f_tupT, f_wSeqL, f_wSeqT, f_cutT, f_cutL, wipeX, List.all_cons, List.all_nil, List.contains_cons, List.elem_nil, Bool.and_true, Bool.true_and, beq_self_eq_true, Bool.or_true, Bool.true_or, Bool.false_eq_true, Option.some.injEq, decide_true, decide_false, Bool.not_true, Bool.not_false, Nat.reduceBEq, Bool.or_false, Bool.false_or, List.append_nil, List.singleton_append, true_and, and_true, and_self, q4, atI_k k2, atI_k k3, ca, c1, q1, q2, q3, cut_to, a1, p1]
        rfl
      refine ⟨_, .inl ⟨st, rs.take k ++ ms.drop k, acc ++ [(k, true, (rs.take k).sum - (ms.take k).sum + ts.getD k 0 - ms.getD k 0)], _, _, ?_, ?_, by rw [List.map_append (f := trD)]; rfl⟩⟩
      · rw [List.length_append, List.length_take, List.length_drop]
        omega
      · rw [take_cat lt1, ← hw, List.append_assoc]
        refine congrArg (acc ++ ·) ?_
        show _ = wayR (rs.getD k 0 :: (rs.take k).reverse) (ms.getD k 0 :: (ms.take k).reverse) (ts.getD k 0 :: (ts.take k).reverse)
        rw [wayR, if_pos ca, List.length_reverse, lt1, sr, sr]
        rfl
    · by_cases cb : ts.getD k 0 < ms.getD k 0
      · have st : lstep (evS b_left_way_1) (.nm 5) (.int (k : Int)) [.dat r, .dat o, .dat t, .own (acc.map trD), .own (dI ms), u, v] = .ret (.nx [.dat r, .dat o, .dat t, .own (acc.map trD ++ [trD (k, false, (ms.take k).sum + ms.getD k 0 - ts.getD k 0)]), .own (dI (List.replicate k 0 ++ ms.drop k)), .dat (.int (k : Int)), .dat (.int ((ms.take k).sum + ms.getD k 0 - ts.getD k 0))]) := by
          simp only [lstep, b_left_way_1, DP.run, DP.runB, evS, evE, evA, evT, evP, evI, startE, startX, slot_zero, slot_succ, own_zero, own_succ, box_zero, box_succ, bind_n, Dr.bind_assoc, pur_n, put_nm, put_tp, put_tpL, puts_nil, puts_cons, then_n, then_rt, then_rtO, told_rtO, put2_c, put3_c, evF, evB, flat_i, flat_b, flat_s, asLst_l, f_intI, f_intB, f_odd, f_notN, f_fListL, f_fListT, non_i, non_n, f_neS, then_bk, then_ct, told_rt, evT_qY, andB_t, andB_f, orB_t, orB_f, asInt_i, Dr.opt_some, small, within, List.length_cons, List.length_nil, List.map_cons, List.map_nil, List.cons_append, List.nil_append, List.replicate, List.set_cons_zero, List.set_cons_succ, Tt.vs, Ts.vs, Option.bind_some, Nat.reduceAdd, Nat.reduceSub, Nat.reduceLeDiff, Nat.reduceEqDiff, reduceIte, if_true, if_false, asIx_int, f_add, f_sub, f_lt, f_le, f_gt, f_ge, f_addA, f_subA, f_eqI, f_eqS, f_eqB, f_neI, f_isN, f_ixL, f_ixT, f_neg, f_not, f_min, f_max, f_abs, f_tB, f_lenL, f_lenT, f_list, f_listT, f_tup, f_tupT, f_wSeqL, f_wSeqT, f_cutT, f_cutL, wipeX, List.all_cons, List.all_nil, List.contains_cons, List.elem_nil, Bool.and_true, Bool.true_and, beq_self_eq_true, Bool.or_true, Bool.true_or, Bool.false_eq_true, Option.some.injEq, decide_true, decide_false, Bool.not_true, Bool.not_false, Nat.reduceBEq, Bool.or_false, Bool.false_or, List.append_nil, List.singleton_append, true_and, and_true, and_self, q4, atI_k k2, atI_k k3, ca, cb, q3, cut_to, a1, z1, p2]
          rfl
        refine ⟨_, .inl ⟨st, List.replicate k 0 ++ ms.drop k, acc ++ [(k, false, (ms.take k).sum + ms.getD k 0 - ts.getD k 0)], _, _, ?_, ?_, by rw [List.map_append (f := trD)]; rfl⟩⟩
        · rw [List.length_append, List.length_replicate, List.length_drop]
          omega
        · rw [take_cat (by rw [List.length_replicate]), ← hw, List.append_assoc]
          refine congrArg (acc ++ ·) ?_
          show _ = wayR (rs.getD k 0 :: (rs.take k).reverse) (ms.getD k 0 :: (ms.take k).reverse) (ts.getD k 0 :: (ts.take k).reverse)
          rw [wayR, if_neg ca, if_pos cb, List.length_reverse, lt1, sr, List.reverse_replicate]
          rfl
      · have st : lstep (evS b_left_way_1) (.nm 5) (.int (k : Int)) [.dat r, .dat o, .dat t, .own (acc.map trD), .own (dI ms), u, v] = .ret (.nx [.dat r, .dat o, .dat t, .own (acc.map trD), .own (dI ms), .dat (.int (k : Int)), v]) := by
          simp only [lstep, b_left_way_1, DP.run, DP.runB, evS, evE, evA, evT, evP, evI, startE, startX, slot_zero, slot_succ, own_zero, own_succ, box_zero, box_succ, bind_n, Dr.bind_assoc, pur_n, put_nm, put_tp, put_tpL, puts_nil, puts_cons, then_n, then_rt, then_rtO, told_rtO, put2_c, put3_c, evF, evB, flat_i, flat_b, flat_s, asLst_l, f_intI, f_intB, f_odd, f_notN, f_fListL, f_fListT, non_i, non_n, f_neS, then_bk, then_ct, told_rt, evT_qY, andB_t, andB_f, orB_t, orB_f, asInt_i, Dr.opt_some, small, within, List.length_cons, List.length_nil, List.map_cons, List.map_nil, List.cons_append, List.nil_append, List.replicate, List.set_cons_zero, List.set_cons_succ, Tt.vs, Ts.vs, Option.bind_some, Nat.reduceAdd, Nat.reduceSub, Nat.reduceLeDiff, Nat.reduceEqDiff, reduceIte, if_true, if_false, asIx_int, f_add, f_sub, f_lt, f_le, f_gt, f_ge, f_addA, f_subA, f_eqI, f_eqS, f_eqB, f_neI, f_isN, f_ixL, f_ixT, f_neg, f_not, f_min, f_max, f_abs, f_tB, f_lenL, f_lenT, f_list, f_listT, f_tup, f_tupT, f_wSeqL, f_wSeqT, f_cutT, f_cutL, wipeX, List.all_cons, List.all_nil, List.contains_cons, List.elem_nil, Bool.and_true, Bool.true_and, beq_self_eq_true, Bool.or_true, Bool.true_or, Bool.false_eq_true, Option.some.injEq, decide_true, decide_false, Bool.not_true, Bool.not_false, Nat.reduceBEq, Bool.or_false, Bool.false_or, List.append_nil, List.singleton_append, true_and, and_true, and_self, q4, atI_k k2, atI_k k3, ca, cb]
        refine ⟨_, .inl ⟨st, ms, acc, _, _, hm, ?_, rfl⟩⟩
        rw [← hw]
        refine congrArg (acc ++ ·) ?_
        show _ = wayR (rs.getD k 0 :: (rs.take k).reverse) (ms.getD k 0 :: (ms.take k).reverse) (ts.getD k 0 :: (ts.take k).reverse)
        rw [wayR, if_neg ca, if_neg cb]) (fun env ⟨ms, acc, u, v, hm, hw, he⟩ => by
    subst he
    rw [List.length_map, List.length_reverse, List.length_range, Nat.zero_add, Nat.sub_self, List.take_zero] at hw
    have : acc = wayM rs ls ts := by
      rw [← hw]
      show acc = acc ++ []
      rw [List.append_nil]
    rw [this]
    exact ⟨ms, u, v, rfl⟩)
  have e1 : bLen.f [r] = some (.int (rs.length : Int)) := by rw [len_seq hr, List.length_map]
  simp only [sem_left_way, a_left_way, DP.run, DP.runB, evS, evE, evA, evT, evP, evI, startE, startX, slot_zero, slot_succ, own_zero, own_succ, box_zero, box_succ, bind_n, Dr.bind_assoc, pur_n, put_nm, put_tp, put_tpL, puts_nil, puts_cons, then_n, then_rt, then_rtO, told_rtO, put2_c, put3_c, evF, evB, flat_i, flat_b, flat_s, asLst_l, f_intI, f_intB, f_odd, f_notN, f_fListL, f_fListT, non_i, non_n, f_neS, then_bk, then_ct, told_rt, evT_qY, andB_t, andB_f, orB_t, orB_f, asInt_i, Dr.opt_some, small, within, List.length_cons, List.length_nil, List.map_cons, List.map_nil, List.cons_append, List.nil_append, List.replicate, List.set_cons_zero, List.set_cons_succ, Tt.vs, Ts.vs, Option.bind_some, Nat.reduceAdd, Nat.reduceSub, Nat.reduceLeDiff, Nat.reduceEqDiff, reduceIte, if_true, if_false, asIx_int, f_add, f_sub, f_lt, f_le, f_gt, f_ge, f_addA, f_subA, f_eqI, f_eqS, f_eqB, f_neI, f_isN, f_ixL, f_ixT, f_neg, f_not, f_min, f_max, f_abs, f_tB, f_lenL, f_lenT, f_list, f_listT, f_tup, f_tupT, f_wSeqL, f_wSeqT, f_cutT, f_cutL, wipeX, List.all_cons, List.all_nil, List.contains_cons, List.elem_nil, Bool.and_true, Bool.true_and, beq_self_eq_true, Bool.or_true, Bool.true_or, Bool.false_eq_true, Option.some.injEq, decide_true, decide_false, Bool.not_true, Bool.not_false, Nat.reduceBEq, Bool.or_false, Bool.false_or, List.append_nil, List.singleton_append, true_and, and_true, and_self, asSeq_seq ho, e1, rv, e]
theorem trW_len (w : List Tr) : (trW w).length = w.length := List.length_map ..
theorem fewest_left_eq {r o t : PyData} {rs ls ts : List Int} (hr : seqF r = some (dI rs)) (ho : seqF o = some (dI ls)) (ht : seqF t = some (dI ts)) (h1 : ls.length = rs.length) (h2 : ts.length = rs.length) (hl : rs.length ≤ 1000) : sem_fewest_left [r, o, t] = .ret (.list (wD (wayW rs ls ts))) := by
  have e := left_way_eq hr ho ht h1 h2 hl
  have wl := wayM_len rs ls ts
  have hc := compr_map (step := cstep (evT qY) (evE x_fewest_left_1) (.tp (.cons (.nm 3) (.cons (.nm 4) (.cons (.nm 5) .nil)))) [.dat r, .dat o, .dat t, .unk, .unk, .unk]) (g := trD) (h := fun x => rnD ((true, x.2.1), x.2.2)) (xs := wayM rs ls ts) fun x _ => by
    simp only [cstep, trD, x_fewest_left_1, DP.run, DP.runB, evS, evE, evA, evT, evP, evI, startE, startX, slot_zero, slot_succ, own_zero, own_succ, box_zero, box_succ, bind_n, Dr.bind_assoc, pur_n, put_nm, put_tp, put_tpL, puts_nil, puts_cons, then_n, then_rt, then_rtO, told_rtO, put2_c, put3_c, evF, evB, flat_i, flat_b, flat_s, asLst_l, f_intI, f_intB, f_odd, f_notN, f_fListL, f_fListT, non_i, non_n, f_neS, then_bk, then_ct, told_rt, evT_qY, andB_t, andB_f, orB_t, orB_f, asInt_i, Dr.opt_some, small, within, List.length_cons, List.length_nil, List.map_cons, List.map_nil, List.cons_append, List.nil_append, List.replicate, List.set_cons_zero, List.set_cons_succ, Tt.vs, Ts.vs, Option.bind_some, Nat.reduceAdd, Nat.reduceSub, Nat.reduceLeDiff, Nat.reduceEqDiff, reduceIte, if_true, if_false, asIx_int, f_add, f_sub, f_lt, f_le, f_gt, f_ge, f_addA, f_subA, f_eqI, f_eqS, f_eqB, f_neI, f_isN, f_ixL, f_ixT, f_neg, f_not, f_min, f_max, f_abs, f_tB, f_lenL, f_lenT, f_list, f_listT, f_tup, f_tupT, f_wSeqL, f_wSeqT, f_cutT, f_cutL, wipeX, List.all_cons, List.all_nil, List.contains_cons, List.elem_nil, Bool.and_true, Bool.true_and, beq_self_eq_true, Bool.or_true, Bool.true_or, Bool.false_eq_true, Option.some.injEq, decide_true, decide_false, Bool.not_true, Bool.not_false, Nat.reduceBEq, Bool.or_false, Bool.false_or, List.append_nil, List.singleton_append, true_and, and_true, and_self]
    rfl
  have hl2 : ((wayM rs ls ts).map trD).length ≤ 100000 := by rw [List.length_map]; omega
  simp only [sem_fewest_left, a_fewest_left, DP.run, DP.runB, evS, evE, evA, evT, evP, evI, startE, startX, slot_zero, slot_succ, own_zero, own_succ, box_zero, box_succ, bind_n, Dr.bind_assoc, pur_n, put_nm, put_tp, put_tpL, puts_nil, puts_cons, then_n, then_rt, then_rtO, told_rtO, put2_c, put3_c, evF, evB, flat_i, flat_b, flat_s, asLst_l, f_intI, f_intB, f_odd, f_notN, f_fListL, f_fListT, non_i, non_n, f_neS, then_bk, then_ct, told_rt, evT_qY, andB_t, andB_f, orB_t, orB_f, asInt_i, Dr.opt_some, small, within, List.length_cons, List.length_nil, List.map_cons, List.map_nil, List.cons_append, List.nil_append, List.replicate, List.set_cons_zero, List.set_cons_succ, Tt.vs, Ts.vs, Option.bind_some, Nat.reduceAdd, Nat.reduceSub, Nat.reduceLeDiff, Nat.reduceEqDiff, reduceIte, if_true, if_false, asIx_int, f_add, f_sub, f_lt, f_le, f_gt, f_ge, f_addA, f_subA, f_eqI, f_eqS, f_eqB, f_neI, f_isN, f_ixL, f_ixT, f_neg, f_not, f_min, f_max, f_abs, f_tB, f_lenL, f_lenT, f_list, f_listT, f_tup, f_tupT, f_wSeqL, f_wSeqT, f_cutT, f_cutL, wipeX, List.all_cons, List.all_nil, List.contains_cons, List.elem_nil, Bool.and_true, Bool.true_and, beq_self_eq_true, Bool.or_true, Bool.true_or, Bool.false_eq_true, Option.some.injEq, decide_true, decide_false, Bool.not_true, Bool.not_false, Nat.reduceBEq, Bool.or_false, Bool.false_or, List.append_nil, List.singleton_append, true_and, and_true, and_self, e, hl2, hc]
  unfold wayW trW wD
  rw [List.map_map]
  rfl
theorem revQ_seq {d : PyData} {ns : List Int} (h : seqF d = some (dI ns)) : ∃ d', uRevQ.f d = some d' ∧ seqF d' = some (dI ns.reverse) := by
  rcases seqF_of h with rfl | rfl
  · exact ⟨_, rfl, by show some (dI ns).reverse = _; rw [← List.map_reverse]⟩
  · exact ⟨_, rfl, by show some (dI ns).reverse = _; rw [← List.map_reverse]⟩
def wayWR (rs ls ts : List Int) : Wd' := turW (wayW rs.reverse ls.reverse ts.reverse)
theorem wayW_len (rs ls ts : List Int) : (wayW rs ls ts).length ≤ rs.length := by
  unfold wayW
  rw [trW_len]
  exact wayM_len rs ls ts
theorem wayWR_len (rs ls ts : List Int) : (wayWR rs ls ts).length ≤ rs.length := by
  unfold wayWR
  rw [tur_len]
  have := wayW_len rs.reverse ls.reverse ts.reverse
  rwa [List.length_reverse] at this
theorem fewest_right_eq {r o t : PyData} {rs ls ts : List Int} (hr : seqF r = some (dI rs)) (ho : seqF o = some (dI ls)) (ht : seqF t = some (dI ts)) (h1 : ls.length = rs.length) (h2 : ts.length = rs.length) (hl : rs.length ≤ 1000) : sem_fewest_right [r, o, t] = .ret (.list (wD (wayWR rs ls ts))) := by
  obtain ⟨r', e1, q1⟩ := revQ_seq hr
  obtain ⟨o', e2, q2⟩ := revQ_seq ho
  obtain ⟨t', e3, q3⟩ := revQ_seq ht
  have e := fewest_left_eq q1 q2 q3 (by rw [List.length_reverse, List.length_reverse]; exact h1) (by rw [List.length_reverse, List.length_reverse]; exact h2) (by rw [List.length_reverse]; exact hl)
  have e4 := turned_eq (wd := .list (wD (wayW rs.reverse ls.reverse ts.reverse))) rfl (by
    have := wayW_len rs.reverse ls.reverse ts.reverse
    rw [List.length_reverse] at this
    omega)
  simp only [sem_fewest_right, a_fewest_right, DP.run, DP.runB, evS, evE, evA, evT, evP, evI, startE, startX, slot_zero, slot_succ, own_zero, own_succ, box_zero, box_succ, bind_n, Dr.bind_assoc, pur_n, put_nm, put_tp, put_tpL, puts_nil, puts_cons, then_n, then_rt, then_rtO, told_rtO, put2_c, put3_c, evF, evB, flat_i, flat_b, flat_s, asLst_l, f_intI, f_intB, f_odd, f_notN, f_fListL, f_fListT, non_i, non_n, f_neS, then_bk, then_ct, told_rt, evT_qY, andB_t, andB_f, orB_t, orB_f, asInt_i, Dr.opt_some, small, within, List.length_cons, List.length_nil, List.map_cons, List.map_nil, List.cons_append, List.nil_append, List.replicate, List.set_cons_zero, List.set_cons_succ, Tt.vs, Ts.vs, Option.bind_some, Nat.reduceAdd, Nat.reduceSub, Nat.reduceLeDiff, Nat.reduceEqDiff, reduceIte, if_true, if_false, asIx_int, f_add, f_sub, f_lt, f_le, f_gt, f_ge, f_addA, f_subA, f_eqI, f_eqS, f_eqB, f_neI, f_isN, f_ixL, f_ixT, f_neg, f_not, f_min, f_max, f_abs, f_tB, f_lenL, f_lenT, f_list, f_listT, f_tup, f_tupT, f_wSeqL, f_wSeqT, f_cutT, f_cutL, wipeX, List.all_cons, List.all_nil, List.contains_cons, List.elem_nil, Bool.and_true, Bool.true_and, beq_self_eq_true, Bool.or_true, Bool.true_or, Bool.false_eq_true, Option.some.injEq, decide_true, decide_false, Bool.not_true, Bool.not_false, Nat.reduceBEq, Bool.or_false, Bool.false_or, List.append_nil, List.singleton_append, true_and, and_true, and_self, e1, e2, e3, e, e4]
  rfl
theorem catL_w {w u : Wd'} (h : w.length + u.length ≤ 100000) : oCatL.f (.list (wD w)) (.list (wD u)) = some (.list (wD (w ++ u))) := by
  show (if (wD w).length + (wD u).length ≤ 100000 then some (PyData.list (wD w ++ wD u)) else none) = _
  rw [if_pos (by rw [List.length_map, List.length_map]; exact h), ← List.map_append]
/-- both hands' words at a gap -/
def gapW (rs ls ts : List Int) (g : Nat) : Wd' := wayW (rs.take g) (ls.take g) (ts.take g) ++ wayWR (rs.drop g) (ls.drop g) (ts.drop g)
theorem gapW_len (rs ls ts : List Int) (g : Nat) : (gapW rs ls ts g).length ≤ rs.length := by
  unfold gapW
  rw [List.length_append]
  have h1 := wayW_len (rs.take g) (ls.take g) (ts.take g)
  have h2 := wayWR_len (rs.drop g) (ls.drop g) (ts.drop g)
  rw [List.length_take] at h1
  rw [List.length_drop] at h2
  omega
theorem by_gap_eq {r o t : PyData} {rs ls ts : List Int} (hr : seqF r = some (dI rs)) (ho : seqF o = some (dI ls)) (ht : seqF t = some (dI ts)) (h1 : ls.length = rs.length) (h2 : ts.length = rs.length) (hl : rs.length ≤ 1000) (g : Nat) : sem_by_gap [r, o, t, .int (g : Int)] = .ret (.list (wD (gapW rs ls ts g))) := by
  obtain ⟨r1, e1, q1⟩ := seq_cut hr none (some (g : Int))
  obtain ⟨o1, e2, q2⟩ := seq_cut ho none (some (g : Int))
  obtain ⟨t1, e3, q3⟩ := seq_cut ht none (some (g : Int))
  obtain ⟨r2, f1, p1⟩ := seq_cut hr (some (g : Int)) none
  obtain ⟨o2, f2, p2⟩ := seq_cut ho (some (g : Int)) none
  obtain ⟨t2, f3, p3⟩ := seq_cut ht (some (g : Int)) none
  rw [cut_to] at q1 q2 q3
  rw [cut_from] at p1 p2 p3
  have a := fewest_left_eq q1 q2 q3 (by simp only [List.length_take]; omega) (by simp only [List.length_take]; omega) (by simp only [List.length_take]; omega)
  have b := fewest_right_eq p1 p2 p3 (by simp only [List.length_drop]; omega) (by simp only [List.length_drop]; omega) (by simp only [List.length_drop]; omega)
  have gl := gapW_len rs ls ts g
  unfold gapW at gl
  rw [List.length_append] at gl
  have c := catL_w (w := wayW (rs.take g) (ls.take g) (ts.take g)) (u := wayWR (rs.drop g) (ls.drop g) (ts.drop g)) (by omega)
  simp only [sem_by_gap, a_by_gap, DP.run, DP.runB, evS, evE, evA, evT, evP, evI, startE, startX, slot_zero, slot_succ, own_zero, own_succ, box_zero, box_succ, bind_n, Dr.bind_assoc, pur_n, put_nm, put_tp, put_tpL, puts_nil, puts_cons, then_n, then_rt, then_rtO, told_rtO, put2_c, put3_c, evF, evB, flat_i, flat_b, flat_s, asLst_l, f_intI, f_intB, f_odd, f_notN, f_fListL, f_fListT, non_i, non_n, f_neS, then_bk, then_ct, told_rt, evT_qY, andB_t, andB_f, orB_t, orB_f, asInt_i, Dr.opt_some, small, within, List.length_cons, List.length_nil, List.map_cons, List.map_nil, List.cons_append, List.nil_append, List.replicate, List.set_cons_zero, List.set_cons_succ, Tt.vs, Ts.vs, Option.bind_some, Nat.reduceAdd, Nat.reduceSub, Nat.reduceLeDiff, Nat.reduceEqDiff, reduceIte, if_true, if_false, asIx_int, f_add, f_sub, f_lt, f_le, f_gt, f_ge, f_addA, f_subA, f_eqI, f_eqS, f_eqB, f_neI, f_isN, f_ixL, f_ixT, f_neg, f_not, f_min, f_max, f_abs, f_tB, f_lenL, f_lenT, f_list, f_listT, f_tup, f_tupT, f_wSeqL, f_wSeqT, f_cutT, f_cutL, wipeX, List.all_cons, List.all_nil, List.contains_cons, List.elem_nil, Bool.and_true, Bool.true_and, beq_self_eq_true, Bool.or_true, Bool.true_or, Bool.false_eq_true, Option.some.injEq, decide_true, decide_false, Bool.not_true, Bool.not_false, Nat.reduceBEq, Bool.or_false, Bool.false_or, List.append_nil, List.singleton_append, true_and, and_true, and_self, e1, e2, e3, f1, f2, f3, a, b, c]
  rfl
/-! ## the fewest -/
def gapWs (rs ls ts : List Int) : List Wd' := (List.range (rs.length + 1)).map (gapW rs ls ts)
def gapNs (rs ls ts : List Int) : List Int := (gapWs rs ls ts).map sizeM
theorem ixOf_some {k : Int} : ∀ {ns : List Int}, k ∈ ns → ∃ j, ixOf k ns = some j
  | n :: r, h => by
    unfold ixOf
    by_cases e : n = k
    · exact ⟨0, by rw [if_pos e]⟩
    · rw [if_neg e]
      rcases List.mem_cons.mp h with h | h
      · exact absurd h.symm e
      · obtain ⟨j, hj⟩ := ixOf_some h
        exact ⟨j + 1, by rw [hj]; rfl⟩
def minGap (rs ls ts : List Int) : Nat := (ixOf (minI (gapNs rs ls ts)) (gapNs rs ls ts)).getD 0
theorem gapNs_ne (rs ls ts : List Int) : gapNs rs ls ts ≠ [] := by
  unfold gapNs gapWs
  rw [List.range_succ_eq_map]
  simp
theorem gapNs_len (rs ls ts : List Int) : (gapNs rs ls ts).length = rs.length + 1 := by
  unfold gapNs gapWs
  rw [List.length_map, List.length_map, List.length_range]
theorem minGap_ok (rs ls ts : List Int) : ixOf (minI (gapNs rs ls ts)) (gapNs rs ls ts) = some (minGap rs ls ts) ∧ minGap rs ls ts ≤ rs.length ∧ sizeM (gapW rs ls ts (minGap rs ls ts)) = minI (gapNs rs ls ts) := by
  obtain ⟨j, hj⟩ := ixOf_some (minI_mem (gapNs_ne rs ls ts)).1
  have e : minGap rs ls ts = j := by unfold minGap; rw [hj]; rfl
  rw [e]
  have hg := (ixOf_get hj).1
  have hlt := (List.getElem?_eq_some_iff.mp hg).1
  rw [gapNs_len] at hlt
  refine ⟨hj, by omega, ?_⟩
  unfold gapNs gapWs at hg
  rw [List.getElem?_map, List.getElem?_map, List.getElem?_range hlt] at hg
  exact Option.some.inj hg
theorem mIndex_c {ns : List Int} {k : Int} {j : Nat} (h : ixOf k ns = some j) : mIndex.f (lN ns) [.int k] = some (.int (j : Int)) := by
  show (intsOf (dI ns)).bind _ = _
  rw [intsOf_map]
  show (ixOf k ns).map _ = _
  rw [h]
  rfl
theorem mIndex_td (ds : List PyData) : mIndex.td (.list ds) = true := rfl
theorem minL_c {ns : List Int} (h : ns ≠ []) : bMinL.f [lN ns] = some (.int (minI ns)) := by
  show (intsOf (dI ns)).bind _ = _
  rw [intsOf_map]
  show (if ns.isEmpty = true then none else some _) = _
  cases ns with
  | nil => exact absurd rfl h
  | cons _ _ => rfl
theorem fewest_eq {r o t : PyData} {rs ls ts : List Int} (hr : seqF r = some (dI rs)) (ho : seqF o = some (dI ls)) (ht : seqF t = some (dI ts)) (h1 : ls.length = rs.length) (h2 : ts.length = rs.length) (hl : rs.length ≤ 1000) : sem_fewest [r, o, t] = .ret (.tuple [.int (minGap rs ls ts : Int), .list (wD (gapW rs ls ts (minGap rs ls ts)))]) := by
  have e1 : bLen.f [r] = some (.int (rs.length : Int)) := by rw [len_seq hr, List.length_map]
  have rg := rngF_n (n := (rs.length : Int) + 1) (by omega) (by omega)
  rw [show ((rs.length : Int) + 1).toNat = rs.length + 1 by omega] at rg
  have hc := compr_map (step := cstep (evT qY) (evE x_fewest_1) (.nm 5) [.dat r, .dat o, .dat t, .unk, .unk, .unk, .unk]) (g := fun (i : Nat) => PyData.int (i : Int)) (h := fun g => .list (wD (gapW rs ls ts g))) (xs := List.range (rs.length + 1)) fun x _ => by
    simp only [cstep, x_fewest_1, DP.run, DP.runB, evS, evE, evA, evT, evP, evI, startE, startX, slot_zero, slot_succ, own_zero, own_succ, box_zero, box_succ, bind_n, Dr.bind_assoc, pur_n, put_nm, put_tp, put_tpL, puts_nil, puts_cons, then_n, then_rt, then_rtO, told_rtO, put2_c, put3_c, evF, evB, flat_i, flat_b, flat_s, asLst_l, f_intI, f_intB, f_odd, f_notN, f_fListL, f_fListT, non_i, non_n, f_neS, then_bk, then_ct, told_rt, evT_qY, andB_t, andB_f, orB_t, orB_f, asInt_i, Dr.opt_some, small, within, List.length_cons, List.length_nil, List.map_cons, List.map_nil, List.cons_append, List.nil_append, List.replicate, List.set_cons_zero, List.set_cons_succ, Tt.vs, Ts.vs, Option.bind_some, Nat.reduceAdd, Nat.reduceSub, Nat.reduceLeDiff, Nat.reduceEqDiff, reduceIte, if_true, if_false, asIx_int, f_add, f_sub, f_lt, f_le, f_gt, f_ge, f_addA, f_subA, f_eqI, f_eqS, f_eqB, f_neI, f_isN, f_ixL, f_ixT, f_neg, f_not, f_min, f_max, f_abs, f_tB, f_lenL, f_lenT, f_list, f_listT, f_tup, f_tupT, f_wSeqL, f_wSeqT, f_cutT, f_cutL, wipeX, List.all_cons, List.all_nil, List.contains_cons, List.elem_nil, Bool.and_true, Bool.true_and, beq_self_eq_true, Bool.or_true, Bool.true_or, Bool.false_eq_true, Option.some.injEq, decide_true, decide_false, Bool.not_true, Bool.not_false, Nat.reduceBEq, Bool.or_false, Bool.false_or, List.append_nil, List.singleton_append, true_and, and_true, and_self, by_gap_eq hr ho ht h1 h2 hl x]
  have el : (List.range (rs.length + 1)).map (fun g => PyData.list (wD (gapW rs ls ts g))) = (gapWs rs ls ts).map fun w => .list (wD w) := by
    unfold gapWs
    rw [List.map_map]
    rfl
  rw [el] at hc
  have hc2 := compr_map (step := cstep (evT qY) (evE x_fewest_2) (.nm 6) [.dat r, .dat o, .dat t, .dat (.list ((gapWs rs ls ts).map fun w => .list (wD w))), .unk, .unk, .unk]) (g := fun w : Wd' => PyData.list (wD w)) (h := fun w => .int (sizeM w)) (xs := gapWs rs ls ts) fun w hw => by
    obtain ⟨g, _, rfl⟩ := List.mem_map.mp hw
    simp only [cstep, x_fewest_2, DP.run, DP.runB, evS, evE, evA, evT, evP, evI, startE, startX, slot_zero, slot_succ, own_zero, own_succ, box_zero, box_succ, bind_n, Dr.bind_assoc, pur_n, put_nm, put_tp, put_tpL, puts_nil, puts_cons, then_n, then_rt, then_rtO, told_rtO, put2_c, put3_c, evF, evB, flat_i, flat_b, flat_s, asLst_l, f_intI, f_intB, f_odd, f_notN, f_fListL, f_fListT, non_i, non_n, f_neS, then_bk, then_ct, told_rt, evT_qY, andB_t, andB_f, orB_t, orB_f, asInt_i, Dr.opt_some, small, within, List.length_cons, List.length_nil, List.map_cons, List.map_nil, List.cons_append, List.nil_append, List.replicate, List.set_cons_zero, List.set_cons_succ, Tt.vs, Ts.vs, Option.bind_some, Nat.reduceAdd, Nat.reduceSub, Nat.reduceLeDiff, Nat.reduceEqDiff, reduceIte, if_true, if_false, asIx_int, f_add, f_sub, f_lt, f_le, f_gt, f_ge, f_addA, f_subA, f_eqI, f_eqS, f_eqB, f_neI, f_isN, f_ixL, f_ixT, f_neg, f_not, f_min, f_max, f_abs, f_tB, f_lenL, f_lenT, f_list, f_listT, f_tup, f_tupT, f_wSeqL, f_wSeqT, f_cutT, f_cutL, wipeX, List.all_cons, List.all_nil, List.contains_cons, List.elem_nil, Bool.and_true, Bool.true_and, beq_self_eq_true, Bool.or_true, Bool.true_or, Bool.false_eq_true, Option.some.injEq, decide_true, decide_false, Bool.not_true, Bool.not_false, Nat.reduceBEq, Bool.or_false, Bool.false_or, List.append_nil, List.singleton_append, true_and, and_true, and_self, size_of_eq (wd := .list (wD (gapW rs ls ts g))) rfl (by have := gapW_len rs ls ts g; omega)]
  rw [map_dI] at hc2
  obtain ⟨m1, m2, m3⟩ := minGap_ok rs ls ts
  have l1 : ((List.range (rs.length + 1)).map fun (i : Nat) => PyData.int (i : Int)).length ≤ 100000 := by rw [List.length_map, List.length_range]; omega
  have l2 : ((gapWs rs ls ts).map fun w => PyData.list (wD w)).length ≤ 100000 := by
    unfold gapWs
    rw [List.length_map, List.length_map, List.length_range]
    omega
  have mx := mIndex_c m1
  have ml := minL_c (gapNs_ne rs ls ts)
  have ix : oIxQ.f (.list ((gapWs rs ls ts).map fun w => .list (wD w))) (.int (minGap rs ls ts : Int)) = some (.list (wD (gapW rs ls ts (minGap rs ls ts)))) := by
    show atI _ _ = _
    refine atI_nat ?_
    unfold gapWs
    rw [List.getElem?_map, List.getElem?_map, List.getElem?_range (by omega)]
    rfl
  unfold gapNs at mx ml
  simp only [sem_fewest, a_fewest, DP.run, DP.runB, evS, evE, evA, evT, evP, evI, startE, startX, slot_zero, slot_succ, own_zero, own_succ, box_zero, box_succ, bind_n, Dr.bind_assoc, pur_n, put_nm, put_tp, put_tpL, puts_nil, puts_cons, then_n, then_rt, then_rtO, told_rtO, put2_c, put3_c, evF, evB, flat_i, flat_b, flat_s, asLst_l, f_intI, f_intB, f_odd, f_notN, f_fListL, f_fListT, non_i, non_n, f_neS, then_bk, then_ct, told_rt, evT_qY, andB_t, andB_f, orB_t, orB_f, asInt_i, Dr.opt_some, small, within, List.length_cons, List.length_nil, List.map_cons, List.map_nil, List.cons_append, List.nil_append, List.replicate, List.set_cons_zero, List.set_cons_succ, Tt.vs, Ts.vs, Option.bind_some, Nat.reduceAdd, Nat.reduceSub, Nat.reduceLeDiff, Nat.reduceEqDiff, reduceIte, if_true, if_false, asIx_int, f_add, f_sub, f_lt, f_le, f_gt, f_ge, f_addA, f_subA, f_eqI, f_eqS, f_eqB, f_neI, f_isN, f_ixL, f_ixT, f_neg, f_not, f_min, f_max, f_abs, f_tB, f_lenL, f_lenT, f_list, f_listT, f_tup, f_tupT, f_wSeqL, f_wSeqT, f_cutT, f_cutL, wipeX, List.all_cons, List.all_nil, List.contains_cons, List.elem_nil, Bool.and_true, Bool.true_and, beq_self_eq_true, Bool.or_true, Bool.true_or, Bool.false_eq_true, Option.some.injEq, decide_true, decide_false, Bool.not_true, Bool.not_false, Nat.reduceBEq, Bool.or_false, Bool.false_or, List.append_nil, List.singleton_append, true_and, and_true, and_self, e1, rg, l1, hc, l2, hc2, ml, mIndex_td, mx, ix]
theorem how_few_eq {r o t : PyData} {rs ls ts : List Int} (hr : seqF r = some (dI rs)) (ho : seqF o = some (dI ls)) (ht : seqF t = some (dI ts)) (h1 : ls.length = rs.length) (h2 : ts.length = rs.length) (hl : rs.length ≤ 1000) : sem_how_few [r, o, t] = .ret (.int (minI (gapNs rs ls ts))) := by
  have e := fewest_eq hr ho ht h1 h2 hl
  obtain ⟨m1, m2, m3⟩ := minGap_ok rs ls ts
  have ix : atI [PyData.int (minGap rs ls ts : Int), .list (wD (gapW rs ls ts (minGap rs ls ts)))] 1 = some (.list (wD (gapW rs ls ts (minGap rs ls ts)))) := rfl
  have sz := size_of_eq (wd := .list (wD (gapW rs ls ts (minGap rs ls ts)))) rfl (by have := gapW_len rs ls ts (minGap rs ls ts); omega)
  rw [m3] at sz
  simp only [sem_how_few, a_how_few, DP.run, DP.runB, evS, evE, evA, evT, evP, evI, startE, startX, slot_zero, slot_succ, own_zero, own_succ, box_zero, box_succ, bind_n, Dr.bind_assoc, pur_n, put_nm, put_tp, put_tpL, puts_nil, puts_cons, then_n, then_rt, then_rtO, told_rtO, put2_c, put3_c, evF, evB, flat_i, flat_b, flat_s, asLst_l, f_intI, f_intB, f_odd, f_notN, f_fListL, f_fListT, non_i, non_n, f_neS, then_bk, then_ct, told_rt, evT_qY, andB_t, andB_f, orB_t, orB_f, asInt_i, Dr.opt_some, small, within, List.length_cons, List.length_nil, List.map_cons, List.map_nil, List.cons_append, List.nil_append, List.replicate, List.set_cons_zero, List.set_cons_succ, Tt.vs, Ts.vs, Option.bind_some, Nat.reduceAdd, Nat.reduceSub, Nat.reduceLeDiff, Nat.reduceEqDiff, reduceIte, if_true, if_false, asIx_int, f_add, f_sub, f_lt, f_le, f_gt, f_ge, f_addA, f_subA, f_eqI, f_eqS, f_eqB, f_neI, f_isN, f_ixL, f_ixT, f_neg, f_not, f_min, f_max, f_abs, f_tB, f_lenL, f_lenT, f_list, f_listT, f_tup, f_tupT, f_wSeqL, f_wSeqT, f_cutT, f_cutL, wipeX, List.all_cons, List.all_nil, List.contains_cons, List.elem_nil, Bool.and_true, Bool.true_and, beq_self_eq_true, Bool.or_true, Bool.true_or, Bool.false_eq_true, Option.some.injEq, decide_true, decide_false, Bool.not_true, Bool.not_false, Nat.reduceBEq, Bool.or_false, Bool.false_or, List.append_nil, List.singleton_append, true_and, and_true, and_self, e, ix, sz]
end DP

/-! where the ways lead -/
namespace DP
open PySem PySem.Spec PyProof.Rows L2 ZX DL RT
theorem runL_app {s : Bool} : ∀ (A a B b : List Int) (n : Int), a.length = A.length → runL s (A ++ B) (a ++ b) n = ((runL s A a n).1 ++ (runL s B b (runL s A a n).2).1, (runL s B b (runL s A a n).2).2)
  | [], [], B, b, n, _ => rfl
  | r :: A, l :: a, B, b, n, h => by
    have ih := runL_app (s := s) A a B b (n - min n (cap s r l)) (by simpa using h)
    show (put1 s l (min n (cap s r l)) :: (runL s (A ++ B) (a ++ b) (n - min n (cap s r l))).1, (runL s (A ++ B) (a ++ b) (n - min n (cap s r l))).2) = _
    rw [ih]
    rfl
  | [], _ :: _, _, _, _, h => by cases h
  | _ :: _, [], _, _, _, h => by cases h
def fullOf (s : Bool) (rs : List Int) : List Int := if s = true then rs else List.replicate rs.length 0
def capT (s : Bool) (rs ls : List Int) : Int := if s = true then rs.sum - ls.sum else ls.sum
theorem runL_full {s : Bool} : ∀ {rs ls : List Int} {n : Int}, Fit rs ls → capT s rs ls ≤ n → runL s rs ls n = (fullOf s rs, n - capT s rs ls)
  | _, _, n, .nil, h => by
    unfold capT fullOf
    cases s <;> simp [runL]
  | r :: rs, l :: ls, n, .cons a b t, h => by
    have c0 := cap_nn (s := s) a b
    have e : capT s (r :: rs) (l :: ls) = cap s r l + capT s rs ls := by
      unfold capT cap
      simp only [List.sum_cons]
      split <;> omega
    have nn : 0 ≤ capT s rs ls := by
      unfold capT
      have h1 := fit_sum t
      have h2 := sum_nn (fit_nn t).1
      split <;> omega
    rw [e] at h ⊢
    show (put1 s l (min n (cap s r l)) :: (runL s rs ls (n - min n (cap s r l))).1, (runL s rs ls (n - min n (cap s r l))).2) = _
    rw [show min n (cap s r l) = cap s r l by omega, runL_full t (by omega)]
    have e2 : put1 s l (cap s r l) = if s = true then r else 0 := by
      unfold put1 cap
      cases s <;> simp <;> omega
    rw [e2]
    refine Prod.ext ?_ ?_
    · unfold fullOf
      cases s <;> rfl
    · show n - cap s r l - capT s rs ls = n - (cap s r l + capT s rs ls)
      omega
/-- a word of the left hand of which nothing is heard -/
def goL (rs : List Int) : List Int → List Tr → Option (List Int)
  | ls, [] => some ls
  | ls, x :: w => if (runL x.2.1 rs ls x.2.2).2 = 0 then goL rs (runL x.2.1 rs ls x.2.2).1 w else none
theorem runL_len {s : Bool} : ∀ (rs ls : List Int) (n : Int), ls.length = rs.length → (runL s rs ls n).1.length = rs.length
  | [], [], _, _ => rfl
  | r :: rs, l :: ls, n, h => by
    show (put1 s l (min n (cap s r l)) :: (runL s rs ls (n - min n (cap s r l))).1).length = _
    rw [List.length_cons, runL_len rs ls _ (by simpa using h)]
    rfl
  | [], _ :: _, _, h => by cases h
  | _ :: _, [], _, h => by cases h
theorem goL_app {A B b : List Int} (hB : Fit B b) : ∀ {w : List Tr} {a t : List Int}, a.length = A.length → goL A a w = some t → goL (A ++ B) (a ++ b) w = some (t ++ b)
  | [], a, t, _, h => by
    cases h
    rfl
  | x :: w, a, t, hl, h => by
    have h' : (if (runL x.2.1 A a x.2.2).2 = 0 then goL A (runL x.2.1 A a x.2.2).1 w else none) = some t := h
    split at h'
    · rename_i hz
      have e := runL_app (s := x.2.1) A a B b x.2.2 hl
      rw [hz, runL_zero hB] at e
      show (if (runL x.2.1 (A ++ B) (a ++ b) x.2.2).2 = 0 then goL (A ++ B) (runL x.2.1 (A ++ B) (a ++ b) x.2.2).1 w else none) = _
      rw [e, if_pos rfl]
      exact goL_app hB (runL_len A a _ hl) h'
    · cases h'
theorem fit_one {r l : Int} (a : 0 ≤ l) (b : l ≤ r) : Fit [r] [l] := .cons a b .nil
theorem fit_of_rev {rs ls : List Int} (h : Fit rs.reverse ls.reverse) : Fit rs ls := by
  have := fit_rev h
  rwa [List.reverse_reverse, List.reverse_reverse] at this
theorem way_go : ∀ {rs ls ts : List Int}, Fit rs ls → Fit rs ts → goL rs.reverse ls.reverse (wayR rs ls ts) = some ts.reverse
  | _, _, _, .nil, .nil => rfl
  | r :: rs, l :: ls, t :: ts, .cons a b hl, .cons c d ht => by
    have l1 : ls.reverse.length = rs.reverse.length := by rw [List.length_reverse, List.length_reverse, hl.len]
    rw [List.reverse_cons, List.reverse_cons, List.reverse_cons]
    unfold wayR
    by_cases ca : l < t
    · rw [if_pos ca]
      have e1 := runL_app (s := true) rs.reverse ls.reverse [r] [l] (rs.sum - ls.sum + t - l) l1
      have e2 := runL_full (s := true) (n := rs.sum - ls.sum + t - l) (fit_rev hl) (by unfold capT; simp only [if_true, sum_rev]; omega)
      have e3 : rs.sum - ls.sum + t - l - capT true rs.reverse ls.reverse = t - l := by
        unfold capT
        simp only [if_true, sum_rev]
        omega
      rw [e3] at e2
      rw [e2] at e1
      have e4 : runL true [r] [l] (t - l) = ([t], 0) := by
        show ([put1 true l (min (t - l) (cap true r l))], t - l - min (t - l) (cap true r l)) = _
        have : min (t - l) (cap true r l) = t - l := by
          unfold cap
          simp only [if_true]
          omega
        rw [this]
        unfold put1
        simp only [if_true]
        rw [show l + (t - l) = t by omega, Int.sub_self]
      rw [e4] at e1
      show (if (runL true (rs.reverse ++ [r]) (ls.reverse ++ [l]) (rs.sum - ls.sum + t - l)).2 = 0 then goL (rs.reverse ++ [r]) (runL true (rs.reverse ++ [r]) (ls.reverse ++ [l]) (rs.sum - ls.sum + t - l)).1 (wayR rs rs ts) else none) = _
      rw [e1, if_pos rfl]
      have e5 : fullOf true rs.reverse = rs.reverse := rfl
      rw [e5]
      exact goL_app (fit_one c d) rfl (way_go (fit_full (fit_nn hl).2) ht)
    · rw [if_neg ca]
      by_cases cb : t < l
      · rw [if_pos cb]
        have e1 := runL_app (s := false) rs.reverse ls.reverse [r] [l] (ls.sum + l - t) l1
        have e2 := runL_full (s := false) (n := ls.sum + l - t) (fit_rev hl) (by unfold capT; simp only [Bool.false_eq_true, if_false, sum_rev]; omega)
        have e3 : ls.sum + l - t - capT false rs.reverse ls.reverse = l - t := by
          unfold capT
          simp only [Bool.false_eq_true, if_false, sum_rev]
          omega
        rw [e3] at e2
        rw [e2] at e1
        have e4 : runL false [r] [l] (l - t) = ([t], 0) := by
          show ([put1 false l (min (l - t) (cap false r l))], l - t - min (l - t) (cap false r l)) = _
          have : min (l - t) (cap false r l) = l - t := by
            unfold cap
            simp only [Bool.false_eq_true, if_false]
            omega
          rw [this]
          unfold put1
          simp only [Bool.false_eq_true, if_false]
          rw [show l - (l - t) = t by omega, Int.sub_self]
        rw [e4] at e1
        show (if (runL false (rs.reverse ++ [r]) (ls.reverse ++ [l]) (ls.sum + l - t)).2 = 0 then goL (rs.reverse ++ [r]) (runL false (rs.reverse ++ [r]) (ls.reverse ++ [l]) (ls.sum + l - t)).1 (wayR rs (List.replicate rs.length 0) ts) else none) = _
        rw [e1, if_pos rfl]
        have e5 : fullOf false rs.reverse = (List.replicate rs.length 0).reverse := by
          unfold fullOf
          simp only [Bool.false_eq_true, if_false, List.length_reverse, List.reverse_replicate]
        rw [e5]
        exact goL_app (fit_one c d) (by simp) (way_go (fit_zero (fit_nn hl).2) ht)
      · rw [if_neg cb]
        obtain rfl : l = t := by omega
        exact goL_app (fit_one a b) l1 (way_go hl ht)
theorem way_pos : ∀ {rs ls ts : List Int}, Fit rs ls → Fit rs ts → ∀ x ∈ wayR rs ls ts, 1 ≤ x.2.2
  | _, _, _, .nil, .nil => fun x h => (by cases h)
  | r :: rs, l :: ls, t :: ts, .cons a b hl, .cons c d ht => fun x h => by
    have s1 := fit_sum hl
    have s2 := sum_nn (fit_nn hl).1
    unfold wayR at h
    by_cases ca : l < t
    · rw [if_pos ca] at h
      rcases List.mem_cons.mp h with rfl | h
      · show 1 ≤ rs.sum - ls.sum + t - l
        omega
      · exact way_pos (fit_full (fit_nn hl).2) ht x h
    · rw [if_neg ca] at h
      by_cases cb : t < l
      · rw [if_pos cb] at h
        rcases List.mem_cons.mp h with rfl | h
        · show 1 ≤ ls.sum + l - t
          omega
        · exact way_pos (fit_zero (fit_nn hl).2) ht x h
      · rw [if_neg cb] at h
        exact way_pos hl ht x h
theorem wayM_go {rs ls ts : List Int} (h1 : Fit rs ls) (h2 : Fit rs ts) : goL rs ls (wayM rs ls ts) = some ts := by
  have := way_go (fit_rev h1) (fit_rev h2)
  rwa [List.reverse_reverse, List.reverse_reverse, List.reverse_reverse] at this
theorem wayW_pos {rs ls ts : List Int} (h1 : Fit rs ls) (h2 : Fit rs ts) : ∀ x ∈ wayW rs ls ts, 1 ≤ x.2 := fun x hx => by
  obtain ⟨y, hy, rfl⟩ := List.mem_map.mp hx
  exact way_pos (fit_rev h1) (fit_rev h2) y hy
theorem wayWR_pos {rs ls ts : List Int} (h1 : Fit rs ls) (h2 : Fit rs ts) : ∀ x ∈ wayWR rs ls ts, 1 ≤ x.2 := fun x hx => by
  obtain ⟨y, hy, rfl⟩ := List.mem_map.mp hx
  exact wayW_pos (fit_rev h1) (fit_rev h2) y hy
theorem quiet_set (b : Br) : ([0, 0, 0, 0] : List Int).set (hix b) (([0, 0, 0, 0] : List Int).getD (hix b) 0 + 0) = [0, 0, 0, 0] := by
  rcases b with ⟨_ | _, _ | _⟩ <;> rfl
theorem go_word {rs : List Int} : ∀ {w : List Tr} {ls ts : List Int}, goL rs ls w = some ts → wordM rs ls (trW w) = (ts, [0, 0, 0, 0])
  | [], ls, ts, h => by
    cases h
    rfl
  | x :: w, ls, ts, h => by
    have h' : (if (runL x.2.1 rs ls x.2.2).2 = 0 then goL rs (runL x.2.1 rs ls x.2.2).1 w else none) = some ts := h
    split at h'
    · rename_i hz
      show (trW w).foldl (wstep rs) (wstep rs (ls, [0, 0, 0, 0]) ((true, x.2.1), x.2.2)) = _
      have e : wstep rs (ls, [0, 0, 0, 0]) ((true, x.2.1), x.2.2) = ((runL x.2.1 rs ls x.2.2).1, [0, 0, 0, 0]) := by
        unfold wstep
        have er : runM (true, x.2.1) rs ls x.2.2 = runL x.2.1 rs ls x.2.2 := rfl
        simp only [er, hz, quiet_set]
      rw [e]
      exact go_word h'
    · cases h'
theorem wayW_leads {rs ls ts : List Int} (h1 : Fit rs ls) (h2 : Fit rs ts) : wordM rs ls (wayW rs ls ts) = (ts, [0, 0, 0, 0]) := go_word (wayM_go h1 h2)
theorem wordM_app {rs ls ms : List Int} {w u : Wd'} (h : wordM rs ls w = (ms, [0, 0, 0, 0])) : wordM rs ls (w ++ u) = wordM rs ms u := by
  unfold wordM at h ⊢
  rw [List.foldl_append, h]
/-- the right hand's way on the bellows behind a gap -/
theorem wayWR_behind {A a B b t : List Int} (hA : Fit A a) (hB : Fit B b) (hT : Fit B t) : wordM (A ++ B) (a ++ b) (wayWR B b t) = (a ++ t, [0, 0, 0, 0]) := by
  have g := goL_app (fit_rev hA) (a := b.reverse) (A := B.reverse) (by rw [List.length_reverse, List.length_reverse, hB.len]) (wayM_go (fit_rev hB) (fit_rev hT))
  have e := go_word g
  have fa : Fit (A ++ B) (a ++ b) := by
    have : ∀ {A a : List Int}, Fit A a → Fit (A ++ B) (a ++ b) := fun {A a} h => by
      induction h with
      | nil => exact hB
      | cons p q _ ih => exact .cons p q ih
    exact this hA
  have ok : WOk (trW (wayM B.reverse b.reverse t.reverse)) := fun x hx => by
    have := wayW_pos (fit_rev hB) (fit_rev hT) x hx
    omega
  have fr := fit_rev fa
  rw [List.reverse_append, List.reverse_append] at fr
  have q := wordM_tur (rs := B.reverse ++ A.reverse) (ls := b.reverse ++ a.reverse) fr ok
  rw [e] at q
  simp only [List.reverse_append, List.reverse_reverse] at q
  exact q
theorem fit_append {A a B b : List Int} (hA : Fit A a) (hB : Fit B b) : Fit (A ++ B) (a ++ b) := by
  induction hA with
  | nil => exact hB
  | cons p q _ ih => exact .cons p q ih
theorem wayWR_leads {rs ls ts : List Int} (h1 : Fit rs ls) (h2 : Fit rs ts) : wordM rs ls (wayWR rs ls ts) = (ts, [0, 0, 0, 0]) := wayWR_behind .nil h1 h2
theorem fit_tk : ∀ {rs ls : List Int} (g : Nat), Fit rs ls → Fit (rs.take g) (ls.take g)
  | _, _, g, .nil => by simp only [List.take_nil]; exact .nil
  | _, _, 0, .cons _ _ _ => .nil
  | r :: rs, l :: ls, g + 1, .cons a b t => .cons a b (fit_tk g t)
theorem fit_dr : ∀ {rs ls : List Int} (g : Nat), Fit rs ls → Fit (rs.drop g) (ls.drop g)
  | _, _, g, .nil => by simp only [List.drop_nil]; exact .nil
  | _, _, 0, .cons a b t => .cons a b t
  | r :: rs, l :: ls, g + 1, .cons a b t => fit_dr g t
theorem gapW_leads {rs ls ts : List Int} (h1 : Fit rs ls) (h2 : Fit rs ts) (g : Nat) : wordM rs ls (gapW rs ls ts g) = (ts, [0, 0, 0, 0]) := by
  have e1 := go_word (goL_app (fit_dr g h1) (a := ls.take g) (A := rs.take g) (fit_tk g h1).len (wayM_go (fit_tk g h1) (fit_tk g h2)))
  rw [List.take_append_drop, List.take_append_drop] at e1
  have e2 := wayWR_behind (fit_tk g h2) (fit_dr g h1) (fit_dr g h2)
  rw [List.take_append_drop, List.take_append_drop] at e2
  exact (wordM_app (w := wayW (rs.take g) (ls.take g) (ts.take g)) e1).trans e2
theorem gapW_pos {rs ls ts : List Int} (h1 : Fit rs ls) (h2 : Fit rs ts) (g : Nat) : ∀ x ∈ gapW rs ls ts g, 1 ≤ x.2 := fun x hx => by
  rcases List.mem_append.mp hx with hx | hx
  · exact wayW_pos (fit_tk g h1) (fit_tk g h2) x hx
  · exact wayWR_pos (fit_dr g h1) (fit_dr g h2) x hx
theorem gapW_zero (rs ls ts : List Int) : gapW rs ls ts 0 = wayWR rs ls ts := rfl
theorem gapW_all {rs ls ts : List Int} (h1 : ls.length = rs.length) (h2 : ts.length = rs.length) : gapW rs ls ts rs.length = wayW rs ls ts := by
  unfold gapW
  rw [List.take_length, List.drop_length, List.take_of_length_le (by omega), List.take_of_length_le (by omega), List.drop_of_length_le (by omega), List.drop_of_length_le (by omega)]
  exact List.append_nil _
theorem all_true {α : Type} (xs : List α) : bAll.f [.list (xs.map fun _ => PyData.bool true)] = some (.bool true) := by
  have e : xs.map (fun _ => PyData.bool true) = (xs.map fun _ => true).map PyData.bool := by
    rw [List.map_map]
    rfl
  show (boolsOf (xs.map fun _ => PyData.bool true)).map _ = _
  rw [e, boolsOf_map]
  show some (PyData.bool ((xs.map fun _ => true).all id)) = _
  congr 2
  simp
end DP

/-! runs put together, words one behind the other, plain words -/
namespace DP
open PySem PySem.Spec PyProof.Rows L2 ZX DL RT
theorem cap_put {s : Bool} {r l m : Int} (m0 : 0 ≤ m) (m1 : m ≤ cap s r l) : cap s r (put1 s l m) = cap s r l - m := by
  unfold cap put1
  cases s <;> simp <;> omega
theorem put_put (s : Bool) (l m n : Int) : put1 s (put1 s l m) n = put1 s l (m + n) := by
  unfold put1
  split <;> omega
theorem runL_add {s : Bool} : ∀ {rs ls : List Int} {m n : Int}, Fit rs ls → 0 ≤ m → 0 ≤ n → runL s rs (runL s rs ls m).1 n = ((runL s rs ls (m + n)).1, (runL s rs ls (m + n)).2 - (runL s rs ls m).2)
  | _, _, m, n, .nil, _, _ => by
    show (([] : List Int), n) = ([], m + n - m)
    rw [show m + n - m = n by omega]
  | r :: rs, l :: ls, m, n, .cons a b t, hm, hn => by
    have c0 := cap_nn (s := s) a b
    have e1 : runL s (r :: rs) (l :: ls) m = (put1 s l (min m (cap s r l)) :: (runL s rs ls (m - min m (cap s r l))).1, (runL s rs ls (m - min m (cap s r l))).2) := rfl
    have e2 : runL s (r :: rs) (l :: ls) (m + n) = (put1 s l (min (m + n) (cap s r l)) :: (runL s rs ls (m + n - min (m + n) (cap s r l))).1, (runL s rs ls (m + n - min (m + n) (cap s r l))).2) := rfl
    have c1 := cap_put (s := s) (r := r) (l := l) (m := min m (cap s r l)) (by omega) (by omega)
    have ih := runL_add (s := s) (m := m - min m (cap s r l)) (n := n - min n (cap s r l - min m (cap s r l))) t (by omega) (by omega)
    rw [e1, e2]
    show (put1 s (put1 s l (min m (cap s r l))) (min n (cap s r (put1 s l (min m (cap s r l))))) :: (runL s rs (runL s rs ls (m - min m (cap s r l))).1 (n - min n (cap s r (put1 s l (min m (cap s r l)))))).1, (runL s rs (runL s rs ls (m - min m (cap s r l))).1 (n - min n (cap s r (put1 s l (min m (cap s r l)))))).2) = _
    rw [c1, ih, put_put, show min m (cap s r l) + min n (cap s r l - min m (cap s r l)) = min (m + n) (cap s r l) by omega, show m - min m (cap s r l) + (n - min n (cap s r l - min m (cap s r l))) = m + n - min (m + n) (cap s r l) by omega]
theorem runR_add {s : Bool} {rs ls : List Int} {m n : Int} (h : Fit rs ls) (hm : 0 ≤ m) (hn : 0 ≤ n) : runR s rs (runR s rs ls m).1 n = ((runR s rs ls (m + n)).1, (runR s rs ls (m + n)).2 - (runR s rs ls m).2) := by
  have hl := h.len
  have key : ∀ (ks : List Int) (k : Int), ks.length = rs.length → runR s rs ks k = ((runL s rs.reverse ks.reverse k).1.reverse, (runL s rs.reverse ks.reverse k).2) := fun ks k hk => by
    rw [runL_rev rs ks k hk, List.reverse_reverse]
  have fr := fit_rev h
  have l1 : (runL s rs.reverse ls.reverse m).1.reverse.length = rs.length := by
    rw [List.length_reverse, runL_len _ _ _ (by rw [List.length_reverse, List.length_reverse]; exact hl), List.length_reverse]
  rw [key ls m hl, key _ n l1, key ls (m + n) hl, List.reverse_reverse, runL_add fr hm hn]
theorem runM_add {b : Br} {rs ls : List Int} {m n : Int} (h : Fit rs ls) (hm : 0 ≤ m) (hn : 0 ≤ n) : runM b rs (runM b rs ls m).1 n = ((runM b rs ls (m + n)).1, (runM b rs ls (m + n)).2 - (runM b rs ls m).2) := by
  unfold runM
  cases b.1 with
  | true => exact runL_add h hm hn
  | false => exact runR_add h hm hn
/-! ## counts -/
theorem set_add {cs ds : List Int} (hc : cs.length = 4) (hd : ds.length = 4) (b : Br) (n : Int) : addV cs (ds.set (hix b) (ds.getD (hix b) 0 + n)) = (addV cs ds).set (hix b) ((addV cs ds).getD (hix b) 0 + n) := by
  obtain ⟨a0, a1, a2, a3, rfl⟩ := four hc
  obtain ⟨b0, b1, b2, b3, rfl⟩ := four hd
  rcases b with ⟨_ | _, _ | _⟩ <;> simp [addV, hix, Int.add_assoc]
theorem addV_len {cs ds : List Int} (hc : cs.length = 4) (hd : ds.length = 4) : (addV cs ds).length = 4 := by
  obtain ⟨a0, a1, a2, a3, rfl⟩ := four hc
  obtain ⟨b0, b1, b2, b3, rfl⟩ := four hd
  rfl
theorem fold_add {rs : List Int} : ∀ (w : Wd') (ls cs ds : List Int), cs.length = 4 → ds.length = 4 → w.foldl (wstep rs) (ls, addV cs ds) = ((w.foldl (wstep rs) (ls, ds)).1, addV cs (w.foldl (wstep rs) (ls, ds)).2)
  | [], _, _, _, _, _ => rfl
  | x :: w, ls, cs, ds, hc, hd => by
    rw [List.foldl_cons, List.foldl_cons]
    have e : wstep rs (ls, addV cs ds) x = ((wstep rs (ls, ds) x).1, addV cs (wstep rs (ls, ds) x).2) := by
      unfold wstep
      rw [set_add hc hd]
    rw [e]
    exact fold_add w _ cs _ hc (by unfold wstep; rw [List.length_set]; exact hd)
theorem addV_zero {cs : List Int} (hc : cs.length = 4) : addV cs [0, 0, 0, 0] = cs := by
  obtain ⟨a0, a1, a2, a3, rfl⟩ := four hc
  simp [addV]
theorem wordM_cat {rs ls : List Int} {w u : Wd'} (h : Fit rs ls) (ho : WOk w) : wordM rs ls (w ++ u) = ((wordM rs (wordM rs ls w).1 u).1, addV (wordM rs ls w).2 (wordM rs (wordM rs ls w).1 u).2) := by
  have h4 := (wordM_ok h ho).2
  have := fold_add (rs := rs) u (wordM rs ls w).1 (wordM rs ls w).2 [0, 0, 0, 0] h4 rfl
  rw [addV_zero h4] at this
  unfold wordM at this ⊢
  rw [List.foldl_append]
  exact this
theorem okApp {w u : Wd'} (h1 : WOk w) (h2 : WOk u) : WOk (w ++ u) := fun x hx => (List.mem_append.mp hx).elim (h1 x) (h2 x)
theorem cr_state {rs : List Int} {g : Nat} : ∀ (w : Wd') (ls : List Int) (p q : Int) (cs : List Int), (w.foldl (crStep rs g) (ls, p, q)).1 = (w.foldl (wstep rs) (ls, cs)).1
  | [], _, _, _, _ => rfl
  | x :: w, ls, p, q, cs => by
    rw [List.foldl_cons, List.foldl_cons]
    have e : crStep rs g (ls, p, q) x = ((runM x.1 rs ls x.2).1, (crStep rs g (ls, p, q) x).2.1, (crStep rs g (ls, p, q) x).2.2) := rfl
    rw [e]
    exact cr_state w _ _ _ _
theorem cr_add {rs : List Int} {g : Nat} : ∀ (w : Wd') (ls : List Int) (p q : Int), (w.foldl (crStep rs g) (ls, p, q)).2 = (p + (w.foldl (crStep rs g) (ls, 0, 0)).2.1, q + (w.foldl (crStep rs g) (ls, 0, 0)).2.2)
  | [], _, p, q => by simp
  | x :: w, ls, p, q => by
    rw [List.foldl_cons, List.foldl_cons]
    by_cases hb : (x.1.1 == x.1.2) = true
    · have e : ∀ p q : Int, crStep rs g (ls, p, q) x = ((runM x.1 rs ls x.2).1, p + overM x.1 ls (runM x.1 rs ls x.2).1 x.2 g, q) := fun p q => by
        unfold crStep
        simp only [hb, if_true]
      rw [e p q, e 0 0, cr_add w _ (p + _) q, cr_add w _ (0 + _) 0]
      refine Prod.ext ?_ ?_ <;> simp <;> omega
    · have e : ∀ p q : Int, crStep rs g (ls, p, q) x = ((runM x.1 rs ls x.2).1, p, q + overM x.1 ls (runM x.1 rs ls x.2).1 x.2 g) := fun p q => by
        unfold crStep
        simp only [hb, if_false, Bool.false_eq_true]
      rw [e p q, e 0 0, cr_add w _ p (q + _), cr_add w _ 0 (0 + _)]
      refine Prod.ext ?_ ?_ <;> simp <;> omega
theorem crossM_cat (rs ls : List Int) (w u : Wd') (g : Nat) : crossM rs ls (w ++ u) g = ((crossM rs ls w g).1 + (crossM rs (wordM rs ls w).1 u g).1, (crossM rs ls w g).2 + (crossM rs (wordM rs ls w).1 u g).2) := by
  have e := cr_state (rs := rs) (g := g) w ls 0 0 [0, 0, 0, 0]
  show ((w ++ u).foldl (crStep rs g) (ls, 0, 0)).2 = _
  rw [List.foldl_append]
  have e2 : w.foldl (crStep rs g) (ls, 0, 0) = ((wordM rs ls w).1, (crossM rs ls w g).1, (crossM rs ls w g).2) := Prod.ext e rfl
  rw [e2, cr_add]
  rfl
theorem came_cat {rs ls : List Int} {w u : Wd'} (h : Fit rs ls) (ho : WOk w) (hu : WOk u) : came rs ls (w ++ u) = came rs ls w + came rs (wordM rs ls w).1 u := by
  obtain ⟨f1, f2⟩ := wordM_ok h ho
  obtain ⟨a0, a1, a2, a3, ea⟩ := four f2
  obtain ⟨b0, b1, b2, b3, eb⟩ := four (wordM_ok f1 hu).2
  unfold came
  rw [wordM_cat h ho, ea, eb]
  simp only [netB_app, addV]
  simp
  omega
theorem winds_cat {rs ls : List Int} {w u : Wd'} (h : Fit rs ls) (ho : WOk w) (hu : WOk u) : windsM rs ls (w ++ u) = addV (windsM rs ls w) (windsM rs (wordM rs ls w).1 u) := by
  obtain ⟨f1, _⟩ := wordM_ok h ho
  obtain ⟨f3, _⟩ := wordM_ok f1 hu
  have e : (wordM rs ls (w ++ u)).1 = (wordM rs (wordM rs ls w).1 u).1 := by rw [wordM_cat h ho]
  rw [windsM_wf h (okApp ho hu), windsM_wf h ho, windsM_wf f1 hu, e, came_cat h ho hu, wf_add _ _ _ _ _ _ _ _ (by rw [h.len, f1.len]) (by rw [f1.len, f3.len])]
theorem turW_cat (w u : Wd') : turW (w ++ u) = turW w ++ turW u := List.map_append ..
theorem conW_cat (w u : Wd') : conW (w ++ u) = conW w ++ conW u := List.map_append ..
theorem sizeM_cat (w u : Wd') : sizeM (w ++ u) = sizeM w + sizeM u := by
  unfold sizeM
  rw [List.map_append, List.sum_append]
/-! ## plain words -/
/-- two words that do the same, whatever -/
structure Alike (w u : Wd') : Prop where
  wd : ∀ {rs ls : List Int}, Fit rs ls → wordM rs ls w = wordM rs ls u
  nt : ∀ b, netB b w = netB b u
  sz : sizeM w = sizeM u
theorem fold_fit {rs ls : List Int} {w : Wd'} (h : Fit rs ls) (ho : WOk w) : Fit rs (wordM rs ls w).1 := (wordM_ok h ho).1
theorem two_one {rs ls : List Int} {b : Br} {m n : Int} (h : Fit rs ls) (hm : 0 ≤ m) (hn : 0 ≤ n) : wordM rs ls [(b, m), (b, n)] = wordM rs ls [(b, m + n)] := by
  show wstep rs (wstep rs (ls, [0, 0, 0, 0]) (b, m)) (b, n) = wstep rs (ls, [0, 0, 0, 0]) (b, m + n)
  unfold wstep
  simp only [runM_add h hm hn]
  refine Prod.ext rfl ?_
  rcases b with ⟨_ | _, _ | _⟩ <;> simp [hix] <;> omega
theorem plStep_alike {acc : Wd'} {x : Br × Int} (ha : WOk acc) (hx : 0 ≤ x.2) : Alike (plStep acc x) (acc ++ [x]) := by
  unfold plStep
  cases hg : acc.getLast? with
  | none =>
    obtain rfl : acc = [] := List.getLast?_eq_none_iff.mp hg
    exact ⟨fun _ => rfl, fun _ => rfl, rfl⟩
  | some y =>
    by_cases hy : y.1 = x.1
    · simp only [hy, if_true]
      obtain ⟨l, rfl⟩ : ∃ l, acc = l ++ [y] := by
        obtain ⟨l, e⟩ := List.getLast?_eq_some_iff.mp hg
        exact ⟨l, e⟩
      rw [List.dropLast_concat]
      obtain ⟨b, m⟩ := y
      obtain ⟨c, n⟩ := x
      obtain rfl : b = c := hy
      have hm : 0 ≤ m := ha (b, m) (List.mem_append_right _ (List.mem_singleton.mpr rfl))
      have hl : WOk l := fun z hz => ha z (List.mem_append_left _ hz)
      have hn : 0 ≤ n := hx
      refine ⟨fun {rs ls} h => ?_, fun c => ?_, ?_⟩
      · rw [List.append_assoc, wordM_cat h hl, wordM_cat h hl]
        have := two_one (b := b) (fold_fit h hl) hm hn
        simp only [List.cons_append, List.nil_append, this]
      · simp only [netB_app, netB_one]
        split <;> omega
      · simp only [sizeM_cat]
        unfold sizeM
        simp
        omega
    · simp only [hy, if_false]
      exact ⟨fun _ => rfl, fun _ => rfl, rfl⟩
theorem fold_alike : ∀ (w acc : Wd'), WOk acc → WOk w → Alike (w.foldl plStep acc) (acc ++ w)
  | [], acc, ha, hw => by
    rw [List.append_nil]
    exact ⟨fun _ => rfl, fun _ => rfl, rfl⟩
  | x :: w, acc, ha, hw => by
    have h1 := plStep_alike (x := x) ha (hw x (List.mem_cons_self ..))
    have hx : WOk [x] := fun z hz => by rw [List.mem_singleton.mp hz]; exact hw x (List.mem_cons_self ..)
    have hw' : WOk w := fun z hz => hw z (List.mem_cons_of_mem _ hz)
    have h2 := fold_alike w (plStep acc x) (plStep_ok ha (hw x (List.mem_cons_self ..))) hw'
    rw [List.foldl_cons, show acc ++ x :: w = (acc ++ [x]) ++ w by rw [List.append_assoc]; rfl]
    refine ⟨fun {rs ls} h => ?_, fun b => ?_, ?_⟩
    · rw [h2.wd h, wordM_cat h (plStep_ok ha (hw x (List.mem_cons_self ..))), wordM_cat h (okApp ha hx), h1.wd h]
    · rw [h2.nt b, netB_app, netB_app, h1.nt b]
    · rw [h2.sz, sizeM_cat, sizeM_cat, h1.sz]
theorem plain_alike {w : Wd'} (h : WOk w) : Alike (plainM w) w := fold_alike w [] (fun z hz => (by cases hz)) h
theorem alike_winds {w u : Wd'} (h : Alike w u) {rs ls : List Int} (hf : Fit rs ls) : windsM rs ls w = windsM rs ls u := by
  unfold windsM came
  rw [h.wd hf, h.nt, h.nt]
/-! ## parted words -/
def restM : Wd' → Int → Wd'
  | [], _ => []
  | x :: w, n => if n < x.2 then (x.1, x.2 - n) :: restM w 0 else restM w (n - x.2)
def Pos (w : Wd') : Prop := ∀ x ∈ w, 1 ≤ x.2
theorem Pos.ok {w : Wd'} (h : Pos w) : WOk w := fun x hx => by have := h x hx; omega
theorem rest_zero : ∀ {w : Wd'}, Pos w → restM w 0 = w
  | [], _ => rfl
  | x :: w, h => by
    have hx := h x (List.mem_cons_self ..)
    unfold restM
    rw [if_pos (by omega), Int.sub_zero, rest_zero fun z hz => h z (List.mem_cons_of_mem _ hz)]
theorem sizeM_cons (x : Br × Int) (w : Wd') : sizeM (x :: w) = x.2 + sizeM w := by
  unfold sizeM
  rw [List.map_cons, List.sum_cons]
theorem size_nn : ∀ {w : Wd'}, WOk w → 0 ≤ sizeM w
  | [], _ => Int.le_refl _
  | x :: w, h => by
    rw [sizeM_cons]
    have := h x (List.mem_cons_self ..)
    have := size_nn (w := w) fun z hz => h z (List.mem_cons_of_mem _ hz)
    omega
theorem pl_split (acc : Wd') (b : Br) (m n : Int) : plStep (plStep acc (b, m)) (b, n) = plStep acc (b, m + n) := by
  unfold plStep
  cases hg : acc.getLast? with
  | none =>
    obtain rfl : acc = [] := List.getLast?_eq_none_iff.mp hg
    simp
  | some y =>
    by_cases hy : y.1 = b
    · simp [hy, Int.add_assoc]
    · simp [hy]
theorem part_ok : ∀ {w : Wd'} {n : Int}, Pos w → 0 ≤ n → n ≤ sizeM w → sizeM (cutM w n) = n ∧ sizeM (restM w n) = sizeM w - n ∧ ∀ acc, (cutM w n ++ restM w n).foldl plStep acc = w.foldl plStep acc
  | [], n, _, h0, h1 => by
    have : n = 0 := by
      have : sizeM [] = 0 := rfl
      omega
    subst this
    exact ⟨rfl, rfl, fun _ => rfl⟩
  | x :: w, n, hp, h0, h1 => by
    have hx := hp x (List.mem_cons_self ..)
    have hw : Pos w := fun z hz => hp z (List.mem_cons_of_mem _ hz)
    rw [sizeM_cons] at h1
    by_cases hz : n = 0
    · subst hz
      have e1 : cutM (x :: w) 0 = [] := by unfold cutM; rw [if_pos (by omega)]
      rw [e1, rest_zero hp]
      exact ⟨rfl, by omega, fun _ => rfl⟩
    · have e1 : cutM (x :: w) n = (x.1, min x.2 n) :: cutM w (n - x.2) := by
        rw [cutM, if_neg (by omega)]
      by_cases hn : n < x.2
      · have e2 : restM (x :: w) n = (x.1, x.2 - n) :: w := by
          rw [restM, if_pos hn, rest_zero hw]
        have e3 : cutM w (n - x.2) = [] := by
          cases w with
          | nil => rfl
          | cons y w => rw [cutM, if_pos (by omega)]
        rw [e1, e2, e3, show min x.2 n = n by omega]
        refine ⟨by simp [sizeM], by rw [sizeM_cons, sizeM_cons]; omega, fun acc => ?_⟩
        show w.foldl plStep (plStep (plStep acc (x.1, n)) (x.1, x.2 - n)) = w.foldl plStep (plStep acc x)
        rw [pl_split, show n + (x.2 - n) = x.2 by omega]
      · have e2 : restM (x :: w) n = restM w (n - x.2) := by
          rw [restM, if_neg hn]
        obtain ⟨i1, i2, i3⟩ := part_ok (n := n - x.2) hw (by omega) (by omega)
        rw [e1, e2, show min x.2 n = x.2 by omega]
        refine ⟨by rw [sizeM_cons, i1]; omega, by rw [i2, sizeM_cons]; omega, fun acc => ?_⟩
        show (cutM w (n - x.2) ++ restM w (n - x.2)).foldl plStep (plStep acc x) = w.foldl plStep (plStep acc x)
        exact i3 _
/-- plain words -/
def Plain : Wd' → Prop
  | x :: y :: w => x.1 ≠ y.1 ∧ Plain (y :: w)
  | _ => True
theorem plain_snoc : ∀ {w : Wd'} {x y : Br × Int}, Plain (w ++ [x]) → x.1 ≠ y.1 → Plain (w ++ [x] ++ [y])
  | [], x, y, _, h => ⟨h, trivial⟩
  | [z], x, y, ⟨h1, _⟩, h => ⟨h1, h, trivial⟩
  | z :: v :: w, x, y, ⟨h1, h2⟩, h => ⟨h1, plain_snoc (w := v :: w) h2 h⟩
theorem plain_chg : ∀ {w : Wd'} {x : Br × Int} {n : Int}, Plain (w ++ [x]) → Plain (w ++ [(x.1, n)])
  | [], _, _, _ => trivial
  | [z], x, n, ⟨h1, _⟩ => ⟨h1, trivial⟩
  | z :: v :: w, x, n, ⟨h1, h2⟩ => ⟨h1, plain_chg (w := v :: w) h2⟩
theorem plStep_plain {acc : Wd'} {x : Br × Int} (h : Plain acc) : Plain (plStep acc x) := by
  unfold plStep
  cases hg : acc.getLast? with
  | none => exact trivial
  | some y =>
    obtain ⟨l, rfl⟩ := List.getLast?_eq_some_iff.mp hg
    by_cases hy : y.1 = x.1
    · simp only [hy, if_true, List.dropLast_concat]
      have := plain_chg (n := y.2 + x.2) h
      rwa [hy] at this
    · simp only [hy, if_false]
      exact plain_snoc h hy
theorem fold_plain : ∀ {w acc : Wd'}, Plain acc → Plain (w.foldl plStep acc)
  | [], _, h => h
  | x :: w, acc, h => fold_plain (w := w) (plStep_plain h)
theorem plain_fold : ∀ {w acc : Wd'}, Plain (acc ++ w) → w.foldl plStep acc = acc ++ w
  | [], acc, _ => (List.append_nil _).symm
  | x :: w, acc, h => by
    have e : plStep acc x = acc ++ [x] := by
      unfold plStep
      cases hg : acc.getLast? with
      | none =>
        obtain rfl : acc = [] := List.getLast?_eq_none_iff.mp hg
        rfl
      | some y =>
        obtain ⟨l, rfl⟩ := List.getLast?_eq_some_iff.mp hg
        have hy : y.1 ≠ x.1 := by
          clear hg
          induction l with
          | nil => exact h.1
          | cons z l ih =>
            cases l with
            | nil => exact h.2.1
            | cons v l => exact ih h.2
        simp only [hy, if_false]
    rw [List.foldl_cons, e]
    have := plain_fold (w := w) (acc := acc ++ [x]) (by rw [List.append_assoc]; exact h)
    rw [this, List.append_assoc]
    rfl
theorem plain_idem (u v : Wd') : plainM (plainM u ++ v) = plainM (u ++ v) := by
  have hp : Plain (plainM u) := fold_plain (w := u) (acc := []) trivial
  have e : (plainM u).foldl plStep [] = plainM u := plain_fold (acc := []) hp
  unfold plainM at e ⊢
  rw [List.foldl_append, List.foldl_append, e]
theorem begun_rest {w : Wd'} {n : Int} (hp : Pos w) (h0 : 0 ≤ n) (h1 : n ≤ sizeM w) : sizeM (begM w n) = n ∧ sizeM (restM w n) = sizeM w - n ∧ plainM (begM w n ++ restM w n) = plainM w := by
  obtain ⟨a, b, c⟩ := part_ok hp h0 h1
  refine ⟨?_, b, ?_⟩
  · unfold begM
    rw [(plain_alike (cut_ok hp.ok)).sz, a]
  · unfold begM
    rw [plain_idem]
    exact c []
theorem rest_ok : ∀ {w : Wd'} {n : Int}, Pos w → 0 ≤ n → Pos (restM w n) ∧ (restM w n).length ≤ w.length
  | [], _, h, _ => ⟨h, Nat.le_refl _⟩
  | x :: w, n, h, hn => by
    have hw : Pos w := fun z hz => h z (List.mem_cons_of_mem _ hz)
    have hx := h x (List.mem_cons_self ..)
    unfold restM
    split
    · obtain ⟨a, b⟩ := rest_ok (n := 0) hw (Int.le_refl _)
      refine ⟨fun z hz => ?_, Nat.succ_le_succ b⟩
      rcases List.mem_cons.mp hz with rfl | hz
      · show 1 ≤ x.2 - n
        omega
      · exact a z hz
    · obtain ⟨a, b⟩ := rest_ok (n := n - x.2) hw (by omega)
      exact ⟨a, Nat.le_succ_of_le b⟩
end DP

/-! at each gap a row is just two bellows -/
namespace DP
open PySem PySem.Spec PyProof.Rows L2 ZX DL RT
theorem capT_cons (s : Bool) (r l : Int) (rs ls : List Int) : capT s (r :: rs) (l :: ls) = cap s r l + capT s rs ls := by
  unfold capT cap
  simp only [List.sum_cons]
  split <;> omega
theorem capT_nn {s : Bool} {rs ls : List Int} (h : Fit rs ls) : 0 ≤ capT s rs ls := by
  unfold capT
  have h1 := fit_sum h
  have h2 := sum_nn (fit_nn h).1
  split <;> omega
theorem runL_rest {s : Bool} : ∀ {rs ls : List Int} {n : Int}, Fit rs ls → 0 ≤ n → (runL s rs ls n).2 = n - min n (capT s rs ls)
  | _, _, n, .nil, hn => by
    show n = n - min n (capT s [] [])
    have : capT s [] [] = 0 := by unfold capT; split <;> simp
    omega
  | r :: rs, l :: ls, n, .cons a b t, hn => by
    have c0 := cap_nn (s := s) a b
    have ih := runL_rest (s := s) (n := n - min n (cap s r l)) t (by omega)
    have nn := capT_nn (s := s) t
    rw [capT_cons]
    show (runL s rs ls (n - min n (cap s r l))).2 = _
    omega
theorem runR_rest {s : Bool} : ∀ {rs ls : List Int} {n : Int}, Fit rs ls → 0 ≤ n → (runR s rs ls n).2 = n - min n (capT s rs ls)
  | _, _, n, .nil, hn => by
    show n = n - min n (capT s [] [])
    have : capT s [] [] = 0 := by unfold capT; split <;> simp
    omega
  | r :: rs, l :: ls, n, .cons a b t, hn => by
    have c0 := cap_nn (s := s) a b
    have ih := runR_rest (s := s) (n := n) t hn
    have nn := capT_nn (s := s) t
    rw [capT_cons]
    show (runR s rs ls n).2 - min (runR s rs ls n).2 (cap s r l) = _
    omega
theorem runM_rest {b : Br} {rs ls : List Int} {n : Int} (h : Fit rs ls) (hn : 0 ≤ n) : (runM b rs ls n).2 = n - min n (capT b.2 rs ls) := by
  unfold runM
  cases b.1 with
  | true => exact runL_rest h hn
  | false => exact runR_rest h hn
def capD (s : Bool) (rs ls : List Int) (g : Nat) : Int := if s = true then (rs.drop g).sum - (ls.drop g).sum else (ls.drop g).sum
theorem runR_drop {s : Bool} : ∀ {rs ls : List Int} {n : Int} {g : Nat}, Fit rs ls → 0 ≤ n → ((runR s rs ls n).1.drop g).sum = put1 s (ls.drop g).sum (min n (capD s rs ls g))
  | _, _, n, g, .nil, hn => by
    have e : capD s [] [] g = 0 := by unfold capD; simp
    rw [e]
    show (([] : List Int).drop g).sum = _
    simp only [List.drop_nil, List.sum_nil]
    unfold put1
    split <;> omega
  | r :: rs, l :: ls, n, 0, .cons a b t, hn => by
    have f : Fit (r :: rs) (l :: ls) := .cons a b t
    have e1 := runR_sum (s := s) (n := n) f
    have e2 := runR_rest (s := s) (n := n) f hn
    have e3 : capD s (r :: rs) (l :: ls) 0 = capT s (r :: rs) (l :: ls) := rfl
    rw [List.drop_zero, List.drop_zero, e1, e2, e3]
    congr 1
    omega
  | r :: rs, l :: ls, n, g + 1, .cons a b t, hn => runR_drop (g := g) t hn
theorem sum_split (xs : List Int) (g : Nat) : (xs.take g).sum + (xs.drop g).sum = xs.sum := by rw [← List.sum_append, List.take_append_drop]
/-- the two numbers of a gap -/
def two (xs : List Int) (g : Nat) : List Int := [(xs.take g).sum, (xs.drop g).sum]
theorem two_fit {rs ls : List Int} (h : Fit rs ls) (g : Nat) : Fit (two rs g) (two ls g) := by
  have a := fit_sum (fit_tk g h)
  have b := fit_sum (fit_dr g h)
  have c := sum_nn (fit_nn (fit_tk g h)).1
  have d := sum_nn (fit_nn (fit_dr g h)).1
  exact .cons c a (.cons d b .nil)
theorem gap_two {b : Br} {rs ls : List Int} {n : Int} (h : Fit rs ls) (hn : 0 ≤ n) (g : Nat) : runM b (two rs g) (two ls g) n = (two (runM b rs ls n).1 g, (runM b rs ls n).2) := by
  have hr := runM_rest (b := b) h hn
  have hs := runM_sum (b := b) (n := n) h
  have s1 := sum_split (runM b rs ls n).1 g
  have s2 := sum_split ls g
  have s3 := sum_split rs g
  have c1 := fit_sum (fit_tk g h)
  have c2 := fit_sum (fit_dr g h)
  have c3 := sum_nn (fit_nn (fit_tk g h)).1
  have c4 := sum_nn (fit_nn (fit_dr g h)).1
  obtain ⟨l, s⟩ := b
  cases l with
  | true =>
    have ht := runL_take (s := s) (n := n) (g := g) h hn
    have e0 : runM (true, s) rs ls n = runL s rs ls n := rfl
    rw [e0] at hr hs s1 ⊢
    show (put1 s (ls.take g).sum (min n (cap s (rs.take g).sum (ls.take g).sum)) :: [put1 s (ls.drop g).sum (min (n - min n (cap s (rs.take g).sum (ls.take g).sum)) (cap s (rs.drop g).sum (ls.drop g).sum))], n - min n (cap s (rs.take g).sum (ls.take g).sum) - min (n - min n (cap s (rs.take g).sum (ls.take g).sum)) (cap s (rs.drop g).sum (ls.drop g).sum)) = ([((runL s rs ls n).1.take g).sum, ((runL s rs ls n).1.drop g).sum], (runL s rs ls n).2)
    have hd : ((runL s rs ls n).1.drop g).sum = (runL s rs ls n).1.sum - ((runL s rs ls n).1.take g).sum := by omega
    rw [hd, hs, ht, hr]
    unfold put1 cap capS capT
    cases s <;> simp <;> omega
  | false =>
    have ht := runR_drop (s := s) (n := n) (g := g) h hn
    have e0 : runM (false, s) rs ls n = runR s rs ls n := rfl
    rw [e0] at hr hs s1 ⊢
    show (put1 s (ls.take g).sum (min (n - min n (cap s (rs.drop g).sum (ls.drop g).sum)) (cap s (rs.take g).sum (ls.take g).sum)) :: [put1 s (ls.drop g).sum (min n (cap s (rs.drop g).sum (ls.drop g).sum))], n - min n (cap s (rs.drop g).sum (ls.drop g).sum) - min (n - min n (cap s (rs.drop g).sum (ls.drop g).sum)) (cap s (rs.take g).sum (ls.take g).sum)) = ([((runR s rs ls n).1.take g).sum, ((runR s rs ls n).1.drop g).sum], (runR s rs ls n).2)
    have hd : ((runR s rs ls n).1.take g).sum = (runR s rs ls n).1.sum - ((runR s rs ls n).1.drop g).sum := by omega
    rw [hd, hs, ht, hr]
    unfold put1 cap capD capT
    cases s <;> simp <;> omega
theorem gap_fold {rs : List Int} (g : Nat) : ∀ {w : Wd'} {ls cs : List Int}, Fit rs ls → WOk w → w.foldl (wstep (two rs g)) (two ls g, cs) = (two (w.foldl (wstep rs) (ls, cs)).1 g, (w.foldl (wstep rs) (ls, cs)).2)
  | [], _, _, _, _ => rfl
  | x :: w, ls, cs, h, ho => by
    rw [List.foldl_cons, List.foldl_cons]
    have hx := ho x (List.mem_cons_self ..)
    have e : wstep (two rs g) (two ls g, cs) x = (two (wstep rs (ls, cs) x).1 g, (wstep rs (ls, cs) x).2) := by
      unfold wstep
      rw [gap_two h hx]
    rw [e]
    exact gap_fold g (runM_fit h hx).1 fun y hy => ho y (List.mem_cons_of_mem _ hy)
/-- (a) how many lie ahead of a gap, and behind it, goes by these two numbers -/
theorem gap_word {rs ls : List Int} {w : Wd'} (h : Fit rs ls) (ho : WOk w) (g : Nat) : wordM (two rs g) (two ls g) w = (two (wordM rs ls w).1 g, (wordM rs ls w).2) := gap_fold g h ho
/-- a standing is told by its gaps -/
theorem preF_take : ∀ (ls : List Int) (a : Int), preF a ls = (List.range (ls.length + 1)).map fun k => a + (ls.take k).sum
  | [], a => by simp [preF]
  | l :: ls, a => by
    show a :: preF (a + l) ls = _
    rw [preF_take ls (a + l), List.length_cons, List.range_succ_eq_map (n := ls.length + 1), List.map_cons, List.map_map]
    simp [Function.comp_def, Int.add_assoc]
end DP

namespace DP
open PySem PySem.Spec PyProof.Rows L2 ZX DL RT
/-- so many times the same -/
def reps (n : Nat) (k : Int) : List Int := List.replicate n k
theorem zip_self {α : Type} : ∀ xs : List α, xs.zip xs = xs.map fun x => (x, x)
  | [] => rfl
  | x :: xs => by
    rw [List.zip_cons_cons, zip_self xs]
    rfl
theorem zip_idx {α : Type} (is : List α) (f g : α → PyData) : wZip.f [.list (is.map f), .list (is.map g)] = some (is.map fun i => .tuple [f i, g i]) := by
  show some (zipD (is.map f) (is.map g)) = _
  rw [zip_map, zip_self, List.map_map]
  rfl
theorem preF_get : ∀ (ls : List Int) (a : Int) (i : Nat), i ≤ ls.length → (preF a ls)[i]? = some (a + (ls.take i).sum) := fun ls a i h => by
  rw [preF_take, List.getElem?_map, List.getElem?_range (by omega)]
  rfl
theorem pre_getD (ls : List Int) (i : Nat) (h : i ≤ ls.length) : (pre ls).getD i 0 = (ls.take i).sum := by
  rw [List.getD_eq_getElem?_getD, preF_get ls 0 i h]
  show 0 + _ = _
  omega
theorem enum_seq {d : PyData} {ds : List PyData} (h : seqF d = some ds) : wEnum.f [d] = some (enumL ds) := by
  rcases seqF_of h with rfl | rfl <;> rfl
theorem standing_by_eq {r nu : PyData} {rs ls : List Int} (hr : seqF r = some (dI rs)) (hn : seqF nu = some (dI (pre ls))) (hf : Fit rs ls) (hl : rs.length ≤ 1000) : sem_standing_by [r, nu] = .ret (tN ls) := by
  have ll := hf.len
  have e0 : oIxQ.f nu (.int 0) = some (.int 0) := by
    rw [ixQ_seq hn]
    have := atI_k (ns := pre ls) (k := 0) (by rw [preF_len]; omega)
    rw [pre_getD ls 0 (by omega)] at this
    exact this
  have eg : ∀ i : Nat, i ≤ ls.length → oIxQ.f nu (.int (i : Int)) = some (.int (ls.take i).sum) := fun i hi => by
    rw [ixQ_seq hn, atI_k (by rw [preF_len]; omega), pre_getD ls i hi]
  obtain ⟨env', e, a, b, c, rfl⟩ := forL_inv (step := lstep (evS b_standing_by_1) (.tp (.cons (.nm 3) (.cons (.nm 4) .nil)))) (F := fun env => ∃ a b c, env = [.dat r, .dat nu, .own (dI ls), a, b, c]) (fun i env => ∃ a b c, env = [.dat r, .dat nu, .own (dI (ls.take i)), a, b, c]) (its := enumL (dI rs)) (j := 0) (env := [.dat r, .dat nu, .own [], .unk, .unk, .unk]) ⟨_, _, _, rfl⟩ (fun i d env hd ⟨a, b, c, he⟩ => by
    subst he
    rw [Nat.zero_add]
    unfold enumL at hd
    rw [List.getElem?_map] at hd
    obtain ⟨j, hj, rfl⟩ := Option.map_eq_some_iff.mp hd
    have hi : i < rs.length := by
      have := (List.getElem?_eq_some_iff.mp hj).1
      rwa [List.length_range, List.length_map] at this
    rw [List.length_map, List.getElem?_range hi] at hj
    cases hj
    have e1 : (dI rs).getD i .none = .int (rs.getD i 0) := by
      rw [List.getD_eq_getElem?_getD, List.getElem?_map, List.getElem?_eq_getElem hi, List.getD_eq_getElem?_getD, List.getElem?_eq_getElem hi]
      rfl
    have hil : i < ls.length := by omega
    have g1 := eg (i + 1) (by omega)
    have g0 := eg i (by omega)
    have ts : (ls.take (i + 1)).sum - (ls.take i).sum = ls.getD i 0 := by
      rw [take_snoc hil, List.sum_append]
      simp
      omega
    obtain ⟨b1, b2⟩ := (fit_iff.mp hf).2 i (rs.getD i 0) (ls.getD i 0) (by rw [List.getD_eq_getElem?_getD, List.getElem?_eq_getElem hi]; rfl) (by rw [List.getD_eq_getElem?_getD, List.getElem?_eq_getElem hil]; rfl)
    have l1 : (ls.take i).length ≤ 100000 := by rw [List.length_take]; omega
    have g1' : oIxQ.f nu (.int ((i : Int) + 1)) = some (.int (ls.take (i + 1)).sum) := g1
    refine ⟨_, .inl ⟨?_, .dat (.int (i : Int)), .dat (.int (rs.getD i 0)), .dat (.int (ls.getD i 0)), rfl⟩⟩
    simp only [lstep, b_standing_by_1, e1, DP.run, DP.runB, evS, evE, evA, evT, evP, evI, startE, startX, slot_zero, slot_succ, own_zero, own_succ, box_zero, box_succ, bind_n, Dr.bind_assoc, pur_n, put_nm, put_tp, put_tpL, puts_nil, puts_cons, then_n, then_rt, then_rtO, told_rtO, put2_c, put3_c, evF, evB, flat_i, flat_b, flat_s, asLst_l, f_intI, f_intB, f_odd, f_notN, f_fListL, f_fListT, non_i, non_n, f_neS, then_bk, then_ct, told_rt, evT_qY, andB_t, andB_f, orB_t, orB_f, asInt_i, Dr.opt_some, small, within, List.length_cons, List.length_nil, List.map_cons, List.map_nil, List.cons_append, List.nil_append, List.replicate, List.set_cons_zero, List.set_cons_succ, Tt.vs, Ts.vs, Option.bind_some, Nat.reduceAdd, Nat.reduceSub, Nat.reduceLeDiff, Nat.reduceEqDiff, reduceIte, if_true, if_false, asIx_int, f_add, f_sub, f_lt, f_le, f_gt, f_ge, f_addA, f_subA, f_eqI, f_eqS, f_eqB, f_neI, f_isN, f_ixL, f_ixT, f_neg, f_not, f_min, f_max, f_abs, f_tB, f_lenL, f_lenT, f_list, f_listT, f_tup, f_tupT, f_wSeqL, f_wSeqT, f_cutT, f_cutL, wipeX, List.all_cons, List.all_nil, List.contains_cons, List.elem_nil, Bool.and_true, Bool.true_and, beq_self_eq_true, Bool.or_true, Bool.true_or, Bool.false_eq_true, Option.some.injEq, decide_true, decide_false, Bool.not_true, Bool.not_false, Nat.reduceBEq, Bool.or_false, Bool.false_or, List.append_nil, List.singleton_append, true_and, and_true, and_self, g1', g0, ts, b1, b2, List.length_map, l1]
    rw [take_snoc hil, show dI (ls.take i ++ [ls.getD i 0]) = dI (ls.take i) ++ [.int (ls.getD i 0)] from List.map_append ..]) (fun env ⟨a, b, c, he⟩ => by
    subst he
    unfold enumL
    rw [Nat.zero_add, List.length_map, List.length_range, List.length_map, ← ll, List.take_length]
    exact ⟨a, b, c, rfl⟩)
  simp only [sem_standing_by, a_standing_by, DP.run, DP.runB, evS, evE, evA, evT, evP, evI, startE, startX, slot_zero, slot_succ, own_zero, own_succ, box_zero, box_succ, bind_n, Dr.bind_assoc, pur_n, put_nm, put_tp, put_tpL, puts_nil, puts_cons, then_n, then_rt, then_rtO, told_rtO, put2_c, put3_c, evF, evB, flat_i, flat_b, flat_s, asLst_l, f_intI, f_intB, f_odd, f_notN, f_fListL, f_fListT, non_i, non_n, f_neS, then_bk, then_ct, told_rt, evT_qY, andB_t, andB_f, orB_t, orB_f, asInt_i, Dr.opt_some, small, within, List.length_cons, List.length_nil, List.map_cons, List.map_nil, List.cons_append, List.nil_append, List.replicate, List.set_cons_zero, List.set_cons_succ, Tt.vs, Ts.vs, Option.bind_some, Nat.reduceAdd, Nat.reduceSub, Nat.reduceLeDiff, Nat.reduceEqDiff, reduceIte, if_true, if_false, asIx_int, f_add, f_sub, f_lt, f_le, f_gt, f_ge, f_addA, f_subA, f_eqI, f_eqS, f_eqB, f_neI, f_isN, f_ixL, f_ixT, f_neg, f_not, f_min, f_max, f_abs, f_tB, f_lenL, f_lenT, f_list, f_listT, f_tup, f_tupT, f_wSeqL, f_wSeqT, f_cutT, f_cutL, wipeX, List.all_cons, List.all_nil, List.contains_cons, List.elem_nil, Bool.and_true, Bool.true_and, beq_self_eq_true, Bool.or_true, Bool.true_or, Bool.false_eq_true, Option.some.injEq, decide_true, decide_false, Bool.not_true, Bool.not_false, Nat.reduceBEq, Bool.or_false, Bool.false_or, List.append_nil, List.singleton_append, true_and, and_true, and_self, e0, enum_seq hr, e]
end DP

/-! names: the way from the bare row -/
namespace DP
open PySem PySem.Spec PyProof.Rows L2 ZX DL RT
theorem bare_eq {r : PyData} {rs : List Int} (hr : seqF r = some (dI rs)) (h0 : 1 ≤ rs.length) (hl : rs.length ≤ 1000) : sem_bare [r] = .ret (tN (reps rs.length 0)) := by
  have e1 : bLen.f [r] = some (.int (rs.length : Int)) := by rw [len_seq hr, List.length_map]
  have e2 : oRepT.f (.tuple [.int 0]) (.int (rs.length : Int)) = some (tN (reps rs.length 0)) := rep_zero rs.length h0 hl
  simp only [sem_bare, a_bare, DP.run, DP.runB, evS, evE, evA, evT, evP, evI, startE, startX, slot_zero, slot_succ, own_zero, own_succ, box_zero, box_succ, bind_n, Dr.bind_assoc, pur_n, put_nm, put_tp, put_tpL, puts_nil, puts_cons, then_n, then_rt, then_rtO, told_rtO, put2_c, put3_c, evF, evB, flat_i, flat_b, flat_s, asLst_l, f_intI, f_intB, f_odd, f_notN, f_fListL, f_fListT, non_i, non_n, f_neS, then_bk, then_ct, told_rt, evT_qY, andB_t, andB_f, orB_t, orB_f, asInt_i, Dr.opt_some, small, within, List.length_cons, List.length_nil, List.map_cons, List.map_nil, List.cons_append, List.nil_append, List.replicate, List.set_cons_zero, List.set_cons_succ, Tt.vs, Ts.vs, Option.bind_some, Nat.reduceAdd, Nat.reduceSub, Nat.reduceLeDiff, Nat.reduceEqDiff, reduceIte, if_true, if_false, asIx_int, f_add, f_sub, f_lt, f_le, f_gt, f_ge, f_addA, f_subA, f_eqI, f_eqS, f_eqB, f_neI, f_isN, f_ixL, f_ixT, f_neg, f_not, f_min, f_max, f_abs, f_tB, f_lenL, f_lenT, f_list, f_listT, f_tup, f_tupT, f_wSeqL, f_wSeqT, f_cutT, f_cutL, wipeX, List.all_cons, List.all_nil, List.contains_cons, List.elem_nil, Bool.and_true, Bool.true_and, beq_self_eq_true, Bool.or_true, Bool.true_or, Bool.false_eq_true, Option.some.injEq, decide_true, decide_false, Bool.not_true, Bool.not_false, Nat.reduceBEq, Bool.or_false, Bool.false_or, List.append_nil, List.singleton_append, true_and, and_true, and_self, e1, e2]
/-- the way from the bare row -/
def wayB (rs ts : List Int) : List Tr := wayM rs (reps rs.length 0) ts
theorem reps_len (n : Nat) (k : Int) : (reps n k).length = n := List.length_replicate ..
theorem wayB_len (rs ts : List Int) : (wayB rs ts).length ≤ rs.length := wayM_len _ _ _
theorem name_of_eq {r t : PyData} {rs ts : List Int} (hr : seqF r = some (dI rs)) (ht : seqF t = some (dI ts)) (h2 : ts.length = rs.length) (h0 : 1 ≤ rs.length) (hl : rs.length ≤ 1000) : sem_name_of [r, t] = .ret (lN ((wayB rs ts).map fun x => x.2.2)) := by
  have b := bare_eq hr h0 hl
  have e := left_way_eq (o := tN (reps rs.length 0)) (ls := reps rs.length 0) hr rfl ht (reps_len _ _) h2 hl
  have wl := wayB_len rs ts
  have hc := compr_map (step := cstep (evT qY) (evE x_name_of_1) (.tp (.cons (.nm 2) (.cons (.nm 3) (.cons (.nm 4) .nil)))) [.dat r, .dat t, .unk, .unk, .unk]) (g := trD) (h := fun x => .int x.2.2) (xs := wayB rs ts) fun x _ => by
    simp only [cstep, trD, x_name_of_1, DP.run, DP.runB, evS, evE, evA, evT, evP, evI, startE, startX, slot_zero, slot_succ, own_zero, own_succ, box_zero, box_succ, bind_n, Dr.bind_assoc, pur_n, put_nm, put_tp, put_tpL, puts_nil, puts_cons, then_n, then_rt, then_rtO, told_rtO, put2_c, put3_c, evF, evB, flat_i, flat_b, flat_s, asLst_l, f_intI, f_intB, f_odd, f_notN, f_fListL, f_fListT, non_i, non_n, f_neS, then_bk, then_ct, told_rt, evT_qY, andB_t, andB_f, orB_t, orB_f, asInt_i, Dr.opt_some, small, within, List.length_cons, List.length_nil, List.map_cons, List.map_nil, List.cons_append, List.nil_append, List.replicate, List.set_cons_zero, List.set_cons_succ, Tt.vs, Ts.vs, Option.bind_some, Nat.reduceAdd, Nat.reduceSub, Nat.reduceLeDiff, Nat.reduceEqDiff, reduceIte, if_true, if_false, asIx_int, f_add, f_sub, f_lt, f_le, f_gt, f_ge, f_addA, f_subA, f_eqI, f_eqS, f_eqB, f_neI, f_isN, f_ixL, f_ixT, f_neg, f_not, f_min, f_max, f_abs, f_tB, f_lenL, f_lenT, f_list, f_listT, f_tup, f_tupT, f_wSeqL, f_wSeqT, f_cutT, f_cutL, wipeX, List.all_cons, List.all_nil, List.contains_cons, List.elem_nil, Bool.and_true, Bool.true_and, beq_self_eq_true, Bool.or_true, Bool.true_or, Bool.false_eq_true, Option.some.injEq, decide_true, decide_false, Bool.not_true, Bool.not_false, Nat.reduceBEq, Bool.or_false, Bool.false_or, List.append_nil, List.singleton_append, true_and, and_true, and_self]
  have hl2 : ((wayB rs ts).map trD).length ≤ 100000 := by rw [List.length_map]; omega
  rw [map_dI] at hc
  have e' : sem_left_way [r, tN (reps rs.length 0), t] = .ret (.list ((wayB rs ts).map trD)) := e
  simp only [sem_name_of, a_name_of, DP.run, DP.runB, evS, evE, evA, evT, evP, evI, startE, startX, slot_zero, slot_succ, own_zero, own_succ, box_zero, box_succ, bind_n, Dr.bind_assoc, pur_n, put_nm, put_tp, put_tpL, puts_nil, puts_cons, then_n, then_rt, then_rtO, told_rtO, put2_c, put3_c, evF, evB, flat_i, flat_b, flat_s, asLst_l, f_intI, f_intB, f_odd, f_notN, f_fListL, f_fListT, non_i, non_n, f_neS, then_bk, then_ct, told_rt, evT_qY, andB_t, andB_f, orB_t, orB_f, asInt_i, Dr.opt_some, small, within, List.length_cons, List.length_nil, List.map_cons, List.map_nil, List.cons_append, List.nil_append, List.replicate, List.set_cons_zero, List.set_cons_succ, Tt.vs, Ts.vs, Option.bind_some, Nat.reduceAdd, Nat.reduceSub, Nat.reduceLeDiff, Nat.reduceEqDiff, reduceIte, if_true, if_false, asIx_int, f_add, f_sub, f_lt, f_le, f_gt, f_ge, f_addA, f_subA, f_eqI, f_eqS, f_eqB, f_neI, f_isN, f_ixL, f_ixT, f_neg, f_not, f_min, f_max, f_abs, f_tB, f_lenL, f_lenT, f_list, f_listT, f_tup, f_tupT, f_wSeqL, f_wSeqT, f_cutT, f_cutL, wipeX, List.all_cons, List.all_nil, List.contains_cons, List.elem_nil, Bool.and_true, Bool.true_and, beq_self_eq_true, Bool.or_true, Bool.true_or, Bool.false_eq_true, Option.some.injEq, decide_true, decide_false, Bool.not_true, Bool.not_false, Nat.reduceBEq, Bool.or_false, Bool.false_or, List.append_nil, List.singleton_append, true_and, and_true, and_self, b, e', hl2, hc]
theorem depths_eq {r t : PyData} {rs ts : List Int} (hr : seqF r = some (dI rs)) (ht : seqF t = some (dI ts)) (h2 : ts.length = rs.length) (h0 : 1 ≤ rs.length) (hl : rs.length ≤ 1000) : sem_depths [r, t] = .ret (lN ((wayB rs ts).map fun x => (x.1 : Int))) := by
  have b := bare_eq hr h0 hl
  have e := left_way_eq (o := tN (reps rs.length 0)) (ls := reps rs.length 0) hr rfl ht (reps_len _ _) h2 hl
  have wl := wayB_len rs ts
  have hc := compr_map (step := cstep (evT qY) (evE x_depths_1) (.tp (.cons (.nm 2) (.cons (.nm 3) (.cons (.nm 4) .nil)))) [.dat r, .dat t, .unk, .unk, .unk]) (g := trD) (h := fun x => .int (x.1 : Int)) (xs := wayB rs ts) fun x _ => by
    simp only [cstep, trD, x_depths_1, DP.run, DP.runB, evS, evE, evA, evT, evP, evI, startE, startX, slot_zero, slot_succ, own_zero, own_succ, box_zero, box_succ, bind_n, Dr.bind_assoc, pur_n, put_nm, put_tp, put_tpL, puts_nil, puts_cons, then_n, then_rt, then_rtO, told_rtO, put2_c, put3_c, evF, evB, flat_i, flat_b, flat_s, asLst_l, f_intI, f_intB, f_odd, f_notN, f_fListL, f_fListT, non_i, non_n, f_neS, then_bk, then_ct, told_rt, evT_qY, andB_t, andB_f, orB_t, orB_f, asInt_i, Dr.opt_some, small, within, List.length_cons, List.length_nil, List.map_cons, List.map_nil, List.cons_append, List.nil_append, List.replicate, List.set_cons_zero, List.set_cons_succ, Tt.vs, Ts.vs, Option.bind_some, Nat.reduceAdd, Nat.reduceSub, Nat.reduceLeDiff, Nat.reduceEqDiff, reduceIte, if_true, if_false, asIx_int, f_add, f_sub, f_lt, f_le, f_gt, f_ge, f_addA, f_subA, f_eqI, f_eqS, f_eqB, f_neI, f_isN, f_ixL, f_ixT, f_neg, f_not, f_min, f_max, f_abs, f_tB, f_lenL, f_lenT, f_list, f_listT, f_tup, f_tupT, f_wSeqL, f_wSeqT, f_cutT, f_cutL, wipeX, List.all_cons, List.all_nil, List.contains_cons, List.elem_nil, Bool.and_true, Bool.true_and, beq_self_eq_true, Bool.or_true, Bool.true_or, Bool.false_eq_true, Option.some.injEq, decide_true, decide_false, Bool.not_true, Bool.not_false, Nat.reduceBEq, Bool.or_false, Bool.false_or, List.append_nil, List.singleton_append, true_and, and_true, and_self]
  have hl2 : ((wayB rs ts).map trD).length ≤ 100000 := by rw [List.length_map]; omega
  rw [map_dI] at hc
  have e' : sem_left_way [r, tN (reps rs.length 0), t] = .ret (.list ((wayB rs ts).map trD)) := e
  simp only [sem_depths, a_depths, DP.run, DP.runB, evS, evE, evA, evT, evP, evI, startE, startX, slot_zero, slot_succ, own_zero, own_succ, box_zero, box_succ, bind_n, Dr.bind_assoc, pur_n, put_nm, put_tp, put_tpL, puts_nil, puts_cons, then_n, then_rt, then_rtO, told_rtO, put2_c, put3_c, evF, evB, flat_i, flat_b, flat_s, asLst_l, f_intI, f_intB, f_odd, f_notN, f_fListL, f_fListT, non_i, non_n, f_neS, then_bk, then_ct, told_rt, evT_qY, andB_t, andB_f, orB_t, orB_f, asInt_i, Dr.opt_some, small, within, List.length_cons, List.length_nil, List.map_cons, List.map_nil, List.cons_append, List.nil_append, List.replicate, List.set_cons_zero, List.set_cons_succ, Tt.vs, Ts.vs, Option.bind_some, Nat.reduceAdd, Nat.reduceSub, Nat.reduceLeDiff, Nat.reduceEqDiff, reduceIte, if_true, if_false, asIx_int, f_add, f_sub, f_lt, f_le, f_gt, f_ge, f_addA, f_subA, f_eqI, f_eqS, f_eqB, f_neI, f_isN, f_ixL, f_ixT, f_neg, f_not, f_min, f_max, f_abs, f_tB, f_lenL, f_lenT, f_list, f_listT, f_tup, f_tupT, f_wSeqL, f_wSeqT, f_cutT, f_cutL, wipeX, List.all_cons, List.all_nil, List.contains_cons, List.elem_nil, Bool.and_true, Bool.true_and, beq_self_eq_true, Bool.or_true, Bool.true_or, Bool.false_eq_true, Option.some.injEq, decide_true, decide_false, Bool.not_true, Bool.not_false, Nat.reduceBEq, Bool.or_false, Bool.false_or, List.append_nil, List.singleton_append, true_and, and_true, and_self, b, e', hl2, hc]
/-! ## where the last breath of a turn lands -/
def Lnd (rs : List Int) : List Int → List Tr → Prop
  | _, [] => True
  | ls, x :: w => capS x.2.1 rs ls x.1 < x.2.2 ∧ x.2.2 ≤ capS x.2.1 rs ls (x.1 + 1) ∧ Lnd rs (runL x.2.1 rs ls x.2.2).1 w
theorem way_lt : ∀ (rs ls ts : List Int), ∀ x ∈ wayR rs ls ts, x.1 < rs.length
  | [], _, _ => fun x h => by simp [wayR] at h
  | r :: rs, [], ts => fun x h => by simp [wayR] at h
  | r :: rs, l :: ls, [] => fun x h => by simp [wayR] at h
  | r :: rs, l :: ls, t :: ts => fun x h => by
    rw [List.length_cons]
    unfold wayR at h
    split at h
    · rcases List.mem_cons.mp h with rfl | h
      · exact Nat.lt_succ_self _
      · exact Nat.lt_succ_of_lt (way_lt rs rs ts x h)
    · split at h
      · rcases List.mem_cons.mp h with rfl | h
        · exact Nat.lt_succ_self _
        · exact Nat.lt_succ_of_lt (way_lt rs _ ts x h)
      · exact Nat.lt_succ_of_lt (way_lt rs ls ts x h)
theorem way_fall : ∀ (rs ls ts : List Int), (wayR rs ls ts).Pairwise fun a b => b.1 < a.1
  | [], _, _ => by simp [wayR]
  | r :: rs, [], ts => by simp [wayR]
  | r :: rs, l :: ls, [] => by simp [wayR]
  | r :: rs, l :: ls, t :: ts => by
    unfold wayR
    split
    · exact .cons (fun x h => way_lt rs rs ts x h) (way_fall rs rs ts)
    · split
      · exact .cons (fun x h => way_lt rs _ ts x h) (way_fall rs _ ts)
      · exact way_fall rs ls ts
theorem capS_app (s : Bool) {A a : List Int} (B b : List Int) {g : Nat} (hl : a.length = A.length) (hg : g ≤ A.length) : capS s (A ++ B) (a ++ b) g = capS s A a g := by
  unfold capS
  rw [List.take_append_of_le_length hg, List.take_append_of_le_length (by omega)]
theorem lnd_app {A B b : List Int} (hB : Fit B b) : ∀ {w : List Tr} {a t : List Int}, a.length = A.length → (∀ x ∈ w, x.1 < A.length) → goL A a w = some t → Lnd A a w → Lnd (A ++ B) (a ++ b) w
  | [], _, _, _, _, _, _ => trivial
  | x :: w, a, t, hl, hx, h, ⟨h1, h2, h3⟩ => by
    have h' : (if (runL x.2.1 A a x.2.2).2 = 0 then goL A (runL x.2.1 A a x.2.2).1 w else none) = some t := h
    have x1 := hx x (List.mem_cons_self ..)
    split at h'
    · rename_i hz
      have e := runL_app (s := x.2.1) A a B b x.2.2 hl
      rw [hz, runL_zero hB] at e
      refine ⟨?_, ?_, ?_⟩
      · rw [capS_app _ _ _ hl (by omega)]
        exact h1
      · rw [capS_app _ _ _ hl (by omega)]
        exact h2
      · rw [e]
        exact lnd_app hB (runL_len A a _ hl) (fun y hy => hx y (List.mem_cons_of_mem _ hy)) h' h3
    · cases h'
theorem take_all {xs : List Int} {n : Nat} (h : xs.length = n) (y : Int) : (xs ++ [y]).take (n + 1) = xs ++ [y] := List.take_of_length_le (by rw [List.length_append, h]; exact Nat.le_refl _)
theorem sum_snoc (xs : List Int) (y : Int) : (xs ++ [y]).sum = xs.sum + y := by
  rw [List.sum_append]
  simp
theorem way_lnd : ∀ {rs ls ts : List Int}, Fit rs ls → Fit rs ts → Lnd rs.reverse ls.reverse (wayR rs ls ts)
  | _, _, _, .nil, .nil => trivial
  | r :: rs, l :: ls, t :: ts, .cons a b hl, .cons c d ht => by
    have l0 := hl.len
    have l1 : ls.reverse.length = rs.reverse.length := by rw [List.length_reverse, List.length_reverse, hl.len]
    have lr : rs.reverse.length = rs.length := List.length_reverse
    have ll : ls.reverse.length = rs.length := by rw [l1, lr]
    rw [List.reverse_cons, List.reverse_cons]
    unfold wayR
    by_cases ca : l < t
    · rw [if_pos ca]
      have e1 := runL_app (s := true) rs.reverse ls.reverse [r] [l] (rs.sum - ls.sum + t - l) l1
      have e2 := runL_full (s := true) (n := rs.sum - ls.sum + t - l) (fit_rev hl) (by unfold capT; simp only [if_true, sum_rev]; omega)
      have e3 : rs.sum - ls.sum + t - l - capT true rs.reverse ls.reverse = t - l := by
        unfold capT
        simp only [if_true, sum_rev]
        omega
      rw [e3] at e2
      rw [e2] at e1
      have e4 : runL true [r] [l] (t - l) = ([t], 0) := by
        show ([put1 true l (min (t - l) (cap true r l))], t - l - min (t - l) (cap true r l)) = _
        have : min (t - l) (cap true r l) = t - l := by
          unfold cap
          simp only [if_true]
          omega
        rw [this]
        unfold put1
        simp only [if_true]
        rw [show l + (t - l) = t by omega, Int.sub_self]
      rw [e4] at e1
      refine ⟨?_, ?_, ?_⟩
      · show capS true (rs.reverse ++ [r]) (ls.reverse ++ [l]) rs.length < rs.sum - ls.sum + t - l
        unfold capS
        simp only [if_true]
        rw [take_cat lr, take_cat ll, sum_rev, sum_rev]
        omega
      · show rs.sum - ls.sum + t - l ≤ capS true (rs.reverse ++ [r]) (ls.reverse ++ [l]) (rs.length + 1)
        unfold capS
        simp only [if_true]
        rw [take_all lr, take_all ll, sum_snoc, sum_snoc, sum_rev, sum_rev]
        omega
      · show Lnd (rs.reverse ++ [r]) (runL true (rs.reverse ++ [r]) (ls.reverse ++ [l]) (rs.sum - ls.sum + t - l)).1 (wayR rs rs ts)
        rw [e1]
        exact lnd_app (a := rs.reverse) (fit_one c d) rfl (fun x hx => by rw [lr]; exact way_lt _ _ _ x hx) (way_go (fit_full (fit_nn hl).2) ht) (way_lnd (fit_full (fit_nn hl).2) ht)
    · rw [if_neg ca]
      by_cases cb : t < l
      · rw [if_pos cb]
        have e1 := runL_app (s := false) rs.reverse ls.reverse [r] [l] (ls.sum + l - t) l1
        have e2 := runL_full (s := false) (n := ls.sum + l - t) (fit_rev hl) (by unfold capT; simp only [Bool.false_eq_true, if_false, sum_rev]; omega)
        have e3 : ls.sum + l - t - capT false rs.reverse ls.reverse = l - t := by
          unfold capT
          simp only [Bool.false_eq_true, if_false, sum_rev]
          omega
        rw [e3] at e2
        rw [e2] at e1
        have e4 : runL false [r] [l] (l - t) = ([t], 0) := by
          show ([put1 false l (min (l - t) (cap false r l))], l - t - min (l - t) (cap false r l)) = _
          have : min (l - t) (cap false r l) = l - t := by
            unfold cap
            simp only [Bool.false_eq_true, if_false]
            omega
          rw [this]
          unfold put1
          simp only [Bool.false_eq_true, if_false]
          rw [show l - (l - t) = t by omega, Int.sub_self]
        rw [e4] at e1
        have e5 : fullOf false rs.reverse = (List.replicate rs.length 0).reverse := by
          unfold fullOf
          simp only [Bool.false_eq_true, if_false, List.length_reverse, List.reverse_replicate]
        rw [e5] at e1
        refine ⟨?_, ?_, ?_⟩
        · show capS false (rs.reverse ++ [r]) (ls.reverse ++ [l]) rs.length < ls.sum + l - t
          unfold capS
          simp only [Bool.false_eq_true, if_false]
          rw [take_cat ll, sum_rev]
          omega
        · show ls.sum + l - t ≤ capS false (rs.reverse ++ [r]) (ls.reverse ++ [l]) (rs.length + 1)
          unfold capS
          simp only [Bool.false_eq_true, if_false]
          rw [take_all ll, sum_snoc, sum_rev]
          omega
        · show Lnd (rs.reverse ++ [r]) (runL false (rs.reverse ++ [r]) (ls.reverse ++ [l]) (ls.sum + l - t)).1 (wayR rs (List.replicate rs.length 0) ts)
          rw [e1]
          exact lnd_app (a := (List.replicate rs.length 0).reverse) (fit_one c d) (by simp) (fun x hx => by rw [lr]; exact way_lt _ _ _ x hx) (way_go (fit_zero (fit_nn hl).2) ht) (way_lnd (fit_zero (fit_nn hl).2) ht)
      · rw [if_neg cb]
        obtain rfl : l = t := by omega
        exact lnd_app (fit_one a b) l1 (fun x hx => by rw [lr]; exact way_lt _ _ _ x hx) (way_go hl ht) (way_lnd hl ht)
theorem wayB_go {rs ts : List Int} (hf : Fit rs ts) : goL rs (reps rs.length 0) (wayB rs ts) = some ts := wayM_go (fit_zero (fit_nn hf).2) hf
theorem wayB_lnd {rs ts : List Int} (hf : Fit rs ts) : Lnd rs (reps rs.length 0) (wayB rs ts) := by
  have := way_lnd (fit_rev (fit_zero (fit_nn hf).2)) (fit_rev hf)
  rw [List.reverse_reverse, List.reverse_reverse] at this
  exact this
theorem wayB_pos {rs ts : List Int} (hf : Fit rs ts) : ∀ x ∈ wayB rs ts, 1 ≤ x.2.2 := way_pos (fit_rev (fit_zero (fit_nn hf).2)) (fit_rev hf)
theorem wayB_fall (rs ts : List Int) : (wayB rs ts).Pairwise fun a b => b.1 < a.1 := way_fall _ _ _
/-! ## the signs alternate -/
def alt : Bool → List Tr → Prop
  | _, [] => True
  | s, x :: w => x.2.1 = s ∧ alt (!s) w
theorem way_alt : ∀ {rs ts : List Int}, Fit rs ts → alt true (wayR rs (List.replicate rs.length 0) ts) ∧ alt false (wayR rs rs ts)
  | _, _, .nil => ⟨trivial, trivial⟩
  | r :: rs, t :: ts, .cons a b h => by
    obtain ⟨i1, i2⟩ := way_alt h
    refine ⟨?_, ?_⟩
    · rw [List.length_cons, List.replicate_succ]
      unfold wayR
      by_cases c : 0 < t
      · rw [if_pos c]
        exact ⟨rfl, i2⟩
      · rw [if_neg c, if_neg (by omega)]
        exact i1
    · unfold wayR
      rw [if_neg (by omega)]
      by_cases c : t < r
      · rw [if_pos c]
        exact ⟨rfl, i1⟩
      · rw [if_neg c]
        exact i2
theorem wayB_alt {rs ts : List Int} (hf : Fit rs ts) : alt true (wayB rs ts) := by
  have := (way_alt (fit_rev hf)).1
  unfold wayB wayM reps
  rw [List.reverse_replicate]
  rw [List.length_reverse] at this
  exact this
/-! ## the first depth -/
def flM : Nat → List Int → List Nat
  | _, [] => []
  | k, t :: ts => if 0 < t then k :: flM (k + 1) ts else flM (k + 1) ts
theorem flM_snoc : ∀ (k : Nat) (xs : List Int) (y : Int), flM k (xs ++ [y]) = flM k xs ++ (if 0 < y then [k + xs.length] else [])
  | k, [], y => by
    show (if 0 < y then [k] else []) = _
    rfl
  | k, x :: xs, y => by
    rw [List.cons_append]
    unfold flM
    rw [flM_snoc (k + 1) xs y, List.length_cons, show k + 1 + xs.length = k + (xs.length + 1) by omega]
    split <;> rfl
theorem flM_eq : ∀ (k : Nat) (xs : List Int), flM k xs = ((List.range xs.length).filter fun i => decide (0 < xs.getD i 0)).map (k + ·)
  | k, [] => rfl
  | k, x :: xs => by
    unfold flM
    rw [flM_eq (k + 1) xs, List.length_cons, List.range_succ_eq_map, List.filter_cons, List.filter_map]
    have e : (fun i => decide (0 < (x :: xs).getD i 0)) ∘ Nat.succ = fun i => decide (0 < xs.getD i 0) := by
      funext i
      rfl
    have e2 : ∀ is : List Nat, is.map (k + 1 + ·) = (is.map Nat.succ).map (k + ·) := fun is => by
      rw [List.map_map]
      refine List.map_congr_left fun i _ => ?_
      show k + 1 + i = k + (i + 1)
      omega
    rw [e, e2]
    have e3 : (x :: xs).getD 0 0 = x := rfl
    rw [e3]
    by_cases c : 0 < x
    · simp only [c, if_true, decide_true]
      rfl
    · simp only [c, if_false, decide_false]
      rfl
def lastL {α : Type} (xs : List α) : List α := xs.drop (xs.length - 1)
theorem lastL_snoc {α : Type} (xs : List α) (y : α) : lastL (xs ++ [y]) = [y] := by
  unfold lastL
  rw [List.length_append, List.length_singleton, Nat.add_sub_cancel, List.drop_left]
theorem way_first : ∀ {rs ts : List Int}, Fit rs ts → ((wayR rs (List.replicate rs.length 0) ts).map fun x => x.1).take 1 = lastL (flM 0 ts.reverse)
  | _, _, .nil => rfl
  | r :: rs, t :: ts, .cons a b h => by
    have ih := way_first h
    rw [List.length_cons, List.replicate_succ, List.reverse_cons, flM_snoc]
    unfold wayR
    by_cases c : 0 < t
    · rw [if_pos c, if_pos c, lastL_snoc, List.length_reverse, Nat.zero_add, h.len]
      rfl
    · rw [if_neg c, if_neg (by omega), if_neg c, List.append_nil]
      exact ih
theorem wayB_first {rs ts : List Int} (hf : Fit rs ts) : ((wayB rs ts).map fun x => x.1).take 1 = lastL (flM 0 ts) := by
  have := way_first (fit_rev hf)
  rw [List.length_reverse, List.reverse_reverse] at this
  unfold wayB wayM reps
  rw [List.reverse_replicate]
  exact this
end DP


namespace WK
open PySem PySem.Spec PyProof.Rows L2 ZX DL RT DP
theorem minGap_is {rs ls ts : List Int} {g : Nat} (hg : g ≤ rs.length) (h1 : ∀ i, i ≤ rs.length → sizeM (gapW rs ls ts g) ≤ sizeM (gapW rs ls ts i)) (h2 : ∀ i, i < g → sizeM (gapW rs ls ts g) < sizeM (gapW rs ls ts i)) : minGap rs ls ts = g ∧ minI (gapNs rs ls ts) = sizeM (gapW rs ls ts g) := by
  obtain ⟨m1, m2, m3⟩ := minGap_ok rs ls ts
  have gt : ∀ i, i ≤ rs.length → (gapNs rs ls ts)[i]? = some (sizeM (gapW rs ls ts i)) := fun i hi => by
    unfold gapNs gapWs
    rw [List.getElem?_map, List.getElem?_map, List.getElem?_range (by omega)]
    rfl
  have mm := minI_mem (gapNs_ne rs ls ts)
  have a := mm.2 _ (List.mem_of_getElem? (gt g hg))
  have b := h1 _ m2
  have e : sizeM (gapW rs ls ts g) = minI (gapNs rs ls ts) := by omega
  refine ⟨?_, e.symm⟩
  have c := (ixOf_get m1).2
  rcases Nat.lt_trichotomy (minGap rs ls ts) g with h | h | h
  · have := h2 _ h
    omega
  · exact h
  · exact absurd e (c g _ h (gt g hg))
/-! ## size -/
def sz (w : List Tr) : Int := sizeM (trW w)
theorem sz_cons (x : Tr) (w : List Tr) : sz (x :: w) = x.2.2 + sz w := sizeM_cons _ _
theorem sz_nil : sz [] = 0 := rfl
theorem sizeM_tur (w : Wd') : sizeM (turW w) = sizeM w := by
  unfold sizeM turW
  rw [List.map_map]
  rfl
theorem zsum (n : Nat) : (List.replicate n (0 : Int)).sum = 0 := by
  induction n with
  | zero => rfl
  | succ n ih => rw [List.replicate_succ, List.sum_cons, ih]; rfl
theorem sz_low : ∀ {rs ls ts : List Int}, Fit rs ls → Fit rs ts → ts.sum - ls.sum ≤ sz (wayR rs ls ts) ∧ ls.sum - ts.sum ≤ sz (wayR rs ls ts)
  | _, _, _, .nil, .nil => by decide
  | r :: rs, l :: ls, t :: ts, .cons a b h1, .cons c d h2 => by
    have s1 := fit_sum h1
    have s2 := sum_nn (fit_nn h1).1
    have s3 := sum_nn (fit_nn h2).1
    rw [List.sum_cons, List.sum_cons]
    unfold wayR
    by_cases ca : l < t
    · have i := sz_low (rs := rs) (ls := rs) (ts := ts) (fit_full (fit_nn h1).2) h2
      rw [if_pos ca, sz_cons]
      simp only
      omega
    · rw [if_neg ca]
      by_cases cb : t < l
      · have i := sz_low (rs := rs) (ls := List.replicate rs.length 0) (ts := ts) (fit_zero (fit_nn h1).2) h2
        rw [zsum] at i
        rw [if_pos cb, sz_cons]
        simp only
        omega
      · rw [if_neg cb]
        have i := sz_low (rs := rs) (ls := ls) (ts := ts) h1 h2
        omega
theorem sizeW (rs ls ts : List Int) : sizeM (wayW rs ls ts) = sz (wayR rs.reverse ls.reverse ts.reverse) := rfl
theorem sizeWR (rs ls ts : List Int) : sizeM (wayWR rs ls ts) = sz (wayR rs ls ts) := by
  unfold wayWR
  rw [sizeM_tur, sizeW, List.reverse_reverse, List.reverse_reverse, List.reverse_reverse]
theorem gap_low {rs ls ts : List Int} (h1 : Fit rs ls) (h2 : Fit rs ts) (g : Nat) : ts.sum - ls.sum ≤ sizeM (gapW rs ls ts g) ∧ ls.sum - ts.sum ≤ sizeM (gapW rs ls ts g) := by
  unfold gapW
  rw [sizeM_cat, sizeW, sizeWR]
  have a := sz_low (fit_rev (fit_tk g h1)) (fit_rev (fit_tk g h2))
  have b := sz_low (fit_dr g h1) (fit_dr g h2)
  rw [sum_rev, sum_rev] at a
  have e1 : (ls.take g).sum + (ls.drop g).sum = ls.sum := by rw [← List.sum_append, List.take_append_drop]
  have e2 : (ts.take g).sum + (ts.drop g).sum = ts.sum := by rw [← List.sum_append, List.take_append_drop]
  omega
/-! ## ways that are known -/
theorem way_same : ∀ (rs ls : List Int), wayR rs ls ls = []
  | [], _ => by simp [wayR]
  | r :: rs, [] => by simp [wayR]
  | r :: rs, l :: ls => by
    unfold wayR
    rw [if_neg (by omega), if_neg (by omega)]
    exact way_same rs ls
def runW (s : Bool) (n : Int) : Wd' := if 0 < n then [((true, s), n)] else []
def bg1 (s : Bool) (r : Int) : Int := if s = true then 0 else r
def bg (s : Bool) (rs : List Int) : List Int := rs.map (bg1 s)
theorem bg_t (rs : List Int) : bg true rs = List.replicate rs.length 0 := by
  unfold bg
  exact List.map_const' ..
theorem bg_f (rs : List Int) : bg false rs = rs := by
  unfold bg
  exact List.map_id' ..
theorem bg_len (s : Bool) (rs : List Int) : (bg s rs).length = rs.length := List.length_map ..
/-- from one end to the other -/
theorem way_over {rs : List Int} (h : ∀ r ∈ rs, 1 ≤ r) (s : Bool) : trW (wayR rs (bg s rs) (bg (!s) rs)) = runW s rs.sum := by
  cases rs with
  | nil => cases s <;> rfl
  | cons r rs =>
    have r1 := h r (List.mem_cons_self ..)
    have r2 := sum_nn (xs := rs) fun x hx => by have := h x (List.mem_cons_of_mem _ hx); omega
    cases s with
    | true =>
      have e1 : bg true (r :: rs) = 0 :: List.replicate rs.length 0 := by rw [bg_t]; rfl
      show trW (wayR (r :: rs) (bg true (r :: rs)) (bg false (r :: rs))) = _
      rw [e1, bg_f]
      unfold wayR runW
      rw [if_pos (by omega), way_same, zsum, List.sum_cons, if_pos (by omega)]
      show [((true, true), rs.sum - 0 + r - 0)] = _
      rw [show rs.sum - 0 + r - 0 = r + rs.sum by omega]
    | false =>
      have e1 : bg true (r :: rs) = 0 :: List.replicate rs.length 0 := by rw [bg_t]; rfl
      show trW (wayR (r :: rs) (bg false (r :: rs)) (bg true (r :: rs))) = _
      rw [e1, bg_f]
      unfold wayR runW
      rw [if_neg (by omega), if_pos (by omega), way_same, List.sum_cons, if_pos (by omega)]
      show [((true, false), rs.sum + r - 0)] = _
      rw [show rs.sum + r - 0 = r + rs.sum by omega]
def e1 (s : Bool) (r : Int) : Int := if s = true then 1 else r - 1
def lw (s : Bool) (n : Int) : Wd' := ((true, s), n + 1) :: runW (!s) n
theorem lone_R (s : Bool) {r : Int} {B : List Int} (h : ∀ r ∈ B, 1 ≤ r) : ∀ A : List Int, trW (wayR (A ++ r :: B) (bg s (A ++ r :: B)) (bg s A ++ e1 s r :: bg s B)) = lw s B.sum
  | a :: A => by
    have ih := lone_R s (r := r) h A
    show trW (wayR (a :: (A ++ r :: B)) (bg1 s a :: bg s (A ++ r :: B)) (bg1 s a :: (bg s A ++ e1 s r :: bg s B))) = _
    unfold wayR
    rw [if_neg (by omega), if_neg (by omega)]
    exact ih
  | [] => by
    show trW (wayR (r :: B) (bg1 s r :: bg s B) (e1 s r :: bg s B)) = _
    unfold wayR lw
    have o := way_over h (!s)
    cases s with
    | true =>
      have c1 : bg1 true r < e1 true r := by
        show (0 : Int) < 1
        decide
      rw [if_pos c1]
      have o' : trW (wayR B (bg false B) (bg true B)) = runW false B.sum := o
      rw [bg_f] at o'
      show ((true, true), B.sum - (bg true B).sum + e1 true r - bg1 true r) :: trW (wayR B B (bg true B)) = _
      rw [o', bg_t, zsum, show B.sum - 0 + e1 true r - bg1 true r = B.sum + 1 by unfold e1 bg1; simp]
      rfl
    | false =>
      have c1 : e1 false r < bg1 false r := by
        show r - 1 < r
        omega
      rw [if_neg (by omega), if_pos c1]
      have o' : trW (wayR B (bg true B) (bg false B)) = runW true B.sum := o
      rw [bg_t] at o'
      show ((true, false), (bg false B).sum + bg1 false r - e1 false r) :: trW (wayR B (List.replicate B.length 0) (bg false B)) = _
      rw [o', bg_f, show B.sum + bg1 false r - e1 false r = B.sum + 1 by show B.sum + r - (r - 1) = _; omega]
      rfl
theorem lw_size {s : Bool} {n : Int} (h : 0 ≤ n) : sizeM (lw s n) = 2 * n + 1 := by
  unfold lw runW
  rw [sizeM_cons]
  split
  · rw [sizeM_cons]
    show n + 1 + (n + 0) = _
    omega
  · show n + 1 + 0 = _
    omega
theorem run_size {s : Bool} {n : Int} (h : 0 ≤ n) : sizeM (runW s n) = n := by
  unfold runW
  split
  · rw [sizeM_cons]
    show n + 0 = n
    omega
  · show (0 : Int) = n
    omega
theorem minI_is {rs ls ts : List Int} {v : Int} (g : Nat) (hg : g ≤ rs.length) (h0 : sizeM (gapW rs ls ts g) = v) (h1 : ∀ i, v ≤ sizeM (gapW rs ls ts i)) : minI (gapNs rs ls ts) = v := by
  have mm := minI_mem (gapNs_ne rs ls ts)
  have gt : (gapNs rs ls ts)[g]? = some (sizeM (gapW rs ls ts g)) := by
    unfold gapNs gapWs
    rw [List.getElem?_map, List.getElem?_map, List.getElem?_range (by omega)]
    rfl
  have a := mm.2 _ (List.mem_of_getElem? gt)
  obtain ⟨m1, m2, m3⟩ := minGap_ok rs ls ts
  have b := h1 (minGap rs ls ts)
  omega
def hw (h s : Bool) (n : Int) : Wd' := ((h, s), n + 1) :: (if 0 < n then [((h, !s), n)] else [])
theorem lw_hw (s : Bool) (n : Int) : lw s n = hw true s n := rfl
theorem tur_hw (s : Bool) (n : Int) : turW (lw s n) = hw false s n := by
  unfold lw hw runW
  split <;> rfl
theorem hw_size {h s : Bool} {n : Int} (h0 : 0 ≤ n) : sizeM (hw h s n) = 2 * n + 1 := by
  have e := lw_size (s := s) h0
  cases h with
  | true => exact e
  | false => rw [← tur_hw, sizeM_tur, e]
def lone (s : Bool) (A : List Int) (r : Int) (B : List Int) : List Int := bg s A ++ e1 s r :: bg s B
theorem wayW_same (rs ls : List Int) : wayW rs ls ls = [] := by
  unfold wayW wayM
  rw [way_same]
  rfl
theorem wayWR_same (rs ls : List Int) : wayWR rs ls ls = [] := by
  unfold wayWR
  rw [wayW_same]
  rfl
theorem wayWR_w (rs ls ts : List Int) : wayWR rs ls ts = turW (trW (wayR rs ls ts)) := by
  unfold wayWR wayW wayM
  rw [List.reverse_reverse, List.reverse_reverse, List.reverse_reverse]
theorem bg_app (s : Bool) (A B : List Int) : bg s (A ++ B) = bg s A ++ bg s B := List.map_append ..
theorem bg_cons (s : Bool) (r : Int) (B : List Int) : bg s (r :: B) = bg1 s r :: bg s B := rfl
theorem lone_lo {A B : List Int} {r : Int} {s : Bool} (h : ∀ r ∈ B, 1 ≤ r) {g : Nat} (hg : g ≤ A.length) : gapW (A ++ r :: B) (bg s (A ++ r :: B)) (lone s A r B) g = hw false s B.sum := by
  unfold gapW lone
  have l1 : (bg s A).length = A.length := bg_len s A
  rw [bg_app, bg_cons, List.take_append_of_le_length hg, List.take_append_of_le_length (by omega), List.take_append_of_le_length (by omega), wayW_same, List.drop_append_of_le_length hg, List.drop_append_of_le_length (by omega), List.drop_append_of_le_length (by omega), wayWR_w]
  have e2 : (bg s A).drop g = bg s (A.drop g) := (List.map_drop ..).symm
  have e := lone_R s (r := r) h (A.drop g)
  rw [bg_app, bg_cons] at e
  rw [e2, e, tur_hw]
  rfl
theorem lone_hi {A B : List Int} {r : Int} {s : Bool} (h : ∀ r ∈ A, 1 ≤ r) (j : Nat) : gapW (A ++ r :: B) (bg s (A ++ r :: B)) (lone s A r B) (A.length + 1 + j) = hw true s A.sum := by
  have tk : ∀ {X Y : List Int} (y : Int), X.length = A.length → (X ++ y :: Y).take (A.length + 1 + j) = X ++ y :: Y.take j ∧ (X ++ y :: Y).drop (A.length + 1 + j) = Y.drop j := fun {X Y} y hX => by
    have e : X ++ y :: Y = (X ++ [y]) ++ Y := by simp
    have l : (X ++ [y]).length = A.length + 1 := by simp [hX]
    rw [e, ← l]
    exact ⟨by rw [List.take_length_add_append]; simp, by rw [List.drop_length_add_append]⟩
  have l1 : (bg s A).length = A.length := bg_len s A
  unfold gapW lone
  rw [bg_app, bg_cons, (tk r rfl).1, (tk r rfl).2, (tk (X := bg s A) (Y := bg s B) (bg1 s r) l1).1, (tk (X := bg s A) (Y := bg s B) (bg1 s r) l1).2, (tk (X := bg s A) (Y := bg s B) (e1 s r) l1).1, (tk (X := bg s A) (Y := bg s B) (e1 s r) l1).2, wayWR_same, List.append_nil]
  have rv : ∀ X : List Int, (bg s X).reverse = bg s X.reverse := fun X => (List.map_reverse ..).symm
  have tkb : (bg s B).take j = bg s (B.take j) := (List.map_take ..).symm
  have e := lone_R s (r := r) (B := A.reverse) (fun x hx => h x (List.mem_reverse.mp hx)) (B.take j).reverse
  rw [sum_rev, bg_app, bg_cons, lw_hw] at e
  unfold wayW wayM
  rw [tkb]
  simp only [List.reverse_append, List.reverse_cons, List.append_assoc, List.singleton_append, List.cons_append, List.nil_append, rv]
  exact e
theorem lone_few {A B : List Int} {r : Int} {s : Bool} (hA : ∀ r ∈ A, 1 ≤ r) (hB : ∀ r ∈ B, 1 ≤ r) :
    (B.sum ≤ A.sum → minGap (A ++ r :: B) (bg s (A ++ r :: B)) (lone s A r B) = 0 ∧ minI (gapNs (A ++ r :: B) (bg s (A ++ r :: B)) (lone s A r B)) = 2 * B.sum + 1 ∧ gapW (A ++ r :: B) (bg s (A ++ r :: B)) (lone s A r B) 0 = hw false s B.sum) ∧
    (A.sum < B.sum → minGap (A ++ r :: B) (bg s (A ++ r :: B)) (lone s A r B) = A.length + 1 ∧ minI (gapNs (A ++ r :: B) (bg s (A ++ r :: B)) (lone s A r B)) = 2 * A.sum + 1 ∧ gapW (A ++ r :: B) (bg s (A ++ r :: B)) (lone s A r B) (A.length + 1) = hw true s A.sum) := by
  have a0 := sum_nn (xs := A) fun x hx => by have := hA x hx; omega
  have b0 := sum_nn (xs := B) fun x hx => by have := hB x hx; omega
  have lo : ∀ i, i ≤ A.length → sizeM (gapW (A ++ r :: B) (bg s (A ++ r :: B)) (lone s A r B) i) = 2 * B.sum + 1 := fun i hi => by rw [lone_lo hB hi, hw_size b0]
  have hi : ∀ i, A.length < i → sizeM (gapW (A ++ r :: B) (bg s (A ++ r :: B)) (lone s A r B) i) = 2 * A.sum + 1 := fun i hi => by
    obtain ⟨j, rfl⟩ : ∃ j, i = A.length + 1 + j := ⟨i - (A.length + 1), by omega⟩
    rw [lone_hi hA j, hw_size a0]
  refine ⟨fun c => ?_, fun c => ?_⟩
  · have m := minGap_is (rs := A ++ r :: B) (ls := bg s (A ++ r :: B)) (ts := lone s A r B) (g := 0) (Nat.zero_le _) (fun i _ => by
      rw [lo 0 (Nat.zero_le _)]
      by_cases ci : i ≤ A.length
      · rw [lo i ci]; omega
      · rw [hi i (by omega)]; omega) (fun i h => by omega)
    rw [lo 0 (Nat.zero_le _)] at m
    exact ⟨m.1, m.2, lone_lo hB (Nat.zero_le _)⟩
  · have m := minGap_is (rs := A ++ r :: B) (ls := bg s (A ++ r :: B)) (ts := lone s A r B) (g := A.length + 1) (by simp) (fun i _ => by
      rw [hi (A.length + 1) (by omega)]
      by_cases ci : i ≤ A.length
      · rw [lo i ci]; omega
      · rw [hi i (by omega)]; omega) (fun i h => by
      rw [hi (A.length + 1) (by omega), lo i (by omega)]
      omega)
    rw [hi (A.length + 1) (by omega)] at m
    exact ⟨m.1, m.2, lone_hi hA 0⟩
/-! ## the ends -/
theorem fit_bg {rs : List Int} (h : ∀ r ∈ rs, 1 ≤ r) (s : Bool) : Fit rs (bg s rs) := by
  have h' : ∀ r ∈ rs, 0 ≤ r := fun r hr => by have := h r hr; omega
  cases s with
  | true => rw [bg_t]; exact fit_zero h'
  | false => rw [bg_f]; exact fit_full h'
theorem bg_sum (s : Bool) (rs : List Int) : (bg s rs).sum = if s = true then 0 else rs.sum := by
  cases s with
  | true => rw [bg_t, zsum]; rfl
  | false => rw [bg_f]; rfl
/-- full ahead of a gap, bare behind it -/
theorem step_few {A B : List Int} (hA : ∀ r ∈ A, 1 ≤ r) (hB : ∀ r ∈ B, 1 ≤ r) : minI (gapNs (A ++ B) (bg true (A ++ B)) (bg false A ++ bg true B)) = A.sum ∧ minI (gapNs (A ++ B) (bg false (A ++ B)) (bg false A ++ bg true B)) = B.sum := by
  have a0 := sum_nn (xs := A) fun x hx => by have := hA x hx; omega
  have b0 := sum_nn (xs := B) fun x hx => by have := hB x hx; omega
  have hAB : ∀ r ∈ A ++ B, 1 ≤ r := fun r hr => (List.mem_append.mp hr).elim (hA r) (hB r)
  have ft : Fit (A ++ B) (bg false A ++ bg true B) := fit_append (fit_bg hA false) (fit_bg hB true)
  have sm : (bg false A ++ bg true B).sum = A.sum := by
    rw [List.sum_append, bg_sum, bg_sum]
    simp
  have la : (bg true A).length = A.length := bg_len _ _
  have lb : (bg false A).length = A.length := bg_len _ _
  have rv : ∀ s (X : List Int), (bg s X).reverse = bg s X.reverse := fun s X => (List.map_reverse ..).symm
  refine ⟨minI_is A.length (by simp) ?_ fun i => ?_, minI_is A.length (by simp) ?_ fun i => ?_⟩
  · unfold gapW
    rw [bg_app, List.take_left, List.drop_left, take_cat la, take_cat lb, List.drop_left' la, List.drop_left' lb, wayWR_same, List.append_nil]
    unfold wayW wayM
    have o : trW (wayR A.reverse (bg true A.reverse) (bg false A.reverse)) = runW true A.reverse.sum := way_over (s := true) (fun r hr => hA r (List.mem_reverse.mp hr))
    rw [rv, rv, o, run_size (by rw [sum_rev]; exact a0), sum_rev]
  · have := (gap_low (fit_bg hAB true) ft i).1
    rw [sm, bg_sum] at this
    simp only [if_true] at this
    omega
  · unfold gapW
    have o : trW (wayR B (bg false B) (bg true B)) = runW false B.sum := way_over (s := false) hB
    rw [bg_app, List.take_left, List.drop_left, take_cat lb, take_cat lb, List.drop_left' lb, List.drop_left' lb, wayW_same, List.nil_append, wayWR_w, o, sizeM_tur, run_size b0]
  · have := (gap_low (fit_bg hAB false) ft i).2
    rw [sm, bg_sum, List.sum_append] at this
    simp only [Bool.false_eq_true, if_false] at this
    omega
theorem skip_way : ∀ (M : List Int) (z q : Int), 0 < q → wayR (M ++ [z]) (List.replicate (M.length + 1) 0) (List.replicate M.length 0 ++ [q]) = [(0, true, q)]
  | [], z, q, h => by
    show wayR [z] [0] [q] = _
    unfold wayR
    rw [if_pos h]
    show [(0, true, (0 : Int) - 0 + q - 0)] = _
    rw [show (0 : Int) - 0 + q - 0 = q by omega]
  | m :: M, z, q, h => by
    have ih := skip_way M z q h
    show wayR (m :: (M ++ [z])) (0 :: List.replicate (M.length + 1) 0) (0 :: (List.replicate M.length 0 ++ [q])) = _
    unfold wayR
    rw [if_neg (by omega), if_neg (by omega)]
    exact ih
theorem ends_few {a z l q : Int} {M : List Int} (hM : ∀ r ∈ M, 1 ≤ r) (hm : M ≠ []) (l1 : 1 ≤ l) (l2 : l ≤ a) (q1 : 1 ≤ q) (q2 : q ≤ z) : minGap (a :: (M ++ [z])) (bg true (a :: (M ++ [z]))) (l :: (List.replicate M.length 0 ++ [q])) = 1 ∧ gapW (a :: (M ++ [z])) (bg true (a :: (M ++ [z]))) (l :: (List.replicate M.length 0 ++ [q])) 1 = [((true, true), l), ((false, true), q)] := by
  have hz : bg true (M ++ [z]) = List.replicate (M.length + 1) 0 := by rw [bg_t, List.length_append]; rfl
  have m0 : ∀ r ∈ M, 0 ≤ r := fun r hr => by have := hM r hr; omega
  have mp : 1 ≤ M.sum := by
    cases M with
    | nil => exact absurd rfl hm
    | cons m M =>
      have := hM m (List.mem_cons_self ..)
      have := sum_nn (xs := M) fun x hx => m0 x (List.mem_cons_of_mem _ hx)
      rw [List.sum_cons]
      omega
  have ft2 : Fit (M ++ [z]) (List.replicate M.length 0 ++ [q]) := fit_append (fit_zero m0) (fit_one (by omega) q2)
  have ft : Fit (a :: (M ++ [z])) (l :: (List.replicate M.length 0 ++ [q])) := .cons (by omega) l2 ft2
  have sm : (List.replicate M.length 0 ++ [q]).sum = q := by rw [sum_snoc, zsum, Int.zero_add]
  have all : ∀ r ∈ a :: (M ++ [z]), 1 ≤ r := fun r hr => by
    rcases List.mem_cons.mp hr with rfl | hr
    · omega
    · rcases List.mem_append.mp hr with hr | hr
      · exact hM r hr
      · rw [List.mem_singleton.mp hr]
        omega
  have w1 : gapW (a :: (M ++ [z])) (bg true (a :: (M ++ [z]))) (l :: (List.replicate M.length 0 ++ [q])) 1 = [((true, true), l), ((false, true), q)] := by
    have e : gapW (a :: (M ++ [z])) (bg true (a :: (M ++ [z]))) (l :: (List.replicate M.length 0 ++ [q])) 1 = wayW [a] [0] [l] ++ wayWR (M ++ [z]) (bg true (M ++ [z])) (List.replicate M.length 0 ++ [q]) := rfl
    rw [e, wayWR_w, hz, skip_way M z q (by omega)]
    have e2 : wayW [a] [0] [l] = [((true, true), l)] := by
      show trW (wayR [a] [0] [l]) = _
      unfold wayR
      rw [if_pos (by omega)]
      show [((true, true), (0 : Int) - 0 + l - 0)] = _
      rw [show (0 : Int) - 0 + l - 0 = l by omega]
    rw [e2]
    rfl
  have s1 : sizeM (gapW (a :: (M ++ [z])) (bg true (a :: (M ++ [z]))) (l :: (List.replicate M.length 0 ++ [q])) 1) = l + q := by
    rw [w1]
    show l + (q + 0) = _
    omega
  refine ⟨(minGap_is (by simp) (fun i _ => ?_) fun i hi => ?_).1, w1⟩
  · have := (gap_low (fit_bg all true) ft i).1
    rw [List.sum_cons, sm, bg_sum] at this
    simp only [if_true] at this
    rw [s1]
    omega
  · obtain rfl : i = 0 := by omega
    rw [s1, gapW_zero, sizeWR]
    have e : bg true (a :: (M ++ [z])) = 0 :: List.replicate (M.length + 1) 0 := by rw [bg_cons, hz]; rfl
    rw [e]
    unfold wayR
    rw [if_pos (by omega), sz_cons]
    have lw := (sz_low (fit_full (rs := M ++ [z]) fun r hr => by have := all r (List.mem_cons_of_mem _ hr); omega) ft2).2
    rw [sm, sum_snoc] at lw
    simp only [zsum, sum_snoc]
    omega
end WK

/-! the fewest breaths as a distance -/
namespace WK
open PySem PySem.Spec PyProof.Rows L2 ZX DL RT DP
theorem szc (r l t : Int) (rs ls ts : List Int) : sz (wayR (r :: rs) (l :: ls) (t :: ts)) = if l < t then rs.sum - ls.sum + t - l + sz (wayR rs rs ts) else if t < l then ls.sum + l - t + sz (wayR rs (List.replicate rs.length 0) ts) else sz (wayR rs ls ts) := by
  conv => lhs; unfold wayR
  split
  · rw [sz_cons]
  · split
    · rw [sz_cons]
    · rfl
theorem way_tri : ∀ {rs ls ts : List Int}, Fit rs ls → Fit rs ts → sz (wayR rs ls ts) ≤ ls.sum + sz (wayR rs (List.replicate rs.length 0) ts) ∧ sz (wayR rs ls ts) ≤ rs.sum - ls.sum + sz (wayR rs rs ts)
  | _, _, _, .nil, .nil => by decide
  | r :: rs, l :: ls, t :: ts, .cons a b h1, .cons c d h2 => by
    have i1 := way_tri h1 h2
    have i2 := way_tri (fit_zero (fit_nn h1).2) h2
    have i3 := way_tri (fit_full (fit_nn h1).2) h2
    have s1 := fit_sum h1
    have s2 := sum_nn (fit_nn h1).1
    have e : List.replicate (r :: rs).length (0 : Int) = 0 :: List.replicate rs.length 0 := rfl
    rw [zsum] at i2
    rw [e, szc, szc, szc, List.sum_cons, List.sum_cons, zsum]
    constructor
    · (repeat' split) <;> omega
    · (repeat' split) <;> omega
theorem full_eq : ∀ {rs ls : List Int}, Fit rs ls → ls.sum = rs.sum → ls = rs
  | _, _, .nil, _ => rfl
  | r :: rs, l :: ls, .cons a b h, e => by
    have s := fit_sum h
    rw [List.sum_cons, List.sum_cons] at e
    rw [full_eq h (by omega), show l = r by omega]
theorem zero_eq : ∀ {rs ls : List Int}, Fit rs ls → ls.sum = 0 → ls = List.replicate rs.length 0
  | _, _, .nil, _ => rfl
  | r :: rs, l :: ls, .cons a b h, e => by
    have s := sum_nn (fit_nn h).1
    rw [List.sum_cons] at e
    rw [zero_eq h (by omega), show l = 0 by omega]
    rfl
theorem capT_full {s : Bool} {rs ls : List Int} (h : Fit rs ls) (e : capT s rs ls = 0) : ls = fullOf s rs := by
  unfold capT at e
  unfold fullOf
  cases s with
  | true =>
    simp only [if_true] at e ⊢
    exact full_eq h (by omega)
  | false =>
    simp only [Bool.false_eq_true, if_false] at e ⊢
    exact zero_eq h e
theorem way_one {s : Bool} : ∀ {rs ls ts : List Int}, Fit rs ls → Fit rs ts → sz (wayR rs ls ts) ≤ 1 + sz (wayR rs (runR s rs ls 1).1 ts)
  | _, _, _, .nil, .nil => by
    show sz (wayR [] [] []) ≤ 1 + sz (wayR [] [] [])
    decide
  | r :: rs, l :: ls, t :: ts, .cons a b h1, .cons c d h2 => by
    have i := way_one (s := s) h1 h2
    have t1 := way_tri h1 h2
    have t2 := way_tri (fit_zero (fit_nn h1).2) h2
    have t3 := way_tri (fit_full (fit_nn h1).2) h2
    have q1 := runR_rest (s := s) (n := 1) h1 (by decide)
    have q2 := runR_sum (s := s) (n := 1) h1
    have q3 := (runR_fit (s := s) (n := 1) h1 (by decide)).1
    have s1 := fit_sum h1
    have s2 := sum_nn (fit_nn h1).1
    have c0 := capT_nn (s := s) h1
    rw [zsum] at t2
    show sz (wayR (r :: rs) (l :: ls) (t :: ts)) ≤ 1 + sz (wayR (r :: rs) (put1 s l (min (runR s rs ls 1).2 (cap s r l)) :: (runR s rs ls 1).1) (t :: ts))
    by_cases hc : capT s rs ls = 0
    · have e1 := capT_full h1 hc
      rw [hc] at q1
      have q1' : (runR s rs ls 1).2 = 1 := by omega
      rw [q1'] at q2
      have e2 : (runR s rs ls 1).1 = fullOf s rs := by
        refine capT_full q3 ?_
        unfold capT at hc ⊢
        rw [q2]
        unfold put1
        cases s <;> simp at hc ⊢ <;> omega
      rw [q1', e2]
      rw [e1]
      rw [szc, szc]
      unfold cap put1 fullOf
      cases s with
      | true =>
        simp only [if_true]
        (repeat' split) <;> omega
      | false =>
        simp only [Bool.false_eq_true, if_false, zsum]
        (repeat' split) <;> omega
    · have q1' : (runR s rs ls 1).2 = 0 := by omega
      have c1 := cap_nn (s := s) a b
      have e : put1 s l (min (runR s rs ls 1).2 (cap s r l)) = l := by
        rw [q1', show min 0 (cap s r l) = 0 by omega]
        unfold put1
        cases s <;> simp
      rw [e, szc, szc]
      rw [q1'] at q2
      unfold put1 at q2
      cases s with
      | true =>
        simp only [if_true] at q2
        (repeat' split) <;> omega
      | false =>
        simp only [Bool.false_eq_true, if_false] at q2
        (repeat' split) <;> omega
theorem fullOf_cons (s : Bool) (r : Int) (A : List Int) : fullOf s (r :: A) = (if s = true then r else 0) :: fullOf s A := by
  unfold fullOf
  cases s <;> rfl
theorem zip_one {s : Bool} : ∀ {B b w : List Int} (A y : List Int), Fit B b → Fit B w → ∃ k, k ≤ B.length ∧ sz (wayR ((B.take k).reverse ++ A) ((b.take k).reverse ++ fullOf s A) ((w.take k).reverse ++ y)) + sz (wayR (B.drop k) (b.drop k) (w.drop k)) ≤ 1 + sz (wayR A (fullOf s A) y) + sz (wayR B (runL s B b 1).1 w)
  | _, _, _, A, y, .nil, .nil => ⟨0, Nat.le_refl _, by
    show sz (wayR A (fullOf s A) y) + sz (wayR [] [] []) ≤ 1 + sz (wayR A (fullOf s A) y) + sz (wayR [] [] [])
    omega⟩
  | r :: B, l :: b, t :: w, A, y, .cons a1 a2 h1, .cons c1 c2 h2 => by
    have t1 := way_tri h1 h2
    have t2 := way_tri (fit_zero (fit_nn h1).2) h2
    have t3 := way_tri (fit_full (fit_nn h1).2) h2
    have q1 := runL_rest (s := s) (n := 1) h1 (by decide)
    have q2 := runL_sum (s := s) (n := 1) h1
    have s1 := fit_sum h1
    have s2 := sum_nn (fit_nn h1).1
    have k0 := capT_nn (s := s) h1
    have c0 := cap_nn (s := s) a1 a2
    rw [zsum] at t2
    have er : (runL s (r :: B) (l :: b) 1).1 = put1 s l (min 1 (cap s r l)) :: (runL s B b (1 - min 1 (cap s r l))).1 := rfl
    rw [er]
    by_cases hc : cap s r l = 0
    · rw [hc, show min 1 (0 : Int) = 0 by decide, show (1 : Int) - 0 = 1 by decide]
      have ep : put1 s l 0 = l := by
        unfold put1
        cases s <;> simp
      rw [ep]
      by_cases ht : t = l
      · subst ht
        obtain ⟨k, hk, h⟩ := zip_one (s := s) (r :: A) (t :: y) h1 h2
        have ef : fullOf s (r :: A) = t :: fullOf s A := by
          rw [fullOf_cons]
          unfold cap at hc
          cases s <;> simp at hc ⊢ <;> omega
        refine ⟨k + 1, by simpa using hk, ?_⟩
        rw [ef] at h
        have z1 := szc r t t A (fullOf s A) y
        rw [if_neg (by omega), if_neg (by omega)] at z1
        have z2 := szc r t t B (runL s B b 1).1 w
        rw [if_neg (by omega), if_neg (by omega)] at z2
        rw [z2]
        rw [z1] at h
        rw [List.take_succ_cons, List.take_succ_cons, List.take_succ_cons, List.drop_succ_cons, List.drop_succ_cons, List.drop_succ_cons, List.reverse_cons, List.reverse_cons, List.reverse_cons, List.append_assoc, List.append_assoc, List.append_assoc]
        exact h
      · refine ⟨0, Nat.zero_le _, ?_⟩
        show sz (wayR A (fullOf s A) y) + sz (wayR (r :: B) (l :: b) (t :: w)) ≤ _
        rw [szc, szc, q2]
        unfold cap at hc
        unfold put1
        cases s with
        | true =>
          simp only [if_true] at hc ⊢
          (repeat' split) <;> omega
        | false =>
          simp only [Bool.false_eq_true, if_false] at hc ⊢
          (repeat' split) <;> omega
    · rw [show min 1 (cap s r l) = 1 by omega, show (1 : Int) - 1 = 0 by decide, runL_zero h1]
      by_cases ht : t = put1 s l 1
      · refine ⟨1, by simp, ?_⟩
        show sz (wayR (r :: A) (l :: fullOf s A) (t :: y)) + sz (wayR B b w) ≤ _
        have z2 := szc r (put1 s l 1) t B b w
        rw [if_neg (by omega), if_neg (by omega)] at z2
        rw [z2, szc]
        unfold put1 at ht
        unfold fullOf
        cases s with
        | true =>
          simp only [if_true] at ht ⊢
          rw [if_pos (by omega)]
          omega
        | false =>
          simp only [Bool.false_eq_true, if_false] at ht ⊢
          rw [if_neg (by omega), if_pos (by omega), zsum]
          omega
      · refine ⟨0, Nat.zero_le _, ?_⟩
        show sz (wayR A (fullOf s A) y) + sz (wayR (r :: B) (l :: b) (t :: w)) ≤ _
        rw [szc, szc]
        unfold put1 at ht ⊢
        cases s with
        | true =>
          simp only [if_true] at ht ⊢
          (repeat' split) <;> omega
        | false =>
          simp only [Bool.false_eq_true, if_false] at ht ⊢
          (repeat' split) <;> omega
/-! ## of both hands -/
abbrev few (rs ls ts : List Int) : Int := minI (gapNs rs ls ts)
theorem gapSz (rs ls ts : List Int) (g : Nat) : sizeM (gapW rs ls ts g) = sz (wayR (rs.take g).reverse (ls.take g).reverse (ts.take g).reverse) + sz (wayR (rs.drop g) (ls.drop g) (ts.drop g)) := by
  unfold gapW
  rw [sizeM_cat, sizeW, sizeWR]
theorem few_le {rs ls ts : List Int} {g : Nat} (hg : g ≤ rs.length) : few rs ls ts ≤ sizeM (gapW rs ls ts g) := by
  refine (minI_mem (gapNs_ne rs ls ts)).2 _ (List.mem_of_getElem? (i := g) ?_)
  unfold gapNs gapWs
  rw [List.getElem?_map, List.getElem?_map, List.getElem?_range (by omega)]
  rfl
theorem few_ex (rs ls ts : List Int) : ∃ g, g ≤ rs.length ∧ sizeM (gapW rs ls ts g) = few rs ls ts := ⟨_, (minGap_ok rs ls ts).2.1, (minGap_ok rs ls ts).2.2⟩
theorem few_left {s : Bool} {rs ls ts : List Int} (h1 : Fit rs ls) (h2 : Fit rs ts) : few rs ls ts ≤ 1 + few rs (runL s rs ls 1).1 ts := by
  obtain ⟨g, hg, e⟩ := few_ex rs (runL s rs ls 1).1 ts
  have l1 := h1.len
  have l2 := h2.len
  have fa := fit_tk g h1
  have fb := fit_dr g h1
  have ga := fit_tk g h2
  have gb := fit_dr g h2
  have ap := runL_app (s := s) (rs.take g) (ls.take g) (rs.drop g) (ls.drop g) 1 fa.len
  rw [List.take_append_drop, List.take_append_drop] at ap
  have la : (runL s (rs.take g) (ls.take g) 1).1.length = g := by
    rw [runL_len _ _ _ fa.len, List.length_take]
    omega
  rw [ap] at e ⊢
  simp only at e ⊢
  rw [gapSz, take_cat la, List.drop_left' la] at e
  rw [← e]
  have rr := runL_rest (s := s) (n := 1) fa (by decide)
  have cn := capT_nn (s := s) fa
  by_cases hc : capT s (rs.take g) (ls.take g) = 0
  · rw [hc] at rr
    have rr' : (runL s (rs.take g) (ls.take g) 1).2 = 1 := by omega
    have fu := capT_full fa hc
    have fr : (runL s (rs.take g) (ls.take g) 1).1 = fullOf s (rs.take g) := by
      have := runL_full (s := s) (n := 1) fa (by omega)
      rw [this]
    rw [rr', fr]
    obtain ⟨k, hk, h⟩ := zip_one (s := s) (rs.take g).reverse (ts.take g).reverse fb gb
    rw [List.length_drop] at hk
    have x := few_le (rs := rs) (ls := ls) (ts := ts) (g := g + k) (by omega)
    rw [gapSz] at x
    have sp : ∀ xs : List Int, (xs.take (g + k)).reverse = ((xs.drop g).take k).reverse ++ (xs.take g).reverse := fun xs => by
      rw [← List.reverse_append, List.take_add]
    rw [sp, sp, sp, ← List.drop_drop, ← List.drop_drop, ← List.drop_drop, fu] at x
    have fv : (fullOf s (rs.take g)).reverse = fullOf s (rs.take g).reverse := by
      unfold fullOf
      cases s <;> simp
    rw [fv] at x ⊢
    omega
  · have rr' : (runL s (rs.take g) (ls.take g) 1).2 = 0 := by omega
    rw [rr', runL_zero fb]
    simp only
    have x := few_le (rs := rs) (ls := ls) (ts := ts) hg
    rw [gapSz] at x
    have y := way_one (s := s) (fit_rev fa) (fit_rev ga)
    rw [runR_rev _ _ _ fa.len] at y
    simp only at y
    omega
theorem few_turn (rs ls ts : List Int) (h1 : ls.length = rs.length) (h2 : ts.length = rs.length) : few rs.reverse ls.reverse ts.reverse = few rs ls ts := by
  have key : ∀ (rs ls ts : List Int), ls.length = rs.length → ts.length = rs.length → few rs.reverse ls.reverse ts.reverse ≤ few rs ls ts := fun rs ls ts h1 h2 => by
    obtain ⟨g, hg, e⟩ := few_ex rs ls ts
    have x := few_le (rs := rs.reverse) (ls := ls.reverse) (ts := ts.reverse) (g := rs.length - g) (by rw [List.length_reverse]; omega)
    rw [gapSz] at x e
    have t1 : ∀ xs : List Int, xs.length = rs.length → (xs.reverse.take (rs.length - g)).reverse = xs.drop g := fun xs hx => by
      rw [← hx, List.take_reverse, List.reverse_reverse]
      congr 1
      omega
    have t2 : ∀ xs : List Int, xs.length = rs.length → xs.reverse.drop (rs.length - g) = (xs.take g).reverse := fun xs hx => by
      rw [← hx, List.drop_reverse]
      congr 2
      omega
    rw [t1 rs rfl, t1 ls h1, t1 ts h2, t2 rs rfl, t2 ls h1, t2 ts h2] at x
    omega
  have a := key rs ls ts h1 h2
  have b := key rs.reverse ls.reverse ts.reverse (by simpa using h1) (by simpa using h2)
  rw [List.reverse_reverse, List.reverse_reverse, List.reverse_reverse] at b
  omega
theorem few_one {b : Br} {rs ls ts : List Int} (h1 : Fit rs ls) (h2 : Fit rs ts) : few rs ls ts ≤ 1 + few rs (runM b rs ls 1).1 ts := by
  rcases b with ⟨_ | _, s⟩
  · show few rs ls ts ≤ 1 + few rs (runR s rs ls 1).1 ts
    have x := few_left (s := s) (fit_rev h1) (fit_rev h2)
    rw [runL_rev _ _ _ h1.len] at x
    simp only at x
    rw [few_turn _ _ _ h1.len h2.len, few_turn _ _ _ (runR_fit (s := s) (n := 1) h1 (by decide)).1.len h2.len] at x
    exact x
  · exact few_left h1 h2
theorem few_run {b : Br} {rs ts : List Int} (h2 : Fit rs ts) : ∀ (n : Nat) {ls : List Int}, Fit rs ls → few rs ls ts ≤ n + few rs (runM b rs ls (n : Int)).1 ts
  | 0, ls, h1 => by
    have e : (runM b rs ls ((0 : Nat) : Int)).1 = ls := by
      have z := runM_add (b := b) (m := 0) (n := 0) h1 (by decide) (by decide)
      rcases b with ⟨_ | _, s⟩
      · show (runR s rs ls 0).1 = ls
        have := runR_rev (s := s) rs.reverse ls.reverse 0 (by simpa using h1.len)
        rw [List.reverse_reverse, List.reverse_reverse, runL_zero (fit_rev h1), List.reverse_reverse] at this
        rw [this]
      · show (runL s rs ls 0).1 = ls
        rw [runL_zero h1]
    rw [e]
    omega
  | n + 1, ls, h1 => by
    have a := few_one (b := b) h1 h2
    have f := (runM_fit (b := b) (n := 1) h1 (by decide)).1
    have i := few_run (b := b) h2 n f
    rw [runM_add h1 (by decide) (by omega)] at i
    simp only at i
    rw [show (1 : Int) + (n : Int) = ((n + 1 : Nat) : Int) by omega] at i
    omega
theorem few_word {rs ts : List Int} (h2 : Fit rs ts) : ∀ {w : Wd'} {ls : List Int}, Fit rs ls → WOk w → few rs ls ts ≤ sizeM w + few rs (wordM rs ls w).1 ts
  | [], ls, h1, _ => by
    show few rs ls ts ≤ 0 + few rs ls ts
    omega
  | x :: w, ls, h1, ho => by
    have x0 := ho x (List.mem_cons_self ..)
    have a := few_run (b := x.1) h2 x.2.toNat h1
    rw [Int.toNat_of_nonneg x0] at a
    have f := (runM_fit (b := x.1) h1 x0).1
    have i := few_word h2 (w := w) f fun y hy => ho y (List.mem_cons_of_mem _ hy)
    have e := wordM_cat (w := [x]) (u := w) h1 fun y hy => by rw [List.mem_singleton.mp hy]; exact x0
    have e1 : (wordM rs ls [x]).1 = (runM x.1 rs ls x.2).1 := rfl
    rw [List.singleton_append, e1] at e
    rw [e, sizeM_cons]
    simp only
    omega
theorem few_same {rs ls : List Int} (h1 : ls.length = rs.length) : few rs ls ls = 0 := by
  obtain ⟨g, hg, e⟩ := few_ex rs ls ls
  rw [gapSz, way_same, way_same] at e
  exact e.symm
theorem few_low {rs ls : List Int} {w : Wd'} (h1 : Fit rs ls) (ho : WOk w) : few rs ls (wordM rs ls w).1 ≤ sizeM w := by
  have f := (wordM_ok h1 ho).1
  have a := few_word f h1 ho
  rw [few_same f.len] at a
  omega
theorem few_tri {rs a b c : List Int} (h1 : Fit rs a) (h2 : Fit rs b) (h3 : Fit rs c) : few rs a c ≤ few rs a b + few rs b c := by
  obtain ⟨g, hg, e⟩ := few_ex rs a b
  have x := few_word h3 h1 (w := gapW rs a b g) fun x hx => by have := gapW_pos h1 h2 g x hx; omega
  rw [gapW_leads h1 h2 g, e] at x
  exact x
theorem few_nn {rs ls ts : List Int} (h1 : Fit rs ls) (h2 : Fit rs ts) : 0 ≤ few rs ls ts := by
  obtain ⟨g, hg, e⟩ := few_ex rs ls ts
  rw [← e]
  exact size_nn fun x hx => by have := gapW_pos h1 h2 g x hx; omega
/-! ## contrary -/
def flp (x : Tr) : Tr := (x.1, !x.2.1, x.2.2)
theorem lack_cons (r l : Int) (rs ls : List Int) : lackM (r :: rs) (l :: ls) = (r - l) :: lackM rs ls := rfl
theorem lack_full : ∀ rs : List Int, lackM rs rs = List.replicate rs.length 0
  | [] => rfl
  | r :: rs => by
    rw [lack_cons, lack_full rs, Int.sub_self]
    rfl
theorem lack_zero : ∀ rs : List Int, lackM rs (List.replicate rs.length 0) = rs
  | [] => rfl
  | r :: rs => by
    show (r - 0) :: lackM rs (List.replicate rs.length 0) = _
    rw [lack_zero rs, Int.sub_zero]
theorem lack_sum : ∀ {rs ls : List Int}, Fit rs ls → (lackM rs ls).sum = rs.sum - ls.sum
  | _, _, .nil => rfl
  | r :: rs, l :: ls, .cons _ _ h => by
    rw [lack_cons, List.sum_cons, List.sum_cons, List.sum_cons, lack_sum h]
    omega
theorem lack_app : ∀ {A a : List Int} (B b : List Int), a.length = A.length → lackM (A ++ B) (a ++ b) = lackM A a ++ lackM B b
  | [], [], _, _, _ => rfl
  | r :: A, l :: a, B, b, h => by
    rw [List.cons_append, List.cons_append, lack_cons, lack_cons, lack_app B b (by simpa using h)]
    rfl
  | [], _ :: _, _, _, h => by cases h
  | _ :: _, [], _, _, h => by cases h
theorem lack_rev : ∀ {rs ls : List Int}, Fit rs ls → lackM rs.reverse ls.reverse = (lackM rs ls).reverse
  | _, _, .nil => rfl
  | r :: rs, l :: ls, .cons _ _ h => by
    rw [List.reverse_cons, List.reverse_cons, lack_app _ _ (fit_rev h).len, lack_rev h]
    show _ ++ [r - l] = ((r - l) :: lackM rs ls).reverse
    rw [List.reverse_cons]
theorem lack_take : ∀ {rs ls : List Int} (g : Nat), Fit rs ls → lackM (rs.take g) (ls.take g) = (lackM rs ls).take g
  | _, _, _, .nil => by simp [lackM]
  | r :: rs, l :: ls, 0, .cons _ _ h => rfl
  | r :: rs, l :: ls, g + 1, .cons _ _ h => by
    rw [List.take_succ_cons, List.take_succ_cons, lack_cons, lack_cons, List.take_succ_cons, lack_take g h]
theorem lack_drop : ∀ {rs ls : List Int} (g : Nat), Fit rs ls → lackM (rs.drop g) (ls.drop g) = (lackM rs ls).drop g
  | _, _, _, .nil => by simp [lackM]
  | r :: rs, l :: ls, 0, .cons _ _ h => rfl
  | r :: rs, l :: ls, g + 1, .cons _ _ h => by
    rw [List.drop_succ_cons, List.drop_succ_cons, lack_cons, List.drop_succ_cons, lack_drop g h]
theorem way_lack : ∀ {rs ls ts : List Int}, Fit rs ls → Fit rs ts → wayR rs (lackM rs ls) (lackM rs ts) = (wayR rs ls ts).map flp
  | _, _, _, .nil, .nil => rfl
  | r :: rs, l :: ls, t :: ts, .cons a b h1, .cons c d h2 => by
    have n0 := (fit_nn h1).2
    have i1 := way_lack h1 h2
    have i2 := way_lack (fit_full n0) h2
    have i3 := way_lack (fit_zero n0) h2
    rw [lack_full] at i2
    rw [lack_zero] at i3
    rw [lack_cons, lack_cons]
    unfold wayR
    by_cases ca : l < t
    · rw [if_pos ca, if_neg (by omega), if_pos (by omega), i2, lack_sum h1, List.map_cons]
      unfold flp
      simp only
      rw [show rs.sum - ls.sum + (r - l) - (r - t) = rs.sum - ls.sum + t - l by omega]
      rfl
    · by_cases cb : t < l
      · rw [if_neg ca, if_pos cb, if_pos (by omega), i3, lack_sum h1, List.map_cons]
        unfold flp
        simp only
        rw [show rs.sum - (rs.sum - ls.sum) + (r - t) - (r - l) = ls.sum + l - t by omega]
        rfl
      · rw [if_neg ca, if_neg cb, if_neg (by omega), if_neg (by omega), i1]
theorem sz_flp (w : List Tr) : sz (w.map flp) = sz w := by
  induction w with
  | nil => rfl
  | cons x w ih => rw [List.map_cons, sz_cons, sz_cons, ih]; rfl
theorem wayW_lack {rs ls ts : List Int} (h1 : Fit rs ls) (h2 : Fit rs ts) : wayW rs (lackM rs ls) (lackM rs ts) = conW (wayW rs ls ts) := by
  unfold wayW wayM
  rw [← lack_rev h1, ← lack_rev h2, way_lack (fit_rev h1) (fit_rev h2)]
  unfold trW conW
  rw [List.map_map, List.map_map]
  rfl
theorem few_lack {rs ls ts : List Int} (h1 : Fit rs ls) (h2 : Fit rs ts) : few rs (lackM rs ls) (lackM rs ts) = few rs ls ts := by
  have key : ∀ g, sizeM (gapW rs (lackM rs ls) (lackM rs ts) g) = sizeM (gapW rs ls ts g) := fun g => by
    rw [gapSz, gapSz, ← lack_take g h1, ← lack_take g h2, ← lack_drop g h1, ← lack_drop g h2, ← lack_rev (fit_tk g h1), ← lack_rev (fit_tk g h2), way_lack (fit_rev (fit_tk g h1)) (fit_rev (fit_tk g h2)), way_lack (fit_dr g h1) (fit_dr g h2), sz_flp, sz_flp]
  obtain ⟨g, hg, e⟩ := few_ex rs ls ts
  obtain ⟨k, hk, e2⟩ := few_ex rs (lackM rs ls) (lackM rs ts)
  have a := few_le (rs := rs) (ls := lackM rs ls) (ts := lackM rs ts) hg
  have b := few_le (rs := rs) (ls := ls) (ts := ts) hk
  rw [key] at a e2
  omega
/-! ## what lies ahead of a gap -/
theorem ahead_run {b : Br} {rs ls : List Int} {n : Int} (h : Fit rs ls) (hn : 0 ≤ n) (g : Nat) : ((runM b rs ls n).1.take g).sum - (ls.take g).sum ≤ n ∧ (ls.take g).sum - ((runM b rs ls n).1.take g).sum ≤ n := by
  have e := gap_two (b := b) h hn g
  have f := two_fit h g
  unfold two at e f
  rcases f with _ | ⟨a1, a2, f⟩
  rcases f with _ | ⟨b1, b2, f⟩
  have e2 := congrArg (fun p => p.1.getD 0 0) e
  simp only [List.getD_cons_zero] at e2
  rw [← e2]
  rcases b with ⟨_ | _, s⟩
  · have c1 := cap_nn (s := s) a1 a2
    have c2 := cap_nn (s := s) b1 b2
    show (put1 s (ls.take g).sum (min (n - min n (cap s (rs.drop g).sum (ls.drop g).sum)) (cap s (rs.take g).sum (ls.take g).sum))) - _ ≤ n ∧ _ - (put1 s (ls.take g).sum (min (n - min n (cap s (rs.drop g).sum (ls.drop g).sum)) (cap s (rs.take g).sum (ls.take g).sum))) ≤ n
    unfold put1
    cases s <;> simp only [Bool.false_eq_true, if_false, if_true] <;> omega
  · have c1 := cap_nn (s := s) a1 a2
    show (put1 s (ls.take g).sum (min n (cap s (rs.take g).sum (ls.take g).sum))) - _ ≤ n ∧ _ - (put1 s (ls.take g).sum (min n (cap s (rs.take g).sum (ls.take g).sum))) ≤ n
    unfold put1
    cases s <;> simp only [Bool.false_eq_true, if_false, if_true] <;> omega
theorem ahead_word {rs : List Int} (g : Nat) : ∀ {w : Wd'} {ls : List Int}, Fit rs ls → WOk w → ((wordM rs ls w).1.take g).sum - (ls.take g).sum ≤ sizeM w ∧ (ls.take g).sum - ((wordM rs ls w).1.take g).sum ≤ sizeM w
  | [], ls, h, _ => by
    show (ls.take g).sum - (ls.take g).sum ≤ 0 ∧ (ls.take g).sum - (ls.take g).sum ≤ 0
    omega
  | x :: w, ls, h, ho => by
    have x0 := ho x (List.mem_cons_self ..)
    have a := ahead_run (b := x.1) h x0 g
    have f := (runM_fit (b := x.1) h x0).1
    have i := ahead_word g (w := w) f fun y hy => ho y (List.mem_cons_of_mem _ hy)
    have e := wordM_cat (w := [x]) (u := w) h fun y hy => by rw [List.mem_singleton.mp hy]; exact x0
    have e1 : (wordM rs ls [x]).1 = (runM x.1 rs ls x.2).1 := rfl
    rw [List.singleton_append, e1] at e
    rw [e, sizeM_cons]
    simp only
    omega
theorem few_ahead {rs ls ts : List Int} (h1 : Fit rs ls) (h2 : Fit rs ts) (g : Nat) : (ts.take g).sum - (ls.take g).sum ≤ few rs ls ts ∧ (ls.take g).sum - (ts.take g).sum ≤ few rs ls ts := by
  obtain ⟨k, hk, e⟩ := few_ex rs ls ts
  have a := ahead_word g (w := gapW rs ls ts k) h1 fun x hx => by have := gapW_pos h1 h2 k x hx; omega
  rw [gapW_leads h1 h2 k, e] at a
  exact a
theorem few_sum {rs ls ts : List Int} (h1 : Fit rs ls) (h2 : Fit rs ts) : ts.sum - ls.sum ≤ few rs ls ts ∧ ls.sum - ts.sum ≤ few rs ls ts := by
  have a := few_ahead h1 h2 rs.length
  rwa [List.take_of_length_le (Nat.le_of_eq h2.len), List.take_of_length_le (Nat.le_of_eq h1.len)] at a
end WK

/-! widths -/
namespace WK
open PySem PySem.Spec PyProof.Rows L2 ZX DL RT DP
def absI (i : Int) : Int := if i < 0 then -i else i
def unl (as bs : List Int) : List Int := ((pre as).zip (pre bs)).map fun p => absI (p.1 - p.2)
theorem zip_l (xs ys : List Int) : wZip.f [lN xs, lN ys] = some ((xs.zip ys).map fun p => .tuple [.int p.1, .int p.2]) := by
  show some (zipD (dI xs) (dI ys)) = _
  rw [zip_map]
theorem zl {as bs : List Int} (la : as.length ≤ 1000) (lb : bs.length ≤ 1000) : ((pre as).zip (pre bs)).length ≤ 100000 := by
  rw [List.length_zip, preF_len, preF_len]
  omega
theorem unlikenesses_eq {r a b : PyData} {as bs : List Int} (ha : seqF a = some (dI as)) (hb : seqF b = some (dI bs)) (la : as.length ≤ 1000) (lb : bs.length ≤ 1000) : sem_unlikenesses [r, a, b] = .ret (lN (unl as bs)) := by
  have e1 : sem_aheads [r, a] = _ := aheads_eq ha la
  have e2 : sem_aheads [r, b] = _ := aheads_eq hb lb
  have hz := zl la lb
  have k1 := compr_map (step := cstep (evT qY) (evE x_unlikenesses_1) (.tp (.cons (.nm 3) (.cons (.nm 4) .nil))) [.dat r, .dat a, .dat b, .unk, .unk]) (g := fun p : Int × Int => .tuple [.int p.1, .int p.2]) (h := fun p : Int × Int => .int (absI (p.1 - p.2))) (xs := (pre as).zip (pre bs)) fun x _ => by
    simp only [cstep, x_unlikenesses_1, DP.run, DP.runB, evS, evE, evA, evT, evP, evI, startE, startX, slot_zero, slot_succ, own_zero, own_succ, box_zero, box_succ, bind_n, Dr.bind_assoc, pur_n, put_nm, put_tp, put_tpL, puts_nil, puts_cons, then_n, then_rt, then_rtO, told_rtO, put2_c, put3_c, evF, evB, flat_i, flat_b, flat_s, asLst_l, f_intI, f_intB, f_odd, f_notN, f_fListL, f_fListT, non_i, non_n, f_neS, then_bk, then_ct, told_rt, evT_qY, andB_t, andB_f, orB_t, orB_f, asInt_i, Dr.opt_some, small, within, List.length_cons, List.length_nil, List.map_cons, List.map_nil, List.cons_append, List.nil_append, List.replicate, List.set_cons_zero, List.set_cons_succ, Tt.vs, Ts.vs, Option.bind_some, Nat.reduceAdd, Nat.reduceSub, Nat.reduceLeDiff, Nat.reduceEqDiff, reduceIte, if_true, if_false, asIx_int, f_add, f_sub, f_lt, f_le, f_gt, f_ge, f_addA, f_subA, f_eqI, f_eqS, f_eqB, f_neI, f_isN, f_ixL, f_ixT, f_neg, f_not, f_min, f_max, f_abs, f_tB, f_lenL, f_lenT, f_list, f_listT, f_tup, f_tupT, f_wSeqL, f_wSeqT, f_cutT, f_cutL, wipeX, List.all_cons, List.all_nil, List.contains_cons, List.elem_nil, Bool.and_true, Bool.true_and, beq_self_eq_true, Bool.or_true, Bool.true_or, Bool.false_eq_true, Option.some.injEq, decide_true, decide_false, Bool.not_true, Bool.not_false, Nat.reduceBEq, Bool.or_false, Bool.false_or, List.append_nil, List.singleton_append, true_and, and_true, and_self]
    rfl
  rw [map_dI] at k1
  simp only [sem_unlikenesses, a_unlikenesses, DP.run, DP.runB, evS, evE, evA, evT, evP, evI, startE, startX, slot_zero, slot_succ, own_zero, own_succ, box_zero, box_succ, bind_n, Dr.bind_assoc, pur_n, put_nm, put_tp, put_tpL, puts_nil, puts_cons, then_n, then_rt, then_rtO, told_rtO, put2_c, put3_c, evF, evB, flat_i, flat_b, flat_s, asLst_l, f_intI, f_intB, f_odd, f_notN, f_fListL, f_fListT, non_i, non_n, f_neS, then_bk, then_ct, told_rt, evT_qY, andB_t, andB_f, orB_t, orB_f, asInt_i, Dr.opt_some, small, within, List.length_cons, List.length_nil, List.map_cons, List.map_nil, List.cons_append, List.nil_append, List.replicate, List.set_cons_zero, List.set_cons_succ, Tt.vs, Ts.vs, Option.bind_some, Nat.reduceAdd, Nat.reduceSub, Nat.reduceLeDiff, Nat.reduceEqDiff, reduceIte, if_true, if_false, asIx_int, f_add, f_sub, f_lt, f_le, f_gt, f_ge, f_addA, f_subA, f_eqI, f_eqS, f_eqB, f_neI, f_isN, f_ixL, f_ixT, f_neg, f_not, f_min, f_max, f_abs, f_tB, f_lenL, f_lenT, f_list, f_listT, f_tup, f_tupT, f_wSeqL, f_wSeqT, f_cutT, f_cutL, wipeX, List.all_cons, List.all_nil, List.contains_cons, List.elem_nil, Bool.and_true, Bool.true_and, beq_self_eq_true, Bool.or_true, Bool.true_or, Bool.false_eq_true, Option.some.injEq, decide_true, decide_false, Bool.not_true, Bool.not_false, Nat.reduceBEq, Bool.or_false, Bool.false_or, List.append_nil, List.singleton_append, true_and, and_true, and_self, e1, e2, zip_l, List.length_map, hz, k1]
  rfl
theorem unl_len (as bs : List Int) (h : bs.length = as.length) : (unl as bs).length = as.length + 1 := by
  unfold unl
  rw [List.length_map, List.length_zip, preF_len, preF_len, h, Nat.min_self]
theorem unl_ne (as bs : List Int) : unl as bs ≠ [] := by
  unfold unl
  cases as <;> cases bs <;> simp [preF]
theorem maxL_c {ns : List Int} (h : ns ≠ []) : bMaxL.f [lN ns] = some (.int (maxI ns)) := by
  show (intsOf (dI ns)).bind _ = _
  rw [intsOf_map]
  show (if ns.isEmpty then none else some (PyData.int (maxI ns))) = _
  cases ns with
  | nil => exact absurd rfl h
  | cons n ns => rfl
theorem width_eq {r a b : PyData} {as bs : List Int} (ha : seqF a = some (dI as)) (hb : seqF b = some (dI bs)) (la : as.length ≤ 1000) (lb : bs.length ≤ 1000) : sem_width [r, a, b] = .ret (.int (maxI (unl as bs))) := by
  have e := unlikenesses_eq (r := r) ha hb la lb
  have m := maxL_c (unl_ne as bs)
  simp only [sem_width, a_width, DP.run, DP.runB, evS, evE, evA, evT, evP, evI, startE, startX, slot_zero, slot_succ, own_zero, own_succ, box_zero, box_succ, bind_n, Dr.bind_assoc, pur_n, put_nm, put_tp, put_tpL, puts_nil, puts_cons, then_n, then_rt, then_rtO, told_rtO, put2_c, put3_c, evF, evB, flat_i, flat_b, flat_s, asLst_l, f_intI, f_intB, f_odd, f_notN, f_fListL, f_fListT, non_i, non_n, f_neS, then_bk, then_ct, told_rt, evT_qY, andB_t, andB_f, orB_t, orB_f, asInt_i, Dr.opt_some, small, within, List.length_cons, List.length_nil, List.map_cons, List.map_nil, List.cons_append, List.nil_append, List.replicate, List.set_cons_zero, List.set_cons_succ, Tt.vs, Ts.vs, Option.bind_some, Nat.reduceAdd, Nat.reduceSub, Nat.reduceLeDiff, Nat.reduceEqDiff, reduceIte, if_true, if_false, asIx_int, f_add, f_sub, f_lt, f_le, f_gt, f_ge, f_addA, f_subA, f_eqI, f_eqS, f_eqB, f_neI, f_isN, f_ixL, f_ixT, f_neg, f_not, f_min, f_max, f_abs, f_tB, f_lenL, f_lenT, f_list, f_listT, f_tup, f_tupT, f_wSeqL, f_wSeqT, f_cutT, f_cutL, wipeX, List.all_cons, List.all_nil, List.contains_cons, List.elem_nil, Bool.and_true, Bool.true_and, beq_self_eq_true, Bool.or_true, Bool.true_or, Bool.false_eq_true, Option.some.injEq, decide_true, decide_false, Bool.not_true, Bool.not_false, Nat.reduceBEq, Bool.or_false, Bool.false_or, List.append_nil, List.singleton_append, true_and, and_true, and_self, e, m]
theorem unl_ix {as bs : List Int} (h : bs.length = as.length) : unl as bs = (List.range (as.length + 1)).map fun k => absI ((as.take k).sum - (bs.take k).sum) := by
  unfold unl pre
  rw [preF_take, preF_take, h, List.zip_map', List.map_map]
  refine List.map_congr_left fun k _ => ?_
  show absI (0 + (as.take k).sum - (0 + (bs.take k).sum)) = _
  rw [Int.zero_add, Int.zero_add]
theorem width_few {rs as bs : List Int} (h1 : Fit rs as) (h2 : Fit rs bs) : maxI (unl as bs) ≤ few rs as bs := by
  have m := (maxI_mem (unl_ne as bs)).1
  rw [unl_ix (by rw [h1.len, h2.len])] at m
  obtain ⟨k, _, e⟩ := List.mem_map.mp m
  rw [← unl_ix (by rw [h1.len, h2.len])] at e
  rw [← e]
  have a := few_ahead h1 h2 k
  unfold absI
  split <;> omega
theorem absI_c (i : Int) : bAbs.f [.int i] = some (.int (absI i)) := rfl
/-! ## below -/
def belB (as bs : List Int) : Bool := ((pre as).zip (pre bs)).all fun p => decide (p.1 ≤ p.2)
theorem all_bools {α : Type} (xs : List α) (p : α → Bool) : bAll.f [.list (xs.map fun x => PyData.bool (p x))] = some (.bool (xs.all p)) := by
  have e : xs.map (fun x => PyData.bool (p x)) = (xs.map p).map PyData.bool := by
    rw [List.map_map]
    rfl
  show (boolsOf (xs.map fun x => PyData.bool (p x))).map _ = _
  rw [e, boolsOf_map]
  show some (PyData.bool ((xs.map p).all id)) = _
  congr 2
  rw [List.all_map]
  rfl
theorem is_below_eq {r a b : PyData} {as bs : List Int} (ha : seqF a = some (dI as)) (hb : seqF b = some (dI bs)) (la : as.length ≤ 1000) (lb : bs.length ≤ 1000) : sem_is_below [r, a, b] = .ret (.bool (belB as bs)) := by
  have e1 : sem_aheads [r, a] = _ := aheads_eq ha la
  have e2 : sem_aheads [r, b] = _ := aheads_eq hb lb
  have hz := zl la lb
  have k1 := compr_map (step := cstep (evT qY) (evE x_is_below_1) (.tp (.cons (.nm 3) (.cons (.nm 4) .nil))) [.dat r, .dat a, .dat b, .unk, .unk]) (g := fun p : Int × Int => .tuple [.int p.1, .int p.2]) (h := fun p : Int × Int => .bool (decide (p.1 ≤ p.2))) (xs := (pre as).zip (pre bs)) fun x _ => by
    simp only [cstep, x_is_below_1, DP.run, DP.runB, evS, evE, evA, evT, evP, evI, startE, startX, slot_zero, slot_succ, own_zero, own_succ, box_zero, box_succ, bind_n, Dr.bind_assoc, pur_n, put_nm, put_tp, put_tpL, puts_nil, puts_cons, then_n, then_rt, then_rtO, told_rtO, put2_c, put3_c, evF, evB, flat_i, flat_b, flat_s, asLst_l, f_intI, f_intB, f_odd, f_notN, f_fListL, f_fListT, non_i, non_n, f_neS, then_bk, then_ct, told_rt, evT_qY, andB_t, andB_f, orB_t, orB_f, asInt_i, Dr.opt_some, small, within, List.length_cons, List.length_nil, List.map_cons, List.map_nil, List.cons_append, List.nil_append, List.replicate, List.set_cons_zero, List.set_cons_succ, Tt.vs, Ts.vs, Option.bind_some, Nat.reduceAdd, Nat.reduceSub, Nat.reduceLeDiff, Nat.reduceEqDiff, reduceIte, if_true, if_false, asIx_int, f_add, f_sub, f_lt, f_le, f_gt, f_ge, f_addA, f_subA, f_eqI, f_eqS, f_eqB, f_neI, f_isN, f_ixL, f_ixT, f_neg, f_not, f_min, f_max, f_abs, f_tB, f_lenL, f_lenT, f_list, f_listT, f_tup, f_tupT, f_wSeqL, f_wSeqT, f_cutT, f_cutL, wipeX, List.all_cons, List.all_nil, List.contains_cons, List.elem_nil, Bool.and_true, Bool.true_and, beq_self_eq_true, Bool.or_true, Bool.true_or, Bool.false_eq_true, Option.some.injEq, decide_true, decide_false, Bool.not_true, Bool.not_false, Nat.reduceBEq, Bool.or_false, Bool.false_or, List.append_nil, List.singleton_append, true_and, and_true, and_self]
  have ab := all_bools ((pre as).zip (pre bs)) fun p => decide (p.1 ≤ p.2)
  simp only [sem_is_below, a_is_below, DP.run, DP.runB, evS, evE, evA, evT, evP, evI, startE, startX, slot_zero, slot_succ, own_zero, own_succ, box_zero, box_succ, bind_n, Dr.bind_assoc, pur_n, put_nm, put_tp, put_tpL, puts_nil, puts_cons, then_n, then_rt, then_rtO, told_rtO, put2_c, put3_c, evF, evB, flat_i, flat_b, flat_s, asLst_l, f_intI, f_intB, f_odd, f_notN, f_fListL, f_fListT, non_i, non_n, f_neS, then_bk, then_ct, told_rt, evT_qY, andB_t, andB_f, orB_t, orB_f, asInt_i, Dr.opt_some, small, within, List.length_cons, List.length_nil, List.map_cons, List.map_nil, List.cons_append, List.nil_append, List.replicate, List.set_cons_zero, List.set_cons_succ, Tt.vs, Ts.vs, Option.bind_some, Nat.reduceAdd, Nat.reduceSub, Nat.reduceLeDiff, Nat.reduceEqDiff, reduceIte, if_true, if_false, asIx_int, f_add, f_sub, f_lt, f_le, f_gt, f_ge, f_addA, f_subA, f_eqI, f_eqS, f_eqB, f_neI, f_isN, f_ixL, f_ixT, f_neg, f_not, f_min, f_max, f_abs, f_tB, f_lenL, f_lenT, f_list, f_listT, f_tup, f_tupT, f_wSeqL, f_wSeqT, f_cutT, f_cutL, wipeX, List.all_cons, List.all_nil, List.contains_cons, List.elem_nil, Bool.and_true, Bool.true_and, beq_self_eq_true, Bool.or_true, Bool.true_or, Bool.false_eq_true, Option.some.injEq, decide_true, decide_false, Bool.not_true, Bool.not_false, Nat.reduceBEq, Bool.or_false, Bool.false_or, List.append_nil, List.singleton_append, true_and, and_true, and_self, e1, e2, zip_l, List.length_map, hz, k1, ab]
  rfl
theorem bel_iff {as bs : List Int} (h : bs.length = as.length) : belB as bs = true ↔ ∀ k, (as.take k).sum ≤ (bs.take k).sum := by
  unfold belB pre
  rw [preF_take, preF_take, h, List.zip_map', List.all_map, List.all_eq_true]
  constructor
  · intro q k
    by_cases hk : k ≤ as.length
    · have := q k (List.mem_range.mpr (by omega))
      simpa using this
    · have := q as.length (List.mem_range.mpr (by omega))
      have e1 : as.take k = as.take as.length := by rw [List.take_of_length_le (by omega), List.take_length]
      have e2 : bs.take k = bs.take as.length := by rw [List.take_of_length_le (by omega), ← h, List.take_length]
      rw [e1, e2]
      simpa using this
  · intro q k _
    simpa using q k
theorem pick2 {α : Type} (a b : α) {i : Int} (h0 : 0 ≤ i) (h1 : i < 2) : ∃ x, atI [a, b] i = some x ∧ (x = a ∨ x = b) := by
  rcases (by omega : i = 0 ∨ i = 1) with rfl | rfl
  · exact ⟨a, rfl, .inl rfl⟩
  · exact ⟨b, rfl, .inr rfl⟩
theorem shaped_w {w : Wd'} (h : w.length ≤ 1000) : SeqAt.shaped (.list (wD w)) = true := by
  have key : ∀ w : Wd', PyData.canLayAll0 (wD w) = true ∧ PyData.depthAll (wD w) ≤ 1 := fun w => by
    induction w with
    | nil => exact ⟨rfl, Nat.zero_le _⟩
    | cons x w ih =>
      refine ⟨?_, ?_⟩
      · show ((rnD x).canLay0 && PyData.canLayAll0 (wD w)) = true
        rw [ih.1, Bool.and_true]
        show (PyData.canLay0 (.str x.1.nm) && (PyData.canLay0 (.int x.2) && true)) = true
        have : PyData.canLay0 (.str x.1.nm) = true := nm_ok x.1
        rw [this]
        rfl
      · show max (PyData.depth (rnD x)) (PyData.depthAll (wD w)) ≤ 1
        have e : PyData.depth (rnD x) = 1 := rfl
        rw [e]
        omega
  unfold SeqAt.shaped
  refine Bool.and_eq_true_iff.mpr ⟨(key w).1, decide_eq_true ?_⟩
  show PyData.depthAll (wD w) + 1 ≤ 64
  have := (key w).2
  omega
theorem neD_w {w : Wd'} (h : w.length ≤ 1000) : oNeD.f (.list (wD w)) (.list (wD w)) = some (.bool false) := by
  show (if _ then some (PyData.bool (!PyData.eqv (.list (wD w)) (.list (wD w)))) else none) = _
  rw [if_pos ⟨shaped_w h, shaped_w h⟩, eqv_refl _ (Bool.and_eq_true_iff.mp (shaped_w h)).1]
  rfl
theorem eqD_w {w : Wd'} (h : w.length ≤ 1000) : oEqD.f (.list (wD w)) (.list (wD w)) = some (.bool true) := by
  show (if _ then some (PyData.bool (PyData.eqv (.list (wD w)) (.list (wD w)))) else none) = _
  rw [if_pos ⟨shaped_w h, shaped_w h⟩, eqv_refl _ (Bool.and_eq_true_iff.mp (shaped_w h)).1]
theorem runs_le {m o : Int} (h1 : 0 ≤ m) (h2 : m ≤ 1000) (o1 : 1 ≤ o) (o2 : o < 2 ^ 30) : (sem_L_runs [.int m, .int o]).le (2 * m.toNat + 1) fun d => ∃ w, d = .list (wD w) ∧ WIn m o w := word_le h1 h2 o1 o2
end WK

/-! names: led by turns; data that are alike -/
namespace WK
open PySem PySem.Spec PyProof.Rows L2 ZX DL RT DP
theorem layAll : ∀ {n : Nat} {ds : List PyData}, (∀ y ∈ ds, y.canLay0 = true ∧ y.depth ≤ n) → PyData.canLayAll0 ds = true ∧ PyData.depthAll ds ≤ n
  | n, [], _ => ⟨rfl, Nat.zero_le _⟩
  | n, d :: ds, h => by
    have a := h d (List.mem_cons_self ..)
    have b := layAll (n := n) (ds := ds) fun y hy => h y (List.mem_cons_of_mem _ hy)
    refine ⟨?_, ?_⟩
    · show (d.canLay0 && PyData.canLayAll0 ds) = true
      rw [a.1, b.1]
      rfl
    · show max d.depth (PyData.depthAll ds) ≤ n
      omega
theorem lay_pl : ∀ (n : Nat) (d : PyData), Pl n d → d.canLay0 = true ∧ d.depth ≤ n
  | n, .none, _ => ⟨rfl, Nat.zero_le _⟩
  | n, .bool _, _ => ⟨rfl, Nat.zero_le _⟩
  | n, .int _, _ => ⟨rfl, Nat.zero_le _⟩
  | n, .str x, h => ⟨by cases n <;> exact h, Nat.zero_le _⟩
  | 0, .list _, h => h.elim
  | 0, .tuple _, h => h.elim
  | n + 1, .list xs, h => by
    have a := layAll (n := n) (ds := xs) fun y hy => lay_pl n y (h.2 y hy)
    exact ⟨a.1, by show PyData.depthAll xs + 1 ≤ n + 1; omega⟩
  | n + 1, .tuple xs, h => by
    have a := layAll (n := n) (ds := xs) fun y hy => lay_pl n y (h.2 y hy)
    exact ⟨a.1, by show PyData.depthAll xs + 1 ≤ n + 1; omega⟩
  | n, .dict _, h => by cases n <;> exact h.elim
theorem shaped_pl {n : Nat} {d : PyData} (h : Pl n d) (hn : n ≤ 60) : SeqAt.shaped d = true := by
  have a := lay_pl n d h
  unfold SeqAt.shaped
  exact Bool.and_eq_true_iff.mpr ⟨a.1, decide_eq_true (by omega)⟩
theorem neD_pl {n : Nat} {d : PyData} (h : Pl n d) (hn : n ≤ 60) : oNeD.f d d = some (.bool false) := by
  show (if _ then some (PyData.bool (!PyData.eqv d d)) else none) = _
  rw [if_pos ⟨shaped_pl h hn, shaped_pl h hn⟩, eqv_refl _ (lay_pl n d h).1]
  rfl
theorem eqD_pl {n : Nat} {d : PyData} (h : Pl n d) (hn : n ≤ 60) : oEqD.f d d = some (.bool true) := by
  show (if _ then some (PyData.bool (PyData.eqv d d)) else none) = _
  rw [if_pos ⟨shaped_pl h hn, shaped_pl h hn⟩, eqv_refl _ (lay_pl n d h).1]
theorem pl_L {n : Nat} {ds : List PyData} (hl : ds.length ≤ 100000) (h : ∀ y ∈ ds, Pl n y) : Pl (n + 1) (.list ds) := ⟨hl, h⟩
theorem pl_T {n : Nat} {ds : List PyData} (hl : ds.length ≤ 100000) (h : ∀ y ∈ ds, Pl n y) : Pl (n + 1) (.tuple ds) := ⟨hl, h⟩
theorem catL_i {xs ys : List Int} (h : xs.length + ys.length ≤ 100000) : oCatL.f (.list (dI xs)) (.list (dI ys)) = some (lN (xs ++ ys)) := by
  show (if (dI xs).length + (dI ys).length ≤ 100000 then some (PyData.list (dI xs ++ dI ys)) else none) = _
  rw [if_pos (by rw [List.length_map, List.length_map]; exact h), ← List.map_append]
theorem f_mod2 (n : Nat) : oMod.f (.int (n : Int)) (.int 2) = some (.int ((n : Int) % 2)) := by
  show some (PyData.int ((n : Int).fmod 2)) = _
  rw [Int.fmod_eq_emod_of_nonneg _ (by decide)]
theorem cutD_from (ds : List PyData) (g : Nat) : DP.cutD ds (some (g : Int)) none = ds.drop g := by
  unfold DP.cutD
  show (ds.drop (HT.sIx ds.length 0 (some (g : Int)))).take (ds.length - HT.sIx ds.length 0 (some (g : Int))) = _
  rw [HT.sIx_nat, List.take_of_length_le (by rw [List.length_drop]; exact Nat.le_refl _)]
  by_cases h : g ≤ ds.length
  · rw [Nat.min_eq_left h]
  · rw [Nat.min_eq_right (by omega), List.drop_of_length_le (Nat.le_refl _), List.drop_of_length_le (by omega)]
theorem cutD_to (ds : List PyData) (g : Nat) : DP.cutD ds none (some (g : Int)) = ds.take g := by
  unfold DP.cutD
  show (ds.drop 0).take (HT.sIx ds.length ds.length (some (g : Int)) - 0) = _
  rw [HT.sIx_nat, List.drop_zero, Nat.sub_zero]
  by_cases h : g ≤ ds.length
  · rw [Nat.min_eq_left h]
  · rw [Nat.min_eq_right (by omega), List.take_of_length_le (Nat.le_refl _), List.take_of_length_le (by omega)]
theorem cutD_but (ds : List PyData) (d : PyData) : DP.cutD (ds ++ [d]) none (some (-1)) = ds := by
  unfold DP.cutD
  show ((ds ++ [d]).drop 0).take (HT.sIx (ds ++ [d]).length (ds ++ [d]).length (some (-1)) - 0) = _
  have e : HT.sIx (ds ++ [d]).length (ds ++ [d]).length (some (-1)) = ds.length := by
    unfold HT.sIx
    simp
    omega
  rw [e, List.drop_zero, Nat.sub_zero, List.take_left]
/-! ## turns -/
def twW : Bool → List Int → Wd'
  | _, [] => []
  | s, n :: ns => ((true, s), n) :: twW (!s) ns
theorem tw_len : ∀ (s : Bool) (ns : List Int), (twW s ns).length = ns.length
  | _, [] => rfl
  | s, n :: ns => congrArg Nat.succ (tw_len (!s) ns)
theorem trW_tw : ∀ {w : List Tr} {s : Bool}, alt s w → trW w = twW s (w.map fun x => x.2.2)
  | [], _, _ => rfl
  | x :: w, s, ⟨h, t⟩ => by
    show ((true, x.2.1), x.2.2) :: trW w = _
    rw [trW_tw t, h]
    rfl
abbrev nmN (rs ts : List Int) : List Int := (wayB rs ts).map fun x => x.2.2
def ledM (rs ns : List Int) : List Int := (wordM rs (reps rs.length 0) (twW true ns)).1
theorem led_name {rs ts : List Int} (hf : Fit rs ts) : ledM rs (nmN rs ts) = ts := by
  unfold ledM
  rw [← trW_tw (wayB_alt hf), go_word (wayB_go hf)]
theorem tw_ok : ∀ {s : Bool} {ns : List Int}, (∀ n ∈ ns, 0 ≤ n) → WOk (twW s ns)
  | _, [], _ => fun x hx => (by cases hx)
  | s, n :: ns, h => fun x hx => by
    rcases List.mem_cons.mp hx with rfl | hx
    · exact h n (List.mem_cons_self ..)
    · exact tw_ok (fun m hm => h m (List.mem_cons_of_mem _ hm)) x hx
theorem led_fit {rs ns : List Int} (hr : ∀ r ∈ rs, 0 ≤ r) (hn : ∀ n ∈ ns, 0 ≤ n) : Fit rs (ledM rs ns) := (wordM_ok (fit_zero hr) (tw_ok hn)).1
def evn (n : Nat) : Bool := n % 2 == 0
theorem evn_succ (n : Nat) : evn (n + 1) = !evn n := by
  unfold evn
  rcases Nat.mod_two_eq_zero_or_one n with h | h
  · have : (n + 1) % 2 = 1 := by omega
    rw [h, this]
    rfl
  · have : (n + 1) % 2 = 0 := by omega
    rw [h, this]
    rfl
theorem tw_snoc : ∀ (s : Bool) (ns : List Int) (n : Int), twW s (ns ++ [n]) = twW s ns ++ [((true, s == evn ns.length), n)]
  | s, [], n => by cases s <;> rfl
  | s, m :: ns, n => by
    show ((true, s), m) :: twW (!s) (ns ++ [n]) = _
    rw [tw_snoc (!s) ns n, List.length_cons, evn_succ]
    cases s <;> cases evn ns.length <;> rfl
theorem led_snoc (rs ns : List Int) (n : Int) : ledM rs (ns ++ [n]) = (runL (evn ns.length) rs (ledM rs ns) n).1 := by
  unfold ledM wordM
  rw [tw_snoc, List.foldl_append]
  show (runM (true, true == evn ns.length) rs _ n).1 = _
  cases evn ns.length <;> rfl
theorem tw_ix : ∀ (s : Bool) (ns : List Int), twW s ns = (List.range ns.length).map fun i => ((true, s == evn i), ns.getD i 0)
  | _, [] => rfl
  | s, n :: ns => by
    rw [List.length_cons, List.range_succ_eq_map, List.map_cons, List.map_map]
    show ((true, s), n) :: twW (!s) ns = _
    rw [tw_ix (!s) ns]
    refine List.cons_eq_cons.mpr ⟨by cases s <;> rfl, List.map_congr_left fun i _ => ?_⟩
    show ((true, (!s) == evn i), ns.getD i 0) = ((true, s == evn (i + 1)), (n :: ns).getD (i + 1) 0)
    rw [evn_succ, List.getD_cons_succ]
    cases s <;> cases evn i <;> rfl
theorem dI_getD (ns : List Int) {i : Nat} (h : i < ns.length) : (dI ns).getD i .none = .int (ns.getD i 0) := by
  rw [List.getD_eq_getElem?_getD, List.getD_eq_getElem?_getD, List.getElem?_map, List.getElem?_eq_getElem h]
  rfl
theorem led_by_eq {r t : PyData} {rs ns : List Int} (hr : seqF r = some (dI rs)) (ht : seqF t = some (dI ns)) (h0 : 1 ≤ rs.length) (hl : rs.length ≤ 1000) (r0 : ∀ r ∈ rs, 0 ≤ r) (hn : ∀ n ∈ ns, 0 ≤ n) (nl : ns.length ≤ 1000) : sem_led_by [r, t] = .ret (tN (ledM rs ns)) := by
  have en := enum_seq ht
  have hc := compr_map (step := cstep (evT qY) (evE x_led_by_1) (.tp (.cons (.nm 3) (.cons (.nm 4) .nil))) [.dat r, .dat t, .unk, .unk, .unk]) (g := fun (i : Nat) => .tuple [.int (i : Int), (dI ns).getD i .none]) (h := fun i => rnD ((true, true == evn i), ns.getD i 0)) (xs := List.range ns.length) fun i hi => by
    have hi' := List.mem_range.mp hi
    have g1 := dI_getD ns hi'
    by_cases c : (i : Int) % 2 = 0
    · have c2 : evn i = true := by
        unfold evn
        exact beq_iff_eq.mpr (by omega)
      simp only [cstep, x_led_by_1, DP.run, DP.runB, evS, evE, evA, evT, evP, evI, startE, startX, slot_zero, slot_succ, own_zero, own_succ, box_zero, box_succ, bind_n, Dr.bind_assoc, pur_n, put_nm, put_tp, put_tpL, puts_nil, puts_cons, then_n, then_rt, then_rtO, told_rtO, put2_c, put3_c, evF, evB, flat_i, flat_b, flat_s, asLst_l, f_intI, f_intB, f_odd, f_notN, f_fListL, f_fListT, non_i, non_n, f_neS, then_bk, then_ct, told_rt, evT_qY, andB_t, andB_f, orB_t, orB_f, asInt_i, Dr.opt_some, small, within, List.length_cons, List.length_nil, List.map_cons, List.map_nil, List.cons_append, List.nil_append, List.replicate, List.set_cons_zero, List.set_cons_succ, Tt.vs, Ts.vs, Option.bind_some, Nat.reduceAdd, Nat.reduceSub, Nat.reduceLeDiff, Nat.reduceEqDiff, reduceIte, if_true, if_false, asIx_int, f_add, f_sub, f_lt, f_le, f_gt, f_ge, f_addA, f_subA, f_eqI, f_eqS, f_eqB, f_neI, f_isN, f_ixL, f_ixT, f_neg, f_not, f_min, f_max, f_abs, f_tB, f_lenL, f_lenT, f_list, f_listT, f_tup, f_tupT, f_wSeqL, f_wSeqT, f_cutT, f_cutL, wipeX, List.all_cons, List.all_nil, List.contains_cons, List.elem_nil, Bool.and_true, Bool.true_and, beq_self_eq_true, Bool.or_true, Bool.true_or, Bool.false_eq_true, Option.some.injEq, decide_true, decide_false, Bool.not_true, Bool.not_false, Nat.reduceBEq, Bool.or_false, Bool.false_or, List.append_nil, List.singleton_append, true_and, and_true, and_self, g1, c, c2]
      rfl
    · have c2 : evn i = false := by
        unfold evn
        exact beq_eq_false_iff_ne.mpr (by omega)
      simp only [cstep, x_led_by_1, DP.run, DP.runB, evS, evE, evA, evT, evP, evI, startE, startX, slot_zero, slot_succ, own_zero, own_succ, box_zero, box_succ, bind_n, Dr.bind_assoc, pur_n, put_nm, put_tp, put_tpL, puts_nil, puts_cons, then_n, then_rt, then_rtO, told_rtO, put2_c, put3_c, evF, evB, flat_i, flat_b, flat_s, asLst_l, f_intI, f_intB, f_odd, f_notN, f_fListL, f_fListT, non_i, non_n, f_neS, then_bk, then_ct, told_rt, evT_qY, andB_t, andB_f, orB_t, orB_f, asInt_i, Dr.opt_some, small, within, List.length_cons, List.length_nil, List.map_cons, List.map_nil, List.cons_append, List.nil_append, List.replicate, List.set_cons_zero, List.set_cons_succ, Tt.vs, Ts.vs, Option.bind_some, Nat.reduceAdd, Nat.reduceSub, Nat.reduceLeDiff, Nat.reduceEqDiff, reduceIte, if_true, if_false, asIx_int, f_add, f_sub, f_lt, f_le, f_gt, f_ge, f_addA, f_subA, f_eqI, f_eqS, f_eqB, f_neI, f_isN, f_ixL, f_ixT, f_neg, f_not, f_min, f_max, f_abs, f_tB, f_lenL, f_lenT, f_list, f_listT, f_tup, f_tupT, f_wSeqL, f_wSeqT, f_cutT, f_cutL, wipeX, List.all_cons, List.all_nil, List.contains_cons, List.elem_nil, Bool.and_true, Bool.true_and, beq_self_eq_true, Bool.or_true, Bool.true_or, Bool.false_eq_true, Option.some.injEq, decide_true, decide_false, Bool.not_true, Bool.not_false, Nat.reduceBEq, Bool.or_false, Bool.false_or, List.append_nil, List.singleton_append, true_and, and_true, and_self, g1, c, c2]
      rfl
  have e1 : (List.range ns.length).map (fun i => rnD ((true, true == evn i), ns.getD i 0)) = wD (twW true ns) := by
    rw [tw_ix]
    unfold wD
    rw [List.map_map]
    rfl
  rw [e1] at hc
  have e2 : enumL (dI ns) = (List.range ns.length).map fun (i : Nat) => PyData.tuple [.int (i : Int), (dI ns).getD i .none] := by
    unfold enumL
    rw [List.length_map]
  have e3 := bare_eq hr h0 hl
  have e4 : sem_breathed [r, tN (reps rs.length 0), .list (wD (twW true ns))] = _ := breathed_eq hr rfl rfl (fit_zero r0) hl (tw_ok hn)
  have l1 : ((List.range ns.length).map fun (i : Nat) => PyData.tuple [.int (i : Int), (dI ns).getD i .none]).length ≤ 100000 := by
    rw [List.length_map, List.length_range]
    omega
  simp only [sem_led_by, a_led_by, DP.run, DP.runB, evS, evE, evA, evT, evP, evI, startE, startX, slot_zero, slot_succ, own_zero, own_succ, box_zero, box_succ, bind_n, Dr.bind_assoc, pur_n, put_nm, put_tp, put_tpL, puts_nil, puts_cons, then_n, then_rt, then_rtO, told_rtO, put2_c, put3_c, evF, evB, flat_i, flat_b, flat_s, asLst_l, f_intI, f_intB, f_odd, f_notN, f_fListL, f_fListT, non_i, non_n, f_neS, then_bk, then_ct, told_rt, evT_qY, andB_t, andB_f, orB_t, orB_f, asInt_i, Dr.opt_some, small, within, List.length_cons, List.length_nil, List.map_cons, List.map_nil, List.cons_append, List.nil_append, List.replicate, List.set_cons_zero, List.set_cons_succ, Tt.vs, Ts.vs, Option.bind_some, Nat.reduceAdd, Nat.reduceSub, Nat.reduceLeDiff, Nat.reduceEqDiff, reduceIte, if_true, if_false, asIx_int, f_add, f_sub, f_lt, f_le, f_gt, f_ge, f_addA, f_subA, f_eqI, f_eqS, f_eqB, f_neI, f_isN, f_ixL, f_ixT, f_neg, f_not, f_min, f_max, f_abs, f_tB, f_lenL, f_lenT, f_list, f_listT, f_tup, f_tupT, f_wSeqL, f_wSeqT, f_cutT, f_cutL, wipeX, List.all_cons, List.all_nil, List.contains_cons, List.elem_nil, Bool.and_true, Bool.true_and, beq_self_eq_true, Bool.or_true, Bool.true_or, Bool.false_eq_true, Option.some.injEq, decide_true, decide_false, Bool.not_true, Bool.not_false, Nat.reduceBEq, Bool.or_false, Bool.false_or, List.append_nil, List.singleton_append, true_and, and_true, and_self, en, e2, l1, hc, e3, e4]
  rfl
theorem with_turn_eq {r t : PyData} {rs ns : List Int} {n : Int} (hr : seqF r = some (dI rs)) (ht : seqF t = some (dI ns)) (h0 : 1 ≤ rs.length) (hl : rs.length ≤ 1000) (r0 : ∀ r ∈ rs, 0 ≤ r) (hn : ∀ n ∈ ns, 0 ≤ n) (n0 : 0 ≤ n) (nl : ns.length ≤ 900) : sem_with_turn [r, t, .int n] = .ret (lN (nmN rs (ledM rs (ns ++ [n])))) := by
  have e1 := list_seq ht
  have e2 : oCatL.f (.list (dI ns)) (.list [.int n]) = some (lN (ns ++ [n])) := catL_i (ys := [n]) (by simp; omega)
  have hn2 : ∀ m ∈ ns ++ [n], 0 ≤ m := fun m hm => by
    rcases List.mem_append.mp hm with h | h
    · exact hn m h
    · rw [List.mem_singleton.mp h]
      exact n0
  have e3 : sem_led_by [r, lN (ns ++ [n])] = _ := led_by_eq hr rfl h0 hl r0 hn2 (by rw [List.length_append]; show ns.length + 1 ≤ 1000; omega)
  have e4 : sem_name_of [r, tN (ledM rs (ns ++ [n]))] = _ := name_of_eq hr rfl (led_fit r0 hn2).len h0 hl
  simp only [sem_with_turn, a_with_turn, DP.run, DP.runB, evS, evE, evA, evT, evP, evI, startE, startX, slot_zero, slot_succ, own_zero, own_succ, box_zero, box_succ, bind_n, Dr.bind_assoc, pur_n, put_nm, put_tp, put_tpL, puts_nil, puts_cons, then_n, then_rt, then_rtO, told_rtO, put2_c, put3_c, evF, evB, flat_i, flat_b, flat_s, asLst_l, f_intI, f_intB, f_odd, f_notN, f_fListL, f_fListT, non_i, non_n, f_neS, then_bk, then_ct, told_rt, evT_qY, andB_t, andB_f, orB_t, orB_f, asInt_i, Dr.opt_some, small, within, List.length_cons, List.length_nil, List.map_cons, List.map_nil, List.cons_append, List.nil_append, List.replicate, List.set_cons_zero, List.set_cons_succ, Tt.vs, Ts.vs, Option.bind_some, Nat.reduceAdd, Nat.reduceSub, Nat.reduceLeDiff, Nat.reduceEqDiff, reduceIte, if_true, if_false, asIx_int, f_add, f_sub, f_lt, f_le, f_gt, f_ge, f_addA, f_subA, f_eqI, f_eqS, f_eqB, f_neI, f_isN, f_ixL, f_ixT, f_neg, f_not, f_min, f_max, f_abs, f_tB, f_lenL, f_lenT, f_list, f_listT, f_tup, f_tupT, f_wSeqL, f_wSeqT, f_cutT, f_cutL, wipeX, List.all_cons, List.all_nil, List.contains_cons, List.elem_nil, Bool.and_true, Bool.true_and, beq_self_eq_true, Bool.or_true, Bool.true_or, Bool.false_eq_true, Option.some.injEq, decide_true, decide_false, Bool.not_true, Bool.not_false, Nat.reduceBEq, Bool.or_false, Bool.false_or, List.append_nil, List.singleton_append, true_and, and_true, and_self, e1, e2, e3, e4]
theorem nm_pos {rs ts : List Int} (hf : Fit rs ts) : ∀ n ∈ nmN rs ts, 1 ≤ n := fun n hn => by
  obtain ⟨x, hx, rfl⟩ := List.mem_map.mp hn
  exact wayB_pos hf x hx
theorem nm_len (rs ts : List Int) : (nmN rs ts).length ≤ rs.length := by
  rw [List.length_map]
  exact wayB_len rs ts
theorem word_fst (rs : List Int) : ∀ (w : List Tr) (x cs : List Int), ((trW w).foldl (wstep rs) (x, cs)).1 = w.foldl (fun x y => (runL y.2.1 rs x y.2.2).1) x
  | [], _, _ => rfl
  | y :: w, x, cs => word_fst rs w _ _
/-- sizes drawn one by one -/
theorem compr_sizes {α : Type} {step : PyData → Dr (Option PyData)} {g : α → PyData} {xs : List α} {hi : Int} (hs : ∀ x ∈ xs, (step (g x)).le 1 fun o => ∃ v, o = some v ∧ ∃ r, v = .int r ∧ 1 ≤ r ∧ r ≤ hi) : (compr step (xs.map g)).le xs.length fun l => ∃ rs, l = dI rs ∧ rs.length = xs.length ∧ ∀ r ∈ rs, 1 ≤ r ∧ r ≤ hi := by
  have hc := compr_le (step := step) (g := g) (k := 1) (Ψ := fun _ v => ∃ r, v = .int r ∧ 1 ≤ r ∧ r ≤ hi) (xs := xs) hs
  rw [Nat.one_mul] at hc
  refine Dr.le_mono hc fun l ⟨hl, hp⟩ => ?_
  obtain ⟨rs, rfl, hr⟩ := ints_all (p := fun r => 1 ≤ r ∧ r ≤ hi) (ds := l) (get_all (xs := xs) hl hp)
  rw [List.length_map] at hl
  exact ⟨rs, rfl, hl, hr⟩
/-- standings drawn one by one -/
theorem compr_lots {α : Type} {step : PyData → Dr (Option PyData)} {g : α → PyData} {rs : List Int} {k : Nat} : ∀ {xs : List α}, (∀ x ∈ xs, (step (g x)).le k fun o => ∃ v, o = some v ∧ ∃ ls, v = tN ls ∧ Fit rs ls) → (compr step (xs.map g)).le (k * xs.length) fun l => ∃ lots : List (List Int), l = lots.map tN ∧ lots.length = xs.length ∧ ∀ ls ∈ lots, Fit rs ls
  | [], _ => ⟨[], rfl, rfl, fun ls h => by cases h⟩
  | x :: r, hs => by
    have h2 := compr_lots (step := step) (g := g) (k := k) (rs := rs) fun y hy => hs y (List.mem_cons_of_mem _ hy)
    rw [List.length_cons, Nat.mul_succ, Nat.add_comm]
    refine Dr.le_bind (hs x (List.mem_cons_self ..)) fun o ⟨v, eo, ls, ev, hv⟩ => ?_
    subst eo ev
    refine Dr.le_bind (m := 0) h2 fun l ⟨lots, el, hl, hp⟩ => ?_
    subst el
    refine ⟨ls :: lots, rfl, by rw [List.length_cons, hl], fun y hy => ?_⟩
    rcases List.mem_cons.mp hy with rfl | hy
    · exact hv
    · exact hp y hy
end WK

namespace K98
open PySem PySem.Spec PyProof.Rows L2 ZX DL RT DP
def topS (i : Nat) : Stmt := PySem.Challenge.pw_breathrows_k98_whole_from_name_to_name.main.body.getD i (.Pass ⟨0, 0, 0, 0⟩)
abbrev s_bare : Stmt := topS 1
abbrev N_bare : List Str := ["rooms"]
theorem c_bare : FnScope N_bare ["rooms"] (defScope s_bare) := ⟨rfl, rfl, rfl, by decide +kernel, rfl, by decide +kernel, by decide +kernel⟩
abbrev s_size_of : Stmt := topS 5
abbrev N_size_of : List Str := ["word", "breath", "many"]
theorem c_size_of : FnScope N_size_of ["word"] (defScope s_size_of) := ⟨rfl, rfl, rfl, by decide +kernel, rfl, by decide +kernel, by decide +kernel⟩
abbrev s_turned : Stmt := topS 6
abbrev N_turned : List Str := ["word", "breath", "many"]
theorem c_turned : FnScope N_turned ["word"] (defScope s_turned) := ⟨rfl, rfl, rfl, by decide +kernel, rfl, by decide +kernel, by decide +kernel⟩
abbrev s_reached : Stmt := topS 9
abbrev N_reached : List Str := ["rooms", "breath", "bellows"]
theorem c_reached : FnScope N_reached ["rooms", "breath"] (defScope s_reached) := ⟨rfl, rfl, rfl, by decide +kernel, rfl, by decide +kernel, by decide +kernel⟩
abbrev s_run_done : Stmt := topS 10
abbrev N_run_done : List Str := ["rooms", "standing", "breath", "many", "lying", "comes_in", "rest", "at", "landed"]
theorem c_run_done : FnScope N_run_done ["rooms", "standing", "breath", "many"] (defScope s_run_done) := ⟨rfl, rfl, rfl, by decide +kernel, rfl, by decide +kernel, by decide +kernel⟩
abbrev s_word_done : Stmt := topS 11
abbrev N_word_done : List Str := ["rooms", "standing", "word", "lying", "counts", "breath", "many", "rest"]
theorem c_word_done : FnScope N_word_done ["rooms", "standing", "word"] (defScope s_word_done) := ⟨rfl, rfl, rfl, by decide +kernel, rfl, by decide +kernel, by decide +kernel⟩
abbrev s_breathed : Stmt := topS 12
abbrev N_breathed : List Str := ["rooms", "standing", "word", "lying", "counts"]
theorem c_breathed : FnScope N_breathed ["rooms", "standing", "word"] (defScope s_breathed) := ⟨rfl, rfl, rfl, by decide +kernel, rfl, by decide +kernel, by decide +kernel⟩
abbrev s_left_way : Stmt := topS 14
abbrev N_left_way : List Str := ["rooms", "one", "other", "way", "lying", "at", "many"]
theorem c_left_way : FnScope N_left_way ["rooms", "one", "other"] (defScope s_left_way) := ⟨rfl, rfl, rfl, by decide +kernel, rfl, by decide +kernel, by decide +kernel⟩
abbrev s_led_by : Stmt := topS 16
abbrev N_led_by : List Str := ["rooms", "turns", "word", "at", "many"]
theorem c_led_by : FnScope N_led_by ["rooms", "turns"] (defScope s_led_by) := ⟨rfl, rfl, rfl, by decide +kernel, rfl, by decide +kernel, by decide +kernel⟩
abbrev s_name_of : Stmt := topS 17
abbrev N_name_of : List Str := ["rooms", "standing", "at", "breath", "many"]
theorem c_name_of : FnScope N_name_of ["rooms", "standing"] (defScope s_name_of) := ⟨rfl, rfl, rfl, by decide +kernel, rfl, by decide +kernel, by decide +kernel⟩
abbrev s_with_turn : Stmt := topS 18
abbrev N_with_turn : List Str := ["rooms", "turns", "many"]
theorem c_with_turn : FnScope N_with_turn ["rooms", "turns", "many"] (defScope s_with_turn) := ⟨rfl, rfl, rfl, by decide +kernel, rfl, by decide +kernel, by decide +kernel⟩
abbrev s_fewest_left : Stmt := topS 20
abbrev N_fewest_left : List Str := ["rooms", "one", "other", "at", "breath", "many"]
theorem c_fewest_left : FnScope N_fewest_left ["rooms", "one", "other"] (defScope s_fewest_left) := ⟨rfl, rfl, rfl, by decide +kernel, rfl, by decide +kernel, by decide +kernel⟩
abbrev s_fewest_right : Stmt := topS 21
abbrev N_fewest_right : List Str := ["rooms", "one", "other"]
theorem c_fewest_right : FnScope N_fewest_right ["rooms", "one", "other"] (defScope s_fewest_right) := ⟨rfl, rfl, rfl, by decide +kernel, rfl, by decide +kernel, by decide +kernel⟩
abbrev s_by_gap : Stmt := topS 22
abbrev N_by_gap : List Str := ["rooms", "one", "other", "gap", "left"]
theorem c_by_gap : FnScope N_by_gap ["rooms", "one", "other", "gap"] (defScope s_by_gap) := ⟨rfl, rfl, rfl, by decide +kernel, rfl, by decide +kernel, by decide +kernel⟩
abbrev s_fewest : Stmt := topS 23
abbrev N_fewest : List Str := ["rooms", "one", "other", "words", "sizes", "gap", "word"]
theorem c_fewest : FnScope N_fewest ["rooms", "one", "other"] (defScope s_fewest) := ⟨rfl, rfl, rfl, by decide +kernel, rfl, by decide +kernel, by decide +kernel⟩
abbrev s_how_few : Stmt := topS 24
abbrev N_how_few : List Str := ["rooms", "one", "other"]
theorem c_how_few : FnScope N_how_few ["rooms", "one", "other"] (defScope s_how_few) := ⟨rfl, rfl, rfl, by decide +kernel, rfl, by decide +kernel, by decide +kernel⟩
abbrev s_L_box : Stmt := topS 26
abbrev N_L_box : List Str := ["_law_script", "_law_k", "_law_cell"]
theorem c_L_box : FnScope N_L_box ["_law_script", "_law_k"] (defScope s_L_box) := ⟨rfl, rfl, rfl, by decide +kernel, rfl, by decide +kernel, by decide +kernel⟩
abbrev s_L_take : Stmt := topS 27
abbrev N_L_take : List Str := ["_law_box_here", "_law_below", "_law_found", "_law_once"]
theorem c_L_take : FnScope N_L_take ["_law_box_here", "_law_below"] (defScope s_L_take) := ⟨rfl, rfl, rfl, by decide +kernel, rfl, by decide +kernel, by decide +kernel⟩
abbrev s_L_lot : Stmt := topS 28
abbrev N_L_lot : List Str := ["_law_box_here", "_law_sizes", "_law_way", "_law_lot_here", "_law_size"]
theorem c_L_lot : FnScope N_L_lot ["_law_box_here", "_law_sizes"] (defScope s_L_lot) := ⟨rfl, rfl, rfl, by decide +kernel, rfl, by decide +kernel, by decide +kernel⟩
abbrev s_L_named : Stmt := topS 29
abbrev N_L_named : List Str := ["_law_sizes", "_law_some", "_law_runs", "_law_breath", "_law_often"]
theorem c_L_named : FnScope N_L_named ["_law_sizes", "_law_some", "_law_runs"] (defScope s_L_named) := ⟨rfl, rfl, rfl, by decide +kernel, rfl, by decide +kernel, by decide +kernel⟩
abbrev s_L_right : Stmt := topS 30
abbrev N_L_right : List Str := ["_law_box_here", "_law_turn", "_law_sizes", "_law_lots", "_law_sums", "_law_here", "_law_there", "_law_gap_told", "_law_runs", "_law_left", "_law_ends", "_law_some", "_law_place", "_law_breath", "_law_often"]
theorem c_L_right : FnScope N_L_right ["_law_box_here"] (defScope s_L_right) := ⟨rfl, rfl, rfl, by decide +kernel, rfl, by decide +kernel, by decide +kernel⟩
abbrev s_law : Stmt := topS 31
abbrev N_law : List Str := ["_law_script", "_law_k"]
theorem c_law : FnScope N_law ["_law_script"] (defScope s_law) := ⟨rfl, rfl, rfl, by decide +kernel, rfl, by decide +kernel, by decide +kernel⟩
structure Bi (mg : Str → Option Value) : Prop where
  n_len : mg "len" = none
  n_isinstance : mg "isinstance" = none
  n_all : mg "all" = none
  n_any : mg "any" = none
  n_zip : mg "zip" = none
  n_range : mg "range" = none
  n_min : mg "min" = none
  n_max : mg "max" = none
  n_abs : mg "abs" = none
  n_int : mg "int" = none
  n_bool : mg "bool" = none
  n_str : mg "str" = none
  n_list : mg "list" = none
  n_tuple : mg "tuple" = none
  n_sum : mg "sum" = none
  n_enumerate : mg "enumerate" = none
  n_reversed : mg "reversed" = none
  n_divmod : mg "divmod" = none
def da_ (z0 z1 zt0 : Addr) : Nat → Option Addr
  | 0 => some z0
  | 1 => some z1
  | 10 => some zt0
  | _ => none
structure Dcs (K : PySem.W.Frag) (w : World) (mg : Str → Option Value) (z0 z1 zt0 : Addr) : Prop where
  hD : HD K w (da_ z0 z1 zt0)
  g0 : mg "HEARD_AT" = some (.ref z0)
  g1 : mg "OTHER_HAND" = some (.ref z1)
  t0 : mg "INS" = some (.ref zt0)
section
variable {P : Program} {w : World} {K : PySem.W.Frag} {mg : Str → Option Value} {base : Heap} {f : Addr} {fd : FuncData} {z0 z1 zt0 : Addr}
theorem ok_take (B : Bi mg) (F : Fun K "_law_take" "_law_take" s_L_take f fd) : FnOk P w K mg base CX0 1 f fd ["_law_box_here", "_law_below"] (spB K Rtake) := by
  refine F.ok c_L_take (fun vs H Q E h => ?_) (fun cdv A outer s H vs Q E hr h => ?_)
  · obtain ⟨b, vs', G, ds, r, c, Φ, rfl, dd, _, ⟨m, rfl, _⟩, _⟩ := h
    rw [List.length_cons, dd.len]
    rfl
  · obtain ⟨b, vs', G, ds, r, c, Φ, rfl, dd, hw, ⟨m, rfl, m1, m2, rfl, rfl⟩, q⟩ := h
    cases dd with
    | cons d0 dn =>
    cases dn
    cases d0
    obtain ⟨c0, c1, c2, hb, p0, p1, p2, p3, p4⟩ := hw.inv
    have nG : G b = none := hw.no b rfl
    have fin : ∀ (d0 d2 i : Int), 0 ≤ d0 → 0 ≤ d2 → d2 + r ≤ 2 ^ 40 → 0 ≤ i → i < m → Q (.int i) (upd H b (.lst [.int d0, .int c1, .int d2])) := fun d0 d2 i a1 a2 a3 a4 a5 => by
      refine q _ (.int i) G _ ⟨fun _ _ e => e, fun a o e => ?_, fun _ _ _ => rfl, fun a o e n => ?_, fun a o e => ?_⟩ ⟨fun a o e => ?_, hw.no, ⟨d0, c1, d2, upd_same, a1, p1, p2, a2, a3⟩⟩ (.int i) ⟨i, rfl, a4, a5⟩
      · rw [upd_ne (ne_of_none e nG)]
        exact hw.sub a o e
      · rw [upd_ne n]
        exact e
      · by_cases ea : a = b
        · exact ⟨_, by rw [ea]; exact upd_same⟩
        · exact ⟨o, by rw [upd_ne ea]; exact e⟩
      · rw [upd_ne (ne_of_none e nG)]
        exact hw.sub a o e
    refine ⟨_, (pss_cons (ps_if (pt_cmpR op_gt (pe_ix ix_list (pv 0) pe_int (fun _ _ => rfl)) pe_int (nomark _)) (pss_cons (ps_set (i := 2) c_L_take.nd rfl (.inl rfl) (pe_op op_modN (pe_ix ix_list (pv 0) pe_int (fun _ _ => rfl)) (pv 1)))
      (pss_cons (ps_asg (pe_op op_fdivW (pe_ix ix_list (pv 0) pe_int (fun _ _ => rfl)) (pv 1)) (pg_sub (pv 0) pe_int set_list))
      (pss_one (ps_ret (pv 2))))) pss_nil)
      (pss_cons (ps_asg (pe_op op_add (pe_ix ix_list (pv 0) pe_int (fun _ _ => rfl)) pe_int) (pg_sub (pv 0) pe_int set_list))
      (pss_cons (ps_set (i := 3) c_L_take.nd rfl (.inl rfl) (pe_op op_modN (pe_op op_pow (pe_op op_add (pe_ix ix_list (pv 0) pe_int (fun _ _ => rfl)) (pe_op op_mul pe_int (pe_ix ix_list (pv 0) pe_int (fun _ _ => rfl)))) pe_int) pe_int))
      (pss_one (ps_ret (pe_op op_modN (pe_op op_fdivW (pe_op op_modN (pe_op op_add (pe_op op_mul (pv 3) (pe_op op_add (pe_op op_modN (pv 3) pe_int) pe_int)) (pe_op op_mul (pe_ix ix_list (pv 0) pe_int (fun _ _ => rfl)) pe_int)) pe_int) pe_int) (pv 1))))))), ?_⟩
    have hS : SqL K H b [.int c0, .int c1, .int c2] := .inl (.inl hb)
    refine ⟨.ref b, rfl, b, _, 0, .int c0, rfl, rfl, hS, rfl, c0, 0, rfl, rfl, _, rfl, ite2 (fun e => ?_) (fun e => ?_)⟩
    · have e0 : 0 < c0 := of_decide_eq_true e
      refine ⟨.ref b, rfl, b, _, 0, .int c0, rfl, rfl, hS, rfl, .int m, rfl, c0, m, rfl, rfl, by omega, ?_⟩
      refine ⟨.ref b, rfl, b, _, 0, .int c0, rfl, rfl, hS, rfl, .int m, rfl, c0, m, rfl, rfl, wide_div (b := 30) (by omega) (by omega) (by omega) (by omega), ?_⟩
      refine ⟨.ref b, rfl, b, _, 0, 0, rfl, rfl, hb, rfl, ?_⟩
      refine ⟨.int (c0.fmod m), rfl, ?_⟩
      refine fin (c0 / m) c2 (c0.fmod m) (Int.ediv_nonneg p0 (by omega)) p3 (by omega) ?_ ?_
      · rw [Int.fmod_eq_emod_of_nonneg _ (by omega)]
        exact Int.emod_nonneg _ (by omega)
      · rw [Int.fmod_eq_emod_of_nonneg _ (by omega)]
        exact Int.emod_lt_of_pos _ (by omega)
    · refine ⟨.ref b, rfl, b, _, 2, .int c2, rfl, rfl, hS, rfl, c2, 1, rfl, rfl, ?_⟩
      refine ⟨.ref b, rfl, b, _, 2, 2, rfl, rfl, hb, rfl, ?_⟩
      have hS2 : SqL K (upd H b (.lst [.int c0, .int c1, .int (c2 + 1)])) b [.int c0, .int c1, .int (c2 + 1)] := .inl (.inl upd_same)
      refine ⟨.ref b, rfl, b, _, 1, .int c1, rfl, rfl, hS2, rfl, .ref b, rfl, b, _, 2, .int (c2 + 1), rfl, rfl, hS2, rfl, 48271, c2 + 1, rfl, rfl, .inl ⟨by decide, by decide⟩, c1, 48271 * (c2 + 1), rfl, rfl, _, 5, rfl, rfl, ⟨by decide, by decide, ?_⟩, _, 2147483647, rfl, rfl, (show (2147483647 : Int) ≠ 0 by decide), ?_⟩
      · omega
      obtain ⟨z, hz⟩ : ∃ z, ((c1 + 48271 * (c2 + 1)) ^ (Int.toNat 5)).fmod 2147483647 = z := ⟨_, rfl⟩
      have z0 : 0 ≤ z := by
        rw [← hz, Int.fmod_eq_emod_of_nonneg _ (by decide)]
        exact Int.emod_nonneg _ (by decide)
      have z1 : z < 2147483647 := by
        rw [← hz, Int.fmod_eq_emod_of_nonneg _ (by decide)]
        exact Int.emod_lt_of_pos _ (by decide)
      refine ⟨.int z, by rw [← hz]; rfl, .int z, by rw [← hz]; rfl, z, 30011, rfl, rfl, (show (30011 : Int) ≠ 0 by decide), _, 7, rfl, rfl, z, _, rfl, rfl, .inl ⟨by omega, by omega⟩, .ref b, rfl, b, _, 2, .int (c2 + 1), rfl, rfl, hS2, rfl, c2 + 1, 7919, rfl, rfl, .inr ⟨by decide, by decide⟩, _, _, rfl, rfl, _, 2147483629, rfl, rfl, (show (2147483629 : Int) ≠ 0 by decide), _, 64, rfl, rfl, wide_div (b := 7) (by decide) (by decide) (by decide) (by decide), .int m, rfl, _, m, rfl, rfl, by omega, ?_⟩
      refine fin c0 (c2 + 1) _ p0 (by omega) (by omega) ?_ ?_
      · rw [Int.fmod_eq_emod_of_nonneg _ (by omega : 0 ≤ m)]
        exact Int.emod_nonneg _ (by omega)
      · rw [Int.fmod_eq_emod_of_nonneg _ (by omega : 0 ≤ m)]
        exact Int.emod_lt_of_pos _ (by omega)
end
noncomputable def b_L_named_1 : S :=
  (.cond (.tru tB' (.op oEq (.op oEq (.op oMod (.cb bLen (.cons (.var 1) .nil)) (cI 2)) (cI 0)) (.op oEq (.var 3) (cS "L+")))) (.asg (.nm 1) (.call sem_with_turn (.cons (.var 0) (.cons (.var 1) (.cons (.var 4) .nil))))) (.cond (.tru tB' (.op oEqD (.var 1) (.lst .nil))) (.asg (.nm 1) (.lst .nil)) (.asg (.nm 1) (.call sem_with_turn (.cons (.var 0) (.cons (.sl sLst (.var 1) .no (.at (.un uNeg (cI 1)))) (.cons (.op oAdd (.op oIxL (.var 1) (.un uNeg (cI 1))) (.var 4)) .nil)))))))
noncomputable def a_L_named : S :=
  (.seq (.loop (.one wSeq (.var 2)) (.tp (.cons (.nm 3) (.cons (.nm 4) .nil))) b_L_named_1)
    (.ret (.var 1)))
noncomputable def sem_L_named : Fs := run 5 3 a_L_named
noncomputable def x_L_right_1 : E :=
  (.op oAdd (cI 1) (.callB takeF 0 (.cons (cI 99) .nil)))
noncomputable def x_L_right_2 : E :=
  (.callB sem_L_lot 0 (.cons (.var 2) .nil))
noncomputable def x_L_right_3 : E :=
  (.call sem_breathed (.cons (.var 2) (.cons (.var 5) (.cons (.var 11) .nil))))
noncomputable def b_L_right_1 : S :=
  (.seq (.asg (.tp (.cons (.nm 7) (.cons (.nm 8) .nil))) (.call sem_fewest (.cons (.var 2) (.cons (.var 5) (.cons (.var 6) .nil)))))
    (.seq (.asg (.nm 9) (.call sem_fewest_left (.cons (.var 2) (.cons (.var 5) (.cons (.var 6) .nil)))))
    (.seq (.asg (.nm 10) (.lc (.one wSeq (.tup (.cons (.var 8) (.cons (.var 9) (.cons (.call sem_fewest_right (.cons (.var 2) (.cons (.var 5) (.cons (.var 6) .nil)))) .nil))))) (.nm 11) [11] qY x_L_right_3))
    (.seq (.cond (.or (.tru tB' (.op oNeD (.var 10) (.op oRepL (.lst (.cons (.var 6) .nil)) (cI 3)))) (.or (.not (.tru tB' (.chain oLe oLe (cI 0) (.var 7) (.cb bLen (.cons (.var 2) .nil))))) (.tru tB' (.op oNe (.call sem_size_of (.cons (.var 8) .nil)) (.call sem_how_few (.cons (.var 2) (.cons (.var 5) (.cons (.var 6) .nil)))))))) (.ret (cB false)) .next)
    (.seq (.cond (.tru tB' (.op oNeD (.call sem_L_named (.cons (.var 2) (.cons (.call sem_name_of (.cons (.var 2) (.cons (.var 5) .nil))) (.cons (.var 9) .nil)))) (.call sem_name_of (.cons (.var 2) (.cons (.var 6) .nil))))) (.ret (cB false)) .next)
    (.asg (.nm 4) (.op oAdd (.var 4) (.call sem_size_of (.cons (.var 8) .nil)))))))))
noncomputable def x_L_right_4 : E :=
  (.var 14)
noncomputable def t_L_right_1 : S :=
  (.seq (.asg (.nm 4) (cI 0))
    (.seq (.loop (.many wZip (.cons (.var 3) (.cons (.sl sLst (.var 3) (.at (cI 1)) .no) .nil))) (.tp (.cons (.nm 5) (.cons (.nm 6) .nil))) b_L_right_1)
    (.seq (.cond (.tru tB' (.op oGt (.call sem_how_few (.cons (.var 2) (.cons (.op oIxL (.var 3) (cI 0)) (.cons (.op oIxL (.var 3) (.un uNeg (cI 1))) .nil)))) (.var 4))) (.ret (cB false)) .next)
    (.seq (.asg (.nm 11) (.lc (.one wSeq (.call sem_fewest_left (.cons (.var 2) (.cons (.call sem_bare (.cons (.var 2) .nil)) (.cons (.op oIxL (.var 3) (cI 0)) .nil))))) (.tp (.cons (.nm 13) (.cons (.nm 14) .nil))) [13, 14] qY x_L_right_4))
    (.cond (.or (.tru tB' (.op oNeD (.var 11) (.call sem_name_of (.cons (.var 2) (.cons (.op oIxL (.var 3) (cI 0)) .nil))))) (.tru tB' (.op oNeD (.call sem_led_by (.cons (.var 2) (.cons (.var 11) .nil))) (.op oIxL (.var 3) (cI 0))))) (.ret (cB false)) .next)))))
noncomputable def b_L_right_2 : S :=
  (.seq (.asg (.nm 2) (.cb bTup (.cons (.lc (.many wRng (.cons (.op oAdd (cI 1) (.callB takeF 0 (.cons (cI 12) .nil))) .nil)) (.nm 12) [12] qY x_L_right_1) .nil)))
    (.seq (.asg (.nm 3) (.lc (.many wRng (.cons (cI 5) .nil)) (.nm 12) [12] qY x_L_right_2))
    t_L_right_1))
noncomputable def a_L_right : S :=
  (.seq (.loop (.many wRng (.cons (cI 3) .nil)) (.nm 1) b_L_right_2)
    (.ret (cB true)))
noncomputable def sem_L_right : Fs := runB 15 1 a_L_right
section
variable {P : Program} {w : World} {K : PySem.W.Frag} {mg : Str → Option Value} {base : Heap} {f : Addr} {fd : FuncData} {z0 z1 zt0 : Addr}
theorem ok_bare (B : Bi mg) (Dc : Dcs K w mg z0 z1 zt0)  (F : Fun K "bare" "bare" s_bare f fd) : FnOk P w K mg base CX0 1 f fd ["rooms"] (spF K sem_bare) :=
  fnP (N := N_bare) Dc.hD F c_bare (b := a_bare) fun cdv A outer s H E hr =>
    (pss_one (ps_ret (pe_op op_repZ (pe_tup (pa_cons pe_int pa_nil)) (pe_callB call_len_seq (by rfl) B.n_len (by decide +kernel) (pa_cons (pv 0) pa_nil)))))
theorem ok_size_of (B : Bi mg) (Dc : Dcs K w mg z0 z1 zt0)  (F : Fun K "size_of" "size_of" s_size_of f fd) : FnOk P w K mg base CX0 1 f fd ["word"] (spF K sem_size_of) :=
  fnP (N := N_size_of) Dc.hD F c_size_of (b := a_size_of) fun cdv A outer s H E hr =>
    (pss_one (ps_ret (pe_callB (cr_sumX rfl) (by rfl) B.n_sum (by decide +kernel) (pa_cons (pe_lc (own := [("breath", 1), ("many", 2)]) (g := SS0.gSeq K 2 (gCons (gName 1) (gCons (gName 2) gNil))) (tt := tYes) rfl c_size_of.nd (pi_seqX (pv 0)) (blkOk_by (N := N_size_of) (sc := defScope s_size_of) (by decide +kernel)) (fun _ _ _ _ _ => (SS0.pg_seq rfl (pgs_cons (pg_name (i := 1) c_size_of.nd rfl (.inl rfl)) (pgs_cons (pg_name (i := 2) c_size_of.nd rfl (.inl rfl)) pgs_nil)))) (fun _ _ _ _ _ => pts_nil) (fun _ _ _ _ _ => (pv 2))) pa_nil))))
theorem ok_turned (B : Bi mg) (Dc : Dcs K w mg z0 z1 zt0)  (F : Fun K "turned" "turned" s_turned f fd) : FnOk P w K mg base CX0 1 f fd ["word"] (spF K sem_turned) :=
  fnP (N := N_turned) Dc.hD F c_turned (b := a_turned) fun cdv A outer s H E hr =>
    (pss_one (ps_ret (pe_lc (own := [("breath", 1), ("many", 2)]) (g := SS0.gSeq K 2 (gCons (gName 1) (gCons (gName 2) gNil))) (tt := tYes) rfl c_turned.nd (pi_seqX (pv 0)) (blkOk_by (N := N_turned) (sc := defScope s_turned) (by decide +kernel)) (fun _ _ _ _ _ => (SS0.pg_seq rfl (pgs_cons (pg_name (i := 1) c_turned.nd rfl (.inl rfl)) (pgs_cons (pg_name (i := 2) c_turned.nd rfl (.inl rfl)) pgs_nil)))) (fun _ _ _ _ _ => pts_nil) (fun _ _ _ _ _ => (pe_tup (pa_cons (pe_ix (ki_kd (K := K) (w := w) rfl rfl) (pe_glob (v := .ref z1) (by rfl) (Dc.g1) rfl) (pv 1) (fun _ _ => rfl)) (pa_cons (pv 2) pa_nil)))))))
theorem ok_reached (B : Bi mg) (Dc : Dcs K w mg z0 z1 zt0)  (F : Fun K "reached" "reached" s_reached f fd) : FnOk P w K mg base CX0 1 f fd ["rooms", "breath"] (spF K sem_reached) :=
  fnP (N := N_reached) Dc.hD F c_reached (b := a_reached) fun cdv A outer s H E hr =>
    (pss_cons (ps_set (i := 2) c_reached.nd rfl (.inl rfl) (pe_listRg rfl (by rfl) B.n_list (prg_1 (by rfl) B.n_range (pe_callB call_len_seq (by rfl) B.n_len (by decide +kernel) (pa_cons (pv 0) pa_nil)))))
      (pss_cons (ps_if (pt_cmpR op_in_seq (pv 1) (pe_tup (pa_cons pe_str (pa_cons pe_str pa_nil))) (by with_unfolding_all rfl)) (pss_one (ps_ret (pv 2))) pss_nil)
      (pss_one (ps_ret (pe_revL (pv 2))))))
theorem ok_run_done (B : Bi mg) (Dc : Dcs K w mg z0 z1 zt0) (c_reached_ : Cl P w K mg base 1 "reached" s_reached ["rooms", "breath"] (spF K sem_reached)) (F : Fun K "run_done" "run_done" s_run_done f fd) : FnOk P w K mg base CX0 2 f fd ["rooms", "standing", "breath", "many"] (spF K sem_run_done) :=
  fnP (N := N_run_done) Dc.hD F c_run_done (b := a_run_done) fun cdv A outer s H E hr =>
    (pss_cons (ps_set (i := 4) c_run_done.nd rfl (.inl rfl) (pe_callTy call_list_of (by rfl) B.n_list (by decide +kernel) (pa_cons (pv 1) pa_nil)))
      (pss_cons (ps_set (i := 5) c_run_done.nd rfl (.inl rfl) (pe_cmpR op_in_seq (pv 2) (pe_glob (v := .ref zt0) (by rfl) (Dc.t0) rfl) (by with_unfolding_all rfl)))
      (pss_cons (ps_set (i := 6) c_run_done.nd rfl (.inl rfl) (pv 3))
      (pss_cons (ps_for PassesOwn.never rfl (pi_seqX (pe_cl c_reached_ hr (by decide) (by rfl) (pa_cons (pv 0) (pa_cons (pv 2) pa_nil)))) (pg_name (i := 7) c_run_done.nd rfl (.inl rfl)) (pss_cons (ps_if (pt_cmpR op_eq (pv 6) pe_int (nomark _)) (pss_one ps_break) pss_nil)
      (pss_cons (ps_set (i := 8) c_run_done.nd rfl (.inl rfl) (pe_callB (call_min2 rfl) (by rfl) B.n_min (by decide +kernel) (pa_cons (pv 6) (pa_cons (pe_ifExp (pt_val (pv 5)) (pe_op op_sub (pe_ix ix_q (pv 0) (pv 7) (fun _ _ => rfl)) (pe_ix ix_list (pv 4) (pv 7) (fun _ _ => rfl))) (pe_ix ix_list (pv 4) (pv 7) (fun _ _ => rfl))) pa_nil))))
      (pss_cons (ps_augS (pv 4) (pv 7) get_list (pe_ifExp (pt_val (pv 5)) (pv 8) (pe_un un_neg (pv 8))) ip_add set_list)
      (pss_one (ps_aug (i := 6) c_run_done.nd rfl (.inl rfl) (pv 8) ip_sub))))))
      (pss_frz (pss_one (ps_ret (pe_tup (pa_cons (pv 4) (pa_cons (pv 6) pa_nil))))))))))
theorem ok_word_done (B : Bi mg) (Dc : Dcs K w mg z0 z1 zt0) (c_run_done_ : Cl P w K mg base 2 "run_done" s_run_done ["rooms", "standing", "breath", "many"] (spF K sem_run_done)) (F : Fun K "word_done" "word_done" s_word_done f fd) : FnOk P w K mg base CX0 3 f fd ["rooms", "standing", "word"] (spF K sem_word_done) :=
  fnP (N := N_word_done) Dc.hD F c_word_done (b := a_word_done) fun cdv A outer s H E hr =>
    (pss_cons (ps_set (i := 3) c_word_done.nd rfl (.inl rfl) (pe_callTy call_list_of (by rfl) B.n_list (by decide +kernel) (pa_cons (pv 1) pa_nil)))
      (pss_cons (ps_set (i := 4) c_word_done.nd rfl (.inl rfl) (pe_lst (pa_cons pe_int (pa_cons pe_int (pa_cons pe_int (pa_cons pe_int pa_nil))))))
      (pss_cons (ps_for PassesOwn.never rfl (pi_seqX (pv 2)) (SS0.pg_seq rfl (pgs_cons (pg_name (i := 5) c_word_done.nd rfl (.inl rfl)) (pgs_cons (pg_name (i := 6) c_word_done.nd rfl (.inl rfl)) pgs_nil))) (pss_cons (ps_asg (pe_cl c_run_done_ hr (by decide) (by rfl) (pa_cons (pv 0) (pa_cons (pv 3) (pa_cons (pv 5) (pa_cons (pv 6) pa_nil))))) (SS0.pg_seq rfl (pgs_cons (pg_name (i := 3) c_word_done.nd rfl (.inl rfl)) (pgs_cons (pg_name (i := 7) c_word_done.nd rfl (.inl rfl)) pgs_nil))))
      (pss_one (ps_augS (pv 4) (pe_ix ix_kdict (pe_glob (v := .ref z0) (by rfl) (Dc.g0) rfl) (pv 5) (fun _ _ => rfl)) get_list (pv 7) ip_add set_list))))
      (pss_frz (pss_one (ps_ret (pe_tup (pa_cons (pe_callTy call_tuple_of (by rfl) B.n_tuple (by decide +kernel) (pa_cons (pv 3) pa_nil)) (pa_cons (pe_callTy call_tuple_of (by rfl) B.n_tuple (by decide +kernel) (pa_cons (pv 4) pa_nil)) pa_nil)))))))))
theorem ok_breathed (B : Bi mg) (Dc : Dcs K w mg z0 z1 zt0) (c_word_done_ : Cl P w K mg base 3 "word_done" s_word_done ["rooms", "standing", "word"] (spF K sem_word_done)) (F : Fun K "breathed" "breathed" s_breathed f fd) : FnOk P w K mg base CX0 4 f fd ["rooms", "standing", "word"] (spF K sem_breathed) :=
  fnP (N := N_breathed) Dc.hD F c_breathed (b := a_breathed) fun cdv A outer s H E hr =>
    (pss_cons (ps_asg (pe_cl c_word_done_ hr (by decide) (by rfl) (pa_cons (pv 0) (pa_cons (pv 1) (pa_cons (pv 2) pa_nil)))) (SS0.pg_seq rfl (pgs_cons (pg_name (i := 3) c_breathed.nd rfl (.inl rfl)) (pgs_cons (pg_name (i := 4) c_breathed.nd rfl (.inl rfl)) pgs_nil))))
      (pss_one (ps_ret (pv 3))))
theorem ok_left_way (B : Bi mg) (Dc : Dcs K w mg z0 z1 zt0)  (F : Fun K "left_way" "left_way" s_left_way f fd) : FnOk P w K mg base CX0 1 f fd ["rooms", "one", "other"] (spF K sem_left_way) :=
  fnP (N := N_left_way) Dc.hD F c_left_way (b := a_left_way) fun cdv A outer s H E hr =>
    (pss_cons (ps_set (i := 3) c_left_way.nd rfl (.inl rfl) (pe_lst pa_nil))
      (pss_cons (ps_set (i := 4) c_left_way.nd rfl (.inl rfl) (pe_callTy call_list_of (by rfl) B.n_list (by decide +kernel) (pa_cons (pv 1) pa_nil)))
      (pss_cons (ps_for PassesOwn.never rfl (pi_revR (by rfl) B.n_reversed (prg_1 (by rfl) B.n_range (pe_callB call_len_seq (by rfl) B.n_len (by decide +kernel) (pa_cons (pv 0) pa_nil)))) (pg_name (i := 5) c_left_way.nd rfl (.inl rfl)) (pss_one (ps_if (pt_cmpR op_lt (pe_ix ix_list (pv 4) (pv 5) (fun _ _ => rfl)) (pe_ix ix_q (pv 2) (pv 5) (fun _ _ => rfl)) (nomark _)) (pss_cons (ps_set (i := 6) c_left_way.nd rfl (.inl rfl) (pe_op op_sub (pe_op op_add (pe_op op_sub (pe_callB (cr_sumX rfl) (by rfl) B.n_sum (by decide +kernel) (pa_cons (pe_slice sl_q (pv 0) po_none (po_some (pv 5))) pa_nil)) (pe_callB (cr_sumX rfl) (by rfl) B.n_sum (by decide +kernel) (pa_cons (pe_slice sl_list (pv 4) po_none (po_some (pv 5))) pa_nil))) (pe_ix ix_q (pv 2) (pv 5) (fun _ _ => rfl))) (pe_ix ix_list (pv 4) (pv 5) (fun _ _ => rfl))))
      (pss_cons (ps_expr (pe_bm PySem.F.plainAttrs_list PySem.F.slot_list_append PySem.F.type_list_append mt_append (pv 3) (pa_cons (pe_tup (pa_cons (pv 5) (pa_cons pe_str (pa_cons (pv 6) pa_nil)))) pa_nil)))
      (pss_one (ps_asg (pe_callTy call_list_of (by rfl) B.n_list (by decide +kernel) (pa_cons (pe_slice sl_q (pv 0) po_none (po_some (pv 5))) pa_nil)) (SS0.pg_sl0 (pv 4) (pv 5)))))) (pss_one (ps_if (pt_cmpR op_gt (pe_ix ix_list (pv 4) (pv 5) (fun _ _ => rfl)) (pe_ix ix_q (pv 2) (pv 5) (fun _ _ => rfl)) (nomark _)) (pss_cons (ps_set (i := 6) c_left_way.nd rfl (.inl rfl) (pe_op op_sub (pe_op op_add (pe_callB (cr_sumX rfl) (by rfl) B.n_sum (by decide +kernel) (pa_cons (pe_slice sl_list (pv 4) po_none (po_some (pv 5))) pa_nil)) (pe_ix ix_list (pv 4) (pv 5) (fun _ _ => rfl))) (pe_ix ix_q (pv 2) (pv 5) (fun _ _ => rfl))))
      (pss_cons (ps_expr (pe_bm PySem.F.plainAttrs_list PySem.F.slot_list_append PySem.F.type_list_append mt_append (pv 3) (pa_cons (pe_tup (pa_cons (pv 5) (pa_cons pe_str (pa_cons (pv 6) pa_nil)))) pa_nil)))
      (pss_one (ps_asg (pe_op op_rep (pe_lst (pa_cons pe_int pa_nil)) (pv 5)) (SS0.pg_sl0 (pv 4) (pv 5)))))) pss_nil)))))
      (pss_one (ps_ret (pv 3))))))
theorem ok_led_by (B : Bi mg) (Dc : Dcs K w mg z0 z1 zt0) (c_bare_ : Cl P w K mg base 1 "bare" s_bare ["rooms"] (spF K sem_bare)) (c_breathed_ : Cl P w K mg base 4 "breathed" s_breathed ["rooms", "standing", "word"] (spF K sem_breathed)) (F : Fun K "led_by" "led_by" s_led_by f fd) : FnOk P w K mg base CX0 5 f fd ["rooms", "turns"] (spF K sem_led_by) :=
  fnP (N := N_led_by) Dc.hD F c_led_by (b := a_led_by) fun cdv A outer s H E hr =>
    (pss_cons (ps_setLc (i := 2) (own := [("at", 3), ("many", 4)]) (g := SS0.gSeq K 2 (gCons (gName 3) (gCons (gName 4) gNil))) (tt := tYes) (by rfl) c_led_by.nd rfl rfl (sw_true rfl rfl rfl (by decide +kernel)) (pi_enumX (by rfl) B.n_enumerate (pa_cons (pv 1) pa_nil)) (blkOk_by (N := N_led_by) (sc := defScope s_led_by) (by decide +kernel)) (fun _ _ _ _ _ => (SS0.pg_seq rfl (pgs_cons (pg_name (i := 3) c_led_by.nd rfl (.inl rfl)) (pgs_cons (pg_name (i := 4) c_led_by.nd rfl (.inl rfl)) pgs_nil)))) (fun _ _ _ _ _ => pts_nil) (fun _ _ _ _ _ => (pe_tup (pa_cons (pe_ifExp (pt_cmpR op_eq (pe_op op_andM (pv 3) pe_int) pe_int (nomark _)) pe_str pe_str) (pa_cons (pv 4) pa_nil)))))
      (pss_one (ps_ret (pe_cl c_breathed_ hr (by decide) (by rfl) (pa_cons (pv 0) (pa_cons (pe_cl c_bare_ hr (by decide) (by rfl) (pa_cons (pv 0) pa_nil)) (pa_cons (pv 2) pa_nil)))))))
theorem ok_name_of (B : Bi mg) (Dc : Dcs K w mg z0 z1 zt0) (c_bare_ : Cl P w K mg base 1 "bare" s_bare ["rooms"] (spF K sem_bare)) (c_left_way_ : Cl P w K mg base 1 "left_way" s_left_way ["rooms", "one", "other"] (spF K sem_left_way)) (F : Fun K "name_of" "name_of" s_name_of f fd) : FnOk P w K mg base CX0 2 f fd ["rooms", "standing"] (spF K sem_name_of) :=
  fnP (N := N_name_of) Dc.hD F c_name_of (b := a_name_of) fun cdv A outer s H E hr =>
    (pss_one (ps_ret (pe_lc (own := [("at", 2), ("breath", 3), ("many", 4)]) (g := SS0.gSeq K 3 (gCons (gName 2) (gCons (gName 3) (gCons (gName 4) gNil)))) (tt := tYes) rfl c_name_of.nd (pi_seqX (pe_cl c_left_way_ hr (by decide) (by rfl) (pa_cons (pv 0) (pa_cons (pe_cl c_bare_ hr (by decide) (by rfl) (pa_cons (pv 0) pa_nil)) (pa_cons (pv 1) pa_nil))))) (blkOk_by (N := N_name_of) (sc := defScope s_name_of) (by decide +kernel)) (fun _ _ _ _ _ => (SS0.pg_seq rfl (pgs_cons (pg_name (i := 2) c_name_of.nd rfl (.inl rfl)) (pgs_cons (pg_name (i := 3) c_name_of.nd rfl (.inl rfl)) (pgs_cons (pg_name (i := 4) c_name_of.nd rfl (.inl rfl)) pgs_nil))))) (fun _ _ _ _ _ => pts_nil) (fun _ _ _ _ _ => (pv 4)))))
theorem ok_with_turn (B : Bi mg) (Dc : Dcs K w mg z0 z1 zt0) (c_led_by_ : Cl P w K mg base 5 "led_by" s_led_by ["rooms", "turns"] (spF K sem_led_by)) (c_name_of_ : Cl P w K mg base 2 "name_of" s_name_of ["rooms", "standing"] (spF K sem_name_of)) (F : Fun K "with_turn" "with_turn" s_with_turn f fd) : FnOk P w K mg base CX0 6 f fd ["rooms", "turns", "many"] (spF K sem_with_turn) :=
  fnP (N := N_with_turn) Dc.hD F c_with_turn (b := a_with_turn) fun cdv A outer s H E hr =>
    (pss_one (ps_ret (pe_cl c_name_of_ hr (by decide) (by rfl) (pa_cons (pv 0) (pa_cons (pe_cl c_led_by_ hr (by decide) (by rfl) (pa_cons (pv 0) (pa_cons (pe_op op_cat (pe_callTy call_list_of (by rfl) B.n_list (by decide +kernel) (pa_cons (pv 1) pa_nil)) (pe_lst (pa_cons (pv 2) pa_nil))) pa_nil))) pa_nil)))))
theorem ok_fewest_left (B : Bi mg) (Dc : Dcs K w mg z0 z1 zt0) (c_left_way_ : Cl P w K mg base 1 "left_way" s_left_way ["rooms", "one", "other"] (spF K sem_left_way)) (F : Fun K "fewest_left" "fewest_left" s_fewest_left f fd) : FnOk P w K mg base CX0 2 f fd ["rooms", "one", "other"] (spF K sem_fewest_left) :=
  fnP (N := N_fewest_left) Dc.hD F c_fewest_left (b := a_fewest_left) fun cdv A outer s H E hr =>
    (pss_one (ps_ret (pe_lc (own := [("at", 3), ("breath", 4), ("many", 5)]) (g := SS0.gSeq K 3 (gCons (gName 3) (gCons (gName 4) (gCons (gName 5) gNil)))) (tt := tYes) rfl c_fewest_left.nd (pi_seqX (pe_cl c_left_way_ hr (by decide) (by rfl) (pa_cons (pv 0) (pa_cons (pv 1) (pa_cons (pv 2) pa_nil))))) (blkOk_by (N := N_fewest_left) (sc := defScope s_fewest_left) (by decide +kernel)) (fun _ _ _ _ _ => (SS0.pg_seq rfl (pgs_cons (pg_name (i := 3) c_fewest_left.nd rfl (.inl rfl)) (pgs_cons (pg_name (i := 4) c_fewest_left.nd rfl (.inl rfl)) (pgs_cons (pg_name (i := 5) c_fewest_left.nd rfl (.inl rfl)) pgs_nil))))) (fun _ _ _ _ _ => pts_nil) (fun _ _ _ _ _ => (pe_tup (pa_cons (pv 4) (pa_cons (pv 5) pa_nil)))))))
theorem ok_fewest_right (B : Bi mg) (Dc : Dcs K w mg z0 z1 zt0) (c_turned_ : Cl P w K mg base 1 "turned" s_turned ["word"] (spF K sem_turned)) (c_fewest_left_ : Cl P w K mg base 2 "fewest_left" s_fewest_left ["rooms", "one", "other"] (spF K sem_fewest_left)) (F : Fun K "fewest_right" "fewest_right" s_fewest_right f fd) : FnOk P w K mg base CX0 3 f fd ["rooms", "one", "other"] (spF K sem_fewest_right) :=
  fnP (N := N_fewest_right) Dc.hD F c_fewest_right (b := a_fewest_right) fun cdv A outer s H E hr =>
    (pss_one (ps_ret (pe_cl c_turned_ hr (by decide) (by rfl) (pa_cons (pe_cl c_fewest_left_ hr (by decide) (by rfl) (pa_cons (pe_revQ (pv 0)) (pa_cons (pe_revQ (pv 1)) (pa_cons (pe_revQ (pv 2)) pa_nil)))) pa_nil))))
theorem ok_by_gap (B : Bi mg) (Dc : Dcs K w mg z0 z1 zt0) (c_fewest_left_ : Cl P w K mg base 2 "fewest_left" s_fewest_left ["rooms", "one", "other"] (spF K sem_fewest_left)) (c_fewest_right_ : Cl P w K mg base 3 "fewest_right" s_fewest_right ["rooms", "one", "other"] (spF K sem_fewest_right)) (F : Fun K "by_gap" "by_gap" s_by_gap f fd) : FnOk P w K mg base CX0 4 f fd ["rooms", "one", "other", "gap"] (spF K sem_by_gap) :=
  fnP (N := N_by_gap) Dc.hD F c_by_gap (b := a_by_gap) fun cdv A outer s H E hr =>
    (pss_cons (ps_set (i := 4) c_by_gap.nd rfl (.inl rfl) (pe_cl c_fewest_left_ hr (by decide) (by rfl) (pa_cons (pe_slice sl_q (pv 0) po_none (po_some (pv 3))) (pa_cons (pe_slice sl_q (pv 1) po_none (po_some (pv 3))) (pa_cons (pe_slice sl_q (pv 2) po_none (po_some (pv 3))) pa_nil)))))
      (pss_one (ps_ret (pe_op op_cat (pv 4) (pe_cl c_fewest_right_ hr (by decide) (by rfl) (pa_cons (pe_slice sl_q (pv 0) (po_some (pv 3)) po_none) (pa_cons (pe_slice sl_q (pv 1) (po_some (pv 3)) po_none) (pa_cons (pe_slice sl_q (pv 2) (po_some (pv 3)) po_none) pa_nil))))))))
theorem ok_fewest (B : Bi mg) (Dc : Dcs K w mg z0 z1 zt0) (c_size_of_ : Cl P w K mg base 1 "size_of" s_size_of ["word"] (spF K sem_size_of)) (c_by_gap_ : Cl P w K mg base 4 "by_gap" s_by_gap ["rooms", "one", "other", "gap"] (spF K sem_by_gap)) (F : Fun K "fewest" "fewest" s_fewest f fd) : FnOk P w K mg base CX0 5 f fd ["rooms", "one", "other"] (spF K sem_fewest) :=
  fnP (N := N_fewest) Dc.hD F c_fewest (b := a_fewest) fun cdv A outer s H E hr =>
    (pss_cons (ps_setLc (i := 3) (own := [("gap", 5)]) (g := gName 5) (tt := tYes) (by rfl) c_fewest.nd rfl rfl (sw_true rfl rfl rfl (by decide +kernel)) (pi_range1 (by rfl) B.n_range (pa_cons (pe_op op_add (pe_callB call_len_seq (by rfl) B.n_len (by decide +kernel) (pa_cons (pv 0) pa_nil)) pe_int) pa_nil)) (blkOk_by (N := N_fewest) (sc := defScope s_fewest) (by decide +kernel)) (fun _ _ _ _ _ => (pg_name (i := 5) c_fewest.nd rfl (.inl rfl))) (fun _ _ _ _ _ => pts_nil) (fun _ _ _ _ _ => (pe_cl c_by_gap_ hr (by decide) (by rfl) (pa_cons (pv 0) (pa_cons (pv 1) (pa_cons (pv 2) (pa_cons (pv 5) pa_nil)))))))
      (pss_cons (ps_setLc (i := 4) (own := [("word", 6)]) (g := gName 6) (tt := tYes) (by rfl) c_fewest.nd rfl rfl (sw_true rfl rfl rfl (by decide +kernel)) (pi_seqX (pv 3)) (blkOk_by (N := N_fewest) (sc := defScope s_fewest) (by decide +kernel)) (fun _ _ _ _ _ => (pg_name (i := 6) c_fewest.nd rfl (.inl rfl))) (fun _ _ _ _ _ => pts_nil) (fun _ _ _ _ _ => (pe_cl c_size_of_ hr (by decide) (by rfl) (pa_cons (pv 6) pa_nil))))
      (pss_cons (ps_set (i := 5) c_fewest.nd rfl (.inl rfl) (pe_bm PySem.F.plainAttrs_list PySem.F.slot_list_index PySem.F.type_list_index mt_index (pv 4) (pa_cons (pe_callB (cr_min rfl) (by rfl) B.n_min (by decide +kernel) (pa_cons (pv 4) pa_nil)) pa_nil)))
      (pss_one (ps_ret (pe_tup (pa_cons (pv 5) (pa_cons (pe_ix ix_q (pv 3) (pv 5) (fun _ _ => rfl)) pa_nil))))))))
theorem ok_how_few (B : Bi mg) (Dc : Dcs K w mg z0 z1 zt0) (c_size_of_ : Cl P w K mg base 1 "size_of" s_size_of ["word"] (spF K sem_size_of)) (c_fewest_ : Cl P w K mg base 5 "fewest" s_fewest ["rooms", "one", "other"] (spF K sem_fewest)) (F : Fun K "how_few" "how_few" s_how_few f fd) : FnOk P w K mg base CX0 6 f fd ["rooms", "one", "other"] (spF K sem_how_few) :=
  fnP (N := N_how_few) Dc.hD F c_how_few (b := a_how_few) fun cdv A outer s H E hr =>
    (pss_one (ps_ret (pe_cl c_size_of_ hr (by decide) (by rfl) (pa_cons (pe_ix ix_tup (pe_cl c_fewest_ hr (by decide) (by rfl) (pa_cons (pv 0) (pa_cons (pv 1) (pa_cons (pv 2) pa_nil)))) pe_int (fun _ _ => rfl)) pa_nil))))
theorem ok_L_lot (B : Bi mg) (Dc : Dcs K w mg z0 z1 zt0) (c_L_take_ : Cl P w K mg base 1 "_law_take" s_L_take ["_law_box_here", "_law_below"] (spD K takeF)) (F : Fun K "_law_lot" "_law_lot" s_L_lot f fd) : FnOk P w K mg base CX0 2 f fd ["_law_box_here", "_law_sizes"] (spD K sem_L_lot) :=
  fnB (N := N_L_lot) Dc.hD F c_L_lot (b := a_L_lot) fun cdv A outer s H E hr =>
    (pss_cons (ps_set (i := 2) c_L_lot.nd rfl (.inl rfl) (pe_cl c_L_take_ hr (by decide) (by rfl) (pa_cons (pv 0) (pa_cons pe_int pa_nil))))
      (pss_cons (ps_set (i := 3) c_L_lot.nd rfl (.inl rfl) (pe_callTy call_tuple_of (by rfl) B.n_tuple (by decide +kernel) (pa_cons (pe_lc (own := [("_law_size", 4)]) (g := gName 4) (tt := tYes) rfl c_L_lot.nd (pi_seqX (pv 1)) (blkOk_by (N := N_L_lot) (sc := defScope s_L_lot) (by decide +kernel)) (fun _ _ _ _ _ => (pg_name (i := 4) c_L_lot.nd rfl (.inl rfl))) (fun _ _ _ _ _ => pts_nil) (fun _ _ _ _ _ => (pe_cl c_L_take_ hr (by decide) (by rfl) (pa_cons (pv 0) (pa_cons (pe_op op_add (pv 4) pe_int) pa_nil))))) pa_nil)))
      (pss_one (ps_ret (pe_ifExp (pt_cmpR op_eq (pv 2) pe_int (nomark _)) (pe_op op_repZ (pe_tup (pa_cons pe_int pa_nil)) (pe_callB call_len_seq (by rfl) B.n_len (by decide +kernel) (pa_cons (pv 1) pa_nil))) (pe_ifExp (pt_cmpR op_eq (pv 2) pe_int (nomark _)) (pv 1) (pv 3)))))))
theorem ok_L_named (B : Bi mg) (Dc : Dcs K w mg z0 z1 zt0) (c_with_turn_ : Cl P w K mg base 6 "with_turn" s_with_turn ["rooms", "turns", "many"] (spF K sem_with_turn)) (F : Fun K "_law_named" "_law_named" s_L_named f fd) : FnOk P w K mg base CX0 7 f fd ["_law_sizes", "_law_some", "_law_runs"] (spF K sem_L_named) :=
  fnP (N := N_L_named) Dc.hD F c_L_named (b := a_L_named) fun cdv A outer s H E hr =>
    (pss_cons (ps_for PassesOwn.never rfl (pi_seqX (pv 2)) (SS0.pg_seq rfl (pgs_cons (pg_name (i := 3) c_L_named.nd rfl (.inl rfl)) (pgs_cons (pg_name (i := 4) c_L_named.nd rfl (.inl rfl)) pgs_nil))) (pss_one (ps_if (pt_cmpR op_eq (pe_cmpR op_eq (pe_op op_modN (pe_callB call_len_seq (by rfl) B.n_len (by decide +kernel) (pa_cons (pv 1) pa_nil)) pe_int) pe_int (nomark _)) (pe_cmpR op_eq (pv 3) pe_str (nomark _)) (nomark _)) (pss_one (ps_set (i := 1) c_L_named.nd rfl (.inl rfl) (pe_cl c_with_turn_ hr (by decide) (by rfl) (pa_cons (pv 0) (pa_cons (pv 1) (pa_cons (pv 4) pa_nil)))))) (pss_one (ps_if (pt_cmpR (op_eqD hr.units) (pv 1) (pe_lst pa_nil) (nomark _)) (pss_one (ps_set (i := 1) c_L_named.nd rfl (.inl rfl) (pe_lst pa_nil))) (pss_one (ps_set (i := 1) c_L_named.nd rfl (.inl rfl) (pe_cl c_with_turn_ hr (by decide) (by rfl) (pa_cons (pv 0) (pa_cons (pe_slice sl_list (pv 1) po_none (po_some (pe_un un_neg pe_int))) (pa_cons (pe_op op_add (pe_ix ix_list (pv 1) (pe_un un_neg pe_int) (fun _ _ => rfl)) (pv 4)) pa_nil)))))))))))
      (pss_one (ps_ret (pv 1))))
theorem ok_L_right (B : Bi mg) (Dc : Dcs K w mg z0 z1 zt0) (c_bare_ : Cl P w K mg base 1 "bare" s_bare ["rooms"] (spF K sem_bare)) (c_size_of_ : Cl P w K mg base 1 "size_of" s_size_of ["word"] (spF K sem_size_of)) (c_breathed_ : Cl P w K mg base 4 "breathed" s_breathed ["rooms", "standing", "word"] (spF K sem_breathed)) (c_led_by_ : Cl P w K mg base 5 "led_by" s_led_by ["rooms", "turns"] (spF K sem_led_by)) (c_name_of_ : Cl P w K mg base 2 "name_of" s_name_of ["rooms", "standing"] (spF K sem_name_of)) (c_fewest_left_ : Cl P w K mg base 2 "fewest_left" s_fewest_left ["rooms", "one", "other"] (spF K sem_fewest_left)) (c_fewest_right_ : Cl P w K mg base 3 "fewest_right" s_fewest_right ["rooms", "one", "other"] (spF K sem_fewest_right)) (c_fewest_ : Cl P w K mg base 5 "fewest" s_fewest ["rooms", "one", "other"] (spF K sem_fewest)) (c_how_few_ : Cl P w K mg base 6 "how_few" s_how_few ["rooms", "one", "other"] (spF K sem_how_few)) (c_L_take_ : Cl P w K mg base 1 "_law_take" s_L_take ["_law_box_here", "_law_below"] (spD K takeF)) (c_L_lot_ : Cl P w K mg base 2 "_law_lot" s_L_lot ["_law_box_here", "_law_sizes"] (spD K sem_L_lot)) (c_L_named_ : Cl P w K mg base 7 "_law_named" s_L_named ["_law_sizes", "_law_some", "_law_runs"] (spF K sem_L_named)) (F : Fun K "_law_right" "_law_right" s_L_right f fd) : FnOk P w K mg base CX0 8 f fd ["_law_box_here"] (spD K sem_L_right) :=
  fnB (N := N_L_right) Dc.hD F c_L_right (b := a_L_right) fun cdv A outer s H E hr =>
    (pss_cons (ps_for PassesOwn.never rfl (pi_range1 (by rfl) B.n_range (pa_cons pe_int pa_nil)) (pg_name (i := 1) c_L_right.nd rfl (.inl rfl)) (pss_cons (ps_set (i := 2) c_L_right.nd rfl (.inr rfl) (pe_callTy call_tuple_of (by rfl) B.n_tuple (by decide +kernel) (pa_cons (pe_lc (own := [("_law_place", 12)]) (g := gName 12) (tt := tYes) rfl c_L_right.nd (pi_range1 (by rfl) B.n_range (pa_cons (pe_op op_add pe_int (pe_cl c_L_take_ hr (by decide) (by rfl) (pa_cons (pv 0) (pa_cons pe_int pa_nil)))) pa_nil)) (blkOk_by (N := N_L_right) (sc := defScope s_L_right) (by decide +kernel)) (fun _ _ _ _ _ => (pg_name (i := 12) c_L_right.nd rfl (.inl rfl))) (fun _ _ _ _ _ => pts_nil) (fun _ _ _ _ _ => (pe_op op_add pe_int (pe_cl c_L_take_ hr (by decide) (by rfl) (pa_cons (pv 0) (pa_cons pe_int pa_nil)))))) pa_nil)))
      (pss_cons (ps_setLc (i := 3) (own := [("_law_place", 12)]) (g := gName 12) (tt := tYes) (by rfl) c_L_right.nd rfl rfl (sw_true rfl rfl rfl (by decide +kernel)) (pi_range1 (by rfl) B.n_range (pa_cons pe_int pa_nil)) (blkOk_by (N := N_L_right) (sc := defScope s_L_right) (by decide +kernel)) (fun _ _ _ _ _ => (pg_name (i := 12) c_L_right.nd rfl (.inl rfl))) (fun _ _ _ _ _ => pts_nil) (fun _ _ _ _ _ => (pe_cl c_L_lot_ hr (by decide) (by rfl) (pa_cons (pv 0) (pa_cons (pv 2) pa_nil)))))
      (pss_cons (ps_set (i := 4) c_L_right.nd rfl (.inl rfl) pe_int)
      (pss_cons (ps_for PassesOwn.never rfl (pi_zipX (by rfl) B.n_zip (pa_cons (pv 3) (pa_cons (pe_slice sl_list (pv 3) (po_some pe_int) po_none) pa_nil))) (SS0.pg_seq rfl (pgs_cons (pg_name (i := 5) c_L_right.nd rfl (.inr rfl)) (pgs_cons (pg_name (i := 6) c_L_right.nd rfl (.inl rfl)) pgs_nil))) (pss_cons (ps_asg (pe_cl c_fewest_ hr (by decide) (by rfl) (pa_cons (pv 2) (pa_cons (pv 5) (pa_cons (pv 6) pa_nil)))) (SS0.pg_seq rfl (pgs_cons (pg_name (i := 7) c_L_right.nd rfl (.inl rfl)) (pgs_cons (pg_name (i := 8) c_L_right.nd rfl (.inl rfl)) pgs_nil))))
      (pss_cons (ps_set (i := 9) c_L_right.nd rfl (.inl rfl) (pe_cl c_fewest_left_ hr (by decide) (by rfl) (pa_cons (pv 2) (pa_cons (pv 5) (pa_cons (pv 6) pa_nil)))))
      (pss_cons (ps_setLc (i := 10) (own := [("_law_some", 11)]) (g := gName 11) (tt := tYes) (by rfl) c_L_right.nd rfl rfl (sw_true rfl rfl rfl (by decide +kernel)) (pi_seqX (pe_tup (pa_cons (pv 8) (pa_cons (pv 9) (pa_cons (pe_cl c_fewest_right_ hr (by decide) (by rfl) (pa_cons (pv 2) (pa_cons (pv 5) (pa_cons (pv 6) pa_nil)))) pa_nil))))) (blkOk_by (N := N_L_right) (sc := defScope s_L_right) (by decide +kernel)) (fun _ _ _ _ _ => (pg_name (i := 11) c_L_right.nd rfl (.inl rfl))) (fun _ _ _ _ _ => pts_nil) (fun _ _ _ _ _ => (pe_cl c_breathed_ hr (by decide) (by rfl) (pa_cons (pv 2) (pa_cons (pv 5) (pa_cons (pv 11) pa_nil))))))
      (pss_cons (ps_if (PW.pt (pw_or (pt_cmpR (op_neD hr.units) (pv 10) (pe_op op_rep (pe_lst (pa_cons (pv 6) pa_nil)) pe_int) (nomark _)) (pw_or (pt_not (pt_chain op_le op_le pe_int (pv 7) (pe_callB call_len_seq (by rfl) B.n_len (by decide +kernel) (pa_cons (pv 2) pa_nil)))) (pw_or1 (pt_cmpR op_ne (pe_cl c_size_of_ hr (by decide) (by rfl) (pa_cons (pv 8) pa_nil)) (pe_cl c_how_few_ hr (by decide) (by rfl) (pa_cons (pv 2) (pa_cons (pv 5) (pa_cons (pv 6) pa_nil)))) (nomark _)))))) (pss_one (ps_ret pe_bl)) pss_nil)
      (pss_cons (ps_if (pt_cmpR (op_neD hr.units) (pe_cl c_L_named_ hr (by decide) (by rfl) (pa_cons (pv 2) (pa_cons (pe_cl c_name_of_ hr (by decide) (by rfl) (pa_cons (pv 2) (pa_cons (pv 5) pa_nil))) (pa_cons (pv 9) pa_nil)))) (pe_cl c_name_of_ hr (by decide) (by rfl) (pa_cons (pv 2) (pa_cons (pv 6) pa_nil))) (nomark _)) (pss_one (ps_ret pe_bl)) pss_nil)
      (pss_one (ps_set (i := 4) c_L_right.nd rfl (.inl rfl) (pe_op op_add (pv 4) (pe_cl c_size_of_ hr (by decide) (by rfl) (pa_cons (pv 8) pa_nil)))))))))))
      (pss_cons (ps_if (pt_cmpR op_gt (pe_cl c_how_few_ hr (by decide) (by rfl) (pa_cons (pv 2) (pa_cons (pe_ix ix_list (pv 3) pe_int (fun _ _ => rfl)) (pa_cons (pe_ix ix_list (pv 3) (pe_un un_neg pe_int) (fun _ _ => rfl)) pa_nil)))) (pv 4) (nomark _)) (pss_one (ps_ret pe_bl)) pss_nil)
      (pss_cons (ps_setLc (i := 11) (own := [("_law_breath", 13), ("_law_often", 14)]) (g := SS0.gSeq K 2 (gCons (gName 13) (gCons (gName 14) gNil))) (tt := tYes) (by rfl) c_L_right.nd rfl rfl (sw_true rfl rfl rfl (by decide +kernel)) (pi_seqX (pe_cl c_fewest_left_ hr (by decide) (by rfl) (pa_cons (pv 2) (pa_cons (pe_cl c_bare_ hr (by decide) (by rfl) (pa_cons (pv 2) pa_nil)) (pa_cons (pe_ix ix_list (pv 3) pe_int (fun _ _ => rfl)) pa_nil))))) (blkOk_by (N := N_L_right) (sc := defScope s_L_right) (by decide +kernel)) (fun _ _ _ _ _ => (SS0.pg_seq rfl (pgs_cons (pg_name (i := 13) c_L_right.nd rfl (.inl rfl)) (pgs_cons (pg_name (i := 14) c_L_right.nd rfl (.inl rfl)) pgs_nil)))) (fun _ _ _ _ _ => pts_nil) (fun _ _ _ _ _ => (pv 14)))
      (pss_one (ps_if (PW.pt (pw_or (pt_cmpR (op_neD hr.units) (pv 11) (pe_cl c_name_of_ hr (by decide) (by rfl) (pa_cons (pv 2) (pa_cons (pe_ix ix_list (pv 3) pe_int (fun _ _ => rfl)) pa_nil))) (nomark _)) (pw_or1 (pt_cmpR (op_neD hr.units) (pe_cl c_led_by_ hr (by decide) (by rfl) (pa_cons (pv 2) (pa_cons (pv 11) pa_nil))) (pe_ix ix_list (pv 3) pe_int (fun _ _ => rfl)) (nomark _))))) (pss_one (ps_ret pe_bl)) pss_nil)))))))))
      (pss_one (ps_ret pe_bl)))
end
end K98

namespace K98
open PySem PySem.Spec PyProof.Rows L2 ZX DL RT DP WK
theorem dI_app (xs ys : List Int) : dI (xs ++ ys) = dI xs ++ dI ys := List.map_append ..
theorem nmLp (s : Bool) : decide ((Br.nm (true, s) : Str) = "L+") = s := by
  cases s <;> decide +kernel
theorem ev_dec (n : Nat) : decide ((n : Int) % 2 = 0) = evn n := by
  unfold evn
  by_cases h : n % 2 = 0
  · rw [decide_eq_true (by omega), beq_iff_eq.mpr h]
  · rw [decide_eq_false (by omega), beq_eq_false_iff_ne.mpr h]
theorem named_step {rs x : List Int} (h0 : 1 ≤ rs.length) (hl : rs.length ≤ 800) (hx : Fit rs x) (s : Bool) {n : Int} (n1 : 1 ≤ n) (wd u v : Sl) : ∃ u' v', lstep (evS b_L_named_1) (.tp (.cons (.nm 3) (.cons (.nm 4) .nil))) (rnD ((true, s), n)) [.dat (tN rs), .dat (lN (nmN rs x)), wd, u, v] = .ret (.nx [.dat (tN rs), .dat (lN (nmN rs (runL s rs x n).1)), wd, u', v']) := by
  have r0 := (fit_nn hx).2
  have np := nm_pos hx
  have nl := nm_len rs x
  have ld := led_name hx
  refine ⟨.dat (.str (Br.nm (true, s))), .dat (.int n), ?_⟩
  obtain ⟨ns, en⟩ : ∃ ns, nmN rs x = ns := ⟨_, rfl⟩
  rw [en] at np nl ld ⊢
  have ln : bLen.f [lN ns] = some (.int (ns.length : Int)) := by
    show some (PyData.int ((dI ns).length : Int)) = _
    rw [List.length_map]
  have n0 : ∀ m ∈ ns, 0 ≤ m := fun m hm => by have := np m hm; omega
  by_cases c : evn ns.length = s
  · have wt : sem_with_turn [tN rs, lN ns, .int n] = _ := with_turn_eq rfl rfl h0 (by omega) r0 n0 (by omega) (by omega)
    rw [led_snoc, ld, c] at wt
    simp only [lstep, b_L_named_1, rnD, DP.run, DP.runB, evS, evE, evA, evT, evP, evI, startE, startX, slot_zero, slot_succ, own_zero, own_succ, box_zero, box_succ, bind_n, Dr.bind_assoc, pur_n, put_nm, put_tp, put_tpL, puts_nil, puts_cons, then_n, then_rt, then_rtO, told_rtO, put2_c, put3_c, evF, evB, flat_i, flat_b, flat_s, asLst_l, f_intI, f_intB, f_odd, f_notN, f_fListL, f_fListT, non_i, non_n, f_neS, then_bk, then_ct, told_rt, evT_qY, andB_t, andB_f, orB_t, orB_f, asInt_i, Dr.opt_some, small, within, List.length_cons, List.length_nil, List.map_cons, List.map_nil, List.cons_append, List.nil_append, List.replicate, List.set_cons_zero, List.set_cons_succ, Tt.vs, Ts.vs, Option.bind_some, Nat.reduceAdd, Nat.reduceSub, Nat.reduceLeDiff, Nat.reduceEqDiff, reduceIte, if_true, if_false, asIx_int, f_add, f_sub, f_lt, f_le, f_gt, f_ge, f_addA, f_subA, f_eqI, f_eqS, f_eqB, f_neI, f_isN, f_ixL, f_ixT, f_neg, f_not, f_min, f_max, f_abs, f_tB, f_lenL, f_lenT, f_list, f_listT, f_tup, f_tupT, f_wSeqL, f_wSeqT, f_cutT, f_cutL, wipeX, List.all_cons, List.all_nil, List.contains_cons, List.elem_nil, Bool.and_true, Bool.true_and, beq_self_eq_true, Bool.or_true, Bool.true_or, Bool.false_eq_true, Option.some.injEq, decide_true, decide_false, Bool.not_true, Bool.not_false, Nat.reduceBEq, Bool.or_false, Bool.false_or, List.append_nil, List.singleton_append, true_and, and_true, and_self, List.length_map, f_mod2, ev_dec, nmLp, c, wt]
  · have c' : (evn ns.length == s) = false := beq_eq_false_iff_ne.mpr c
    rcases List.eq_nil_or_concat ns with rfl | ⟨ms, m, rfl⟩
    · have es : s = false := by
        cases s with
        | true => exact absurd rfl c
        | false => rfl
      subst es
      have xe : x = List.replicate rs.length 0 := ld.symm
      have rf := runL_full (s := false) (n := n) hx (by
        rw [xe]
        unfold capT
        simp only [Bool.false_eq_true, if_false, zsum]
        omega)
      have er : (runL false rs x n).1 = x := by
        rw [rf, xe]
        rfl
      have e0 : oEqD.f (.list []) (.list []) = some (.bool true) := eqD_l [] []
      rw [er, en]
      simp only [lstep, b_L_named_1, rnD, DP.run, DP.runB, evS, evE, evA, evT, evP, evI, startE, startX, slot_zero, slot_succ, own_zero, own_succ, box_zero, box_succ, bind_n, Dr.bind_assoc, pur_n, put_nm, put_tp, put_tpL, puts_nil, puts_cons, then_n, then_rt, then_rtO, told_rtO, put2_c, put3_c, evF, evB, flat_i, flat_b, flat_s, asLst_l, f_intI, f_intB, f_odd, f_notN, f_fListL, f_fListT, non_i, non_n, f_neS, then_bk, then_ct, told_rt, evT_qY, andB_t, andB_f, orB_t, orB_f, asInt_i, Dr.opt_some, small, within, List.length_cons, List.length_nil, List.map_cons, List.map_nil, List.cons_append, List.nil_append, List.replicate, List.set_cons_zero, List.set_cons_succ, Tt.vs, Ts.vs, Option.bind_some, Nat.reduceAdd, Nat.reduceSub, Nat.reduceLeDiff, Nat.reduceEqDiff, reduceIte, if_true, if_false, asIx_int, f_add, f_sub, f_lt, f_le, f_gt, f_ge, f_addA, f_subA, f_eqI, f_eqS, f_eqB, f_neI, f_isN, f_ixL, f_ixT, f_neg, f_not, f_min, f_max, f_abs, f_tB, f_lenL, f_lenT, f_list, f_listT, f_tup, f_tupT, f_wSeqL, f_wSeqT, f_cutT, f_cutL, wipeX, List.all_cons, List.all_nil, List.contains_cons, List.elem_nil, Bool.and_true, Bool.true_and, beq_self_eq_true, Bool.or_true, Bool.true_or, Bool.false_eq_true, Option.some.injEq, decide_true, decide_false, Bool.not_true, Bool.not_false, Nat.reduceBEq, Bool.or_false, Bool.false_or, List.append_nil, List.singleton_append, true_and, and_true, and_self, f_mod2, ev_dec, nmLp, c', e0]
      rfl
    · rw [List.concat_eq_append] at np nl ld n0 c c' ln en ⊢
      have n0' : ∀ z ∈ ms, 0 ≤ z := fun z hz => n0 z (List.mem_append_left _ hz)
      have m1 := np m (by simp)
      rw [List.length_append] at nl
      have nl' : ms.length + 1 ≤ rs.length := nl
      have es : evn ms.length = s := by
        rw [List.length_append] at c
        have c2 : evn (ms.length + 1) ≠ s := c
        rw [evn_succ] at c2
        revert c2
        cases evn ms.length <;> cases s <;> simp
      have wt : sem_with_turn [tN rs, lN ms, .int (m + n)] = _ := with_turn_eq rfl rfl h0 (by omega) r0 n0' (by omega) (by omega)
      have er : ledM rs (ms ++ [m + n]) = (runL s rs x n).1 := by
        rw [led_snoc, es, ← ld, led_snoc, es, runL_add (led_fit r0 n0') (by omega) (by omega)]
      rw [er] at wt
      have e0 : oEqD.f (.list (dI (ms ++ [m]))) (.list []) = some (.bool false) := by
        rw [show (PyData.list []) = lN [] from rfl, eqD_l, decide_eq_false (by simp)]
      have e1 : DP.cutD (dI (ms ++ [m])) none (some (-1)) = dI ms := by
        rw [dI_app]
        exact cutD_but (dI ms) (.int m)
      have e2 : atI (dI (ms ++ [m])) (-1) = some (.int m) := by
        rw [dI_app]
        exact DP.atI_last (dI ms) (.int m)
      simp only [lstep, b_L_named_1, rnD, DP.run, DP.runB, evS, evE, evA, evT, evP, evI, startE, startX, slot_zero, slot_succ, own_zero, own_succ, box_zero, box_succ, bind_n, Dr.bind_assoc, pur_n, put_nm, put_tp, put_tpL, puts_nil, puts_cons, then_n, then_rt, then_rtO, told_rtO, put2_c, put3_c, evF, evB, flat_i, flat_b, flat_s, asLst_l, f_intI, f_intB, f_odd, f_notN, f_fListL, f_fListT, non_i, non_n, f_neS, then_bk, then_ct, told_rt, evT_qY, andB_t, andB_f, orB_t, orB_f, asInt_i, Dr.opt_some, small, within, List.length_cons, List.length_nil, List.map_cons, List.map_nil, List.cons_append, List.nil_append, List.replicate, List.set_cons_zero, List.set_cons_succ, Tt.vs, Ts.vs, Option.bind_some, Nat.reduceAdd, Nat.reduceSub, Nat.reduceLeDiff, Nat.reduceEqDiff, reduceIte, if_true, if_false, asIx_int, f_add, f_sub, f_lt, f_le, f_gt, f_ge, f_addA, f_subA, f_eqI, f_eqS, f_eqB, f_neI, f_isN, f_ixL, f_ixT, f_neg, f_not, f_min, f_max, f_abs, f_tB, f_lenL, f_lenT, f_list, f_listT, f_tup, f_tupT, f_wSeqL, f_wSeqT, f_cutT, f_cutL, wipeX, List.all_cons, List.all_nil, List.contains_cons, List.elem_nil, Bool.and_true, Bool.true_and, beq_self_eq_true, Bool.or_true, Bool.true_or, Bool.false_eq_true, Option.some.injEq, decide_true, decide_false, Bool.not_true, Bool.not_false, Nat.reduceBEq, Bool.or_false, Bool.false_or, List.append_nil, List.singleton_append, true_and, and_true, and_self, List.length_map, f_mod2, ev_dec, nmLp, c', e0, e1, e2, wt]
theorem named_eq {rs x : List Int} {w : List Tr} (h0 : 1 ≤ rs.length) (hl : rs.length ≤ 800) (hx : Fit rs x) (hw : ∀ y ∈ w, 1 ≤ y.2.2) : sem_L_named [tN rs, lN (nmN rs x), .list (wD (trW w))] = .ret (lN (nmN rs (wordM rs x (trW w)).1)) := by
  obtain ⟨env', e, hf, u, v, he⟩ := forL_fold (g := fun y : Tr => rnD ((true, y.2.1), y.2.2)) (stp := fun x (y : Tr) => (runL y.2.1 rs x y.2.2).1) (enc := fun x env => Fit rs x ∧ ∃ u v, env = [.dat (tN rs), .dat (lN (nmN rs x)), .dat (.list (wD (trW w))), u, v]) (step := lstep (evS b_L_named_1) (.tp (.cons (.nm 3) (.cons (.nm 4) .nil)))) (xs := w) (b := x) (env := [.dat (tN rs), .dat (lN (nmN rs x)), .dat (.list (wD (trW w))), .unk, .unk]) ⟨hx, .unk, .unk, rfl⟩ fun y hy x env ⟨hx, u, v, he⟩ => by
    subst he
    have n1 := hw y hy
    obtain ⟨u', v', e⟩ := named_step h0 hl hx y.2.1 n1 (.dat (.list (wD (trW w)))) u v
    exact ⟨_, e, (runL_fit hx (by omega)).1, u', v', rfl⟩
  subst he
  have ew : wD (trW w) = w.map fun y : Tr => rnD ((true, y.2.1), y.2.2) := by
    unfold trW wD
    rw [List.map_map]
    rfl
  have fs : (wordM rs x (trW w)).1 = w.foldl (fun x (y : Tr) => (runL y.2.1 rs x y.2.2).1) x := word_fst rs w x _
  rw [← ew] at e
  simp only [sem_L_named, a_L_named, DP.run, DP.runB, evS, evE, evA, evT, evP, evI, startE, startX, slot_zero, slot_succ, own_zero, own_succ, box_zero, box_succ, bind_n, Dr.bind_assoc, pur_n, put_nm, put_tp, put_tpL, puts_nil, puts_cons, then_n, then_rt, then_rtO, told_rtO, put2_c, put3_c, evF, evB, flat_i, flat_b, flat_s, asLst_l, f_intI, f_intB, f_odd, f_notN, f_fListL, f_fListT, non_i, non_n, f_neS, then_bk, then_ct, told_rt, evT_qY, andB_t, andB_f, orB_t, orB_f, asInt_i, Dr.opt_some, small, within, List.length_cons, List.length_nil, List.map_cons, List.map_nil, List.cons_append, List.nil_append, List.replicate, List.set_cons_zero, List.set_cons_succ, Tt.vs, Ts.vs, Option.bind_some, Nat.reduceAdd, Nat.reduceSub, Nat.reduceLeDiff, Nat.reduceEqDiff, reduceIte, if_true, if_false, asIx_int, f_add, f_sub, f_lt, f_le, f_gt, f_ge, f_addA, f_subA, f_eqI, f_eqS, f_eqB, f_neI, f_isN, f_ixL, f_ixT, f_neg, f_not, f_min, f_max, f_abs, f_tB, f_lenL, f_lenT, f_list, f_listT, f_tup, f_tupT, f_wSeqL, f_wSeqT, f_cutT, f_cutL, wipeX, List.all_cons, List.all_nil, List.contains_cons, List.elem_nil, Bool.and_true, Bool.true_and, beq_self_eq_true, Bool.or_true, Bool.true_or, Bool.false_eq_true, Option.some.injEq, decide_true, decide_false, Bool.not_true, Bool.not_false, Nat.reduceBEq, Bool.or_false, Bool.false_or, List.append_nil, List.singleton_append, true_and, and_true, and_self, e, fs]
theorem hw {rs ls ts : List Int} (h1 : Fit rs ls) (h2 : Fit rs ts) (hl : rs.length ≤ 1000) : sem_how_few [tN rs, tN ls, tN ts] = .ret (.int (few rs ls ts)) := how_few_eq rfl rfl rfl h1.len h2.len hl
theorem rep3 (d : PyData) : oRepL.f (.list [d]) (.int 3) = some (.list [d, d, d]) := rfl
theorem path_le {rs : List Int} : ∀ (l : List (List Int)) (a : List Int) (s : Int), (∀ x ∈ a :: l, Fit rs x) → s + few rs a ((a :: l).getLastD []) ≤ ((a :: l).zip l).foldl (fun s p => s + few rs p.1 p.2) s
  | [], a, s, h => by
    show s + few rs a a ≤ s
    rw [few_same (h a (List.mem_cons_self ..)).len]
    omega
  | b :: l, a, s, h => by
    have ha := h a (List.mem_cons_self ..)
    have hb := h b (by simp)
    have i := path_le l b (s + few rs a b) fun x hx => h x (List.mem_cons_of_mem _ hx)
    have hz : Fit rs ((b :: l).getLastD []) := by
      have : (b :: l).getLastD [] ∈ b :: l := by
        rw [List.getLastD_eq_getLast?, List.getLast?_eq_some_getLast (by simp)]
        exact List.getLast_mem (by simp)
      exact h _ (List.mem_cons_of_mem _ this)
    have t := few_tri ha hb hz
    have e1 : (a :: b :: l).getLastD [] = (b :: l).getLastD [] := rfl
    rw [e1]
    show s + few rs a ((b :: l).getLastD []) ≤ ((b :: l).zip l).foldl _ (s + few rs a b)
    omega
theorem step_ok {rs a b : List Int} (ha : Fit rs a) (hb : Fit rs b) (h0 : 1 ≤ rs.length) (hl : rs.length ≤ 12) (s : Int) (t lo x5 x6 x7 x8 x9 x10 x11 x12 x13 x14 : Sl) : ∃ x7' x8' x9' x10', lstep (evS b_L_right_1) (.tp (.cons (.nm 5) (.cons (.nm 6) .nil))) (.tuple [tN a, tN b]) [.box, t, .dat (tN rs), lo, .dat (.int s), x5, x6, x7, x8, x9, x10, x11, x12, x13, x14] = .ret (.nx [.box, t, .dat (tN rs), lo, .dat (.int (s + few rs a b)), .dat (tN a), .dat (tN b), x7', x8', x9', x10', x11, x12, x13, x14]) := by
  have la := ha.len
  have lb := hb.len
  have e1 : sem_fewest [tN rs, tN a, tN b] = _ := fewest_eq rfl rfl rfl la lb (by omega)
  have e2 : sem_fewest_left [tN rs, tN a, tN b] = _ := fewest_left_eq rfl rfl rfl la lb (by omega)
  have e3 : sem_fewest_right [tN rs, tN a, tN b] = _ := fewest_right_eq rfl rfl rfl la lb (by omega)
  obtain ⟨m1, m2, m3⟩ := minGap_ok rs a b
  obtain ⟨g, eg⟩ : ∃ g, minGap rs a b = g := ⟨_, rfl⟩
  rw [eg] at e1 m2 m3
  have p1 : WOk (gapW rs a b g) := fun x hx => by have := gapW_pos ha hb g x hx; omega
  have p2 : WOk (wayW rs a b) := fun x hx => by have := wayW_pos ha hb x hx; omega
  have p3 : WOk (wayWR rs a b) := fun x hx => by have := wayWR_pos ha hb x hx; omega
  have b1 : sem_breathed [tN rs, tN a, .list (wD (gapW rs a b g))] = _ := breathed_eq rfl rfl rfl ha (by omega) p1
  have b2 : sem_breathed [tN rs, tN a, .list (wD (wayW rs a b))] = _ := breathed_eq rfl rfl rfl ha (by omega) p2
  have b3 : sem_breathed [tN rs, tN a, .list (wD (wayWR rs a b))] = _ := breathed_eq rfl rfl rfl ha (by omega) p3
  rw [gapW_leads ha hb g] at b1
  rw [wayW_leads ha hb] at b2
  rw [wayWR_leads ha hb] at b3
  have hc := compr_map (step := cstep (evT qY) (evE x_L_right_3) (.nm 11) [.box, t, .dat (tN rs), lo, .dat (.int s), .dat (tN a), .dat (tN b), .dat (.int (g : Int)), .dat (.list (wD (gapW rs a b g))), .dat (.list (wD (wayW rs a b))), x10, .unk, x12, x13, x14]) (g := fun w : Wd' => .list (wD w)) (h := fun _ => tN b) (xs := [gapW rs a b g, wayW rs a b, wayWR rs a b]) fun w hw => by
    simp only [List.mem_cons, List.not_mem_nil, or_false] at hw
    rcases hw with rfl | rfl | rfl
    · simp only [cstep, x_L_right_3, DP.run, DP.runB, evS, evE, evA, evT, evP, evI, startE, startX, slot_zero, slot_succ, own_zero, own_succ, box_zero, box_succ, bind_n, Dr.bind_assoc, pur_n, put_nm, put_tp, put_tpL, puts_nil, puts_cons, then_n, then_rt, then_rtO, told_rtO, put2_c, put3_c, evF, evB, flat_i, flat_b, flat_s, asLst_l, f_intI, f_intB, f_odd, f_notN, f_fListL, f_fListT, non_i, non_n, f_neS, then_bk, then_ct, told_rt, evT_qY, andB_t, andB_f, orB_t, orB_f, asInt_i, Dr.opt_some, small, within, List.length_cons, List.length_nil, List.map_cons, List.map_nil, List.cons_append, List.nil_append, List.replicate, List.set_cons_zero, List.set_cons_succ, Tt.vs, Ts.vs, Option.bind_some, Nat.reduceAdd, Nat.reduceSub, Nat.reduceLeDiff, Nat.reduceEqDiff, reduceIte, if_true, if_false, asIx_int, f_add, f_sub, f_lt, f_le, f_gt, f_ge, f_addA, f_subA, f_eqI, f_eqS, f_eqB, f_neI, f_isN, f_ixL, f_ixT, f_neg, f_not, f_min, f_max, f_abs, f_tB, f_lenL, f_lenT, f_list, f_listT, f_tup, f_tupT, f_wSeqL, f_wSeqT, f_cutT, f_cutL, wipeX, List.all_cons, List.all_nil, List.contains_cons, List.elem_nil, Bool.and_true, Bool.true_and, beq_self_eq_true, Bool.or_true, Bool.true_or, Bool.false_eq_true, Option.some.injEq, decide_true, decide_false, Bool.not_true, Bool.not_false, Nat.reduceBEq, Bool.or_false, Bool.false_or, List.append_nil, List.singleton_append, true_and, and_true, and_self, b1]
    · simp only [cstep, x_L_right_3, DP.run, DP.runB, evS, evE, evA, evT, evP, evI, startE, startX, slot_zero, slot_succ, own_zero, own_succ, box_zero, box_succ, bind_n, Dr.bind_assoc, pur_n, put_nm, put_tp, put_tpL, puts_nil, puts_cons, then_n, then_rt, then_rtO, told_rtO, put2_c, put3_c, evF, evB, flat_i, flat_b, flat_s, asLst_l, f_intI, f_intB, f_odd, f_notN, f_fListL, f_fListT, non_i, non_n, f_neS, then_bk, then_ct, told_rt, evT_qY, andB_t, andB_f, orB_t, orB_f, asInt_i, Dr.opt_some, small, within, List.length_cons, List.length_nil, List.map_cons, List.map_nil, List.cons_append, List.nil_append, List.replicate, List.set_cons_zero, List.set_cons_succ, Tt.vs, Ts.vs, Option.bind_some, Nat.reduceAdd, Nat.reduceSub, Nat.reduceLeDiff, Nat.reduceEqDiff, reduceIte, if_true, if_false, asIx_int, f_add, f_sub, f_lt, f_le, f_gt, f_ge, f_addA, f_subA, f_eqI, f_eqS, f_eqB, f_neI, f_isN, f_ixL, f_ixT, f_neg, f_not, f_min, f_max, f_abs, f_tB, f_lenL, f_lenT, f_list, f_listT, f_tup, f_tupT, f_wSeqL, f_wSeqT, f_cutT, f_cutL, wipeX, List.all_cons, List.all_nil, List.contains_cons, List.elem_nil, Bool.and_true, Bool.true_and, beq_self_eq_true, Bool.or_true, Bool.true_or, Bool.false_eq_true, Option.some.injEq, decide_true, decide_false, Bool.not_true, Bool.not_false, Nat.reduceBEq, Bool.or_false, Bool.false_or, List.append_nil, List.singleton_append, true_and, and_true, and_self, b2]
    · simp only [cstep, x_L_right_3, DP.run, DP.runB, evS, evE, evA, evT, evP, evI, startE, startX, slot_zero, slot_succ, own_zero, own_succ, box_zero, box_succ, bind_n, Dr.bind_assoc, pur_n, put_nm, put_tp, put_tpL, puts_nil, puts_cons, then_n, then_rt, then_rtO, told_rtO, put2_c, put3_c, evF, evB, flat_i, flat_b, flat_s, asLst_l, f_intI, f_intB, f_odd, f_notN, f_fListL, f_fListT, non_i, non_n, f_neS, then_bk, then_ct, told_rt, evT_qY, andB_t, andB_f, orB_t, orB_f, asInt_i, Dr.opt_some, small, within, List.length_cons, List.length_nil, List.map_cons, List.map_nil, List.cons_append, List.nil_append, List.replicate, List.set_cons_zero, List.set_cons_succ, Tt.vs, Ts.vs, Option.bind_some, Nat.reduceAdd, Nat.reduceSub, Nat.reduceLeDiff, Nat.reduceEqDiff, reduceIte, if_true, if_false, asIx_int, f_add, f_sub, f_lt, f_le, f_gt, f_ge, f_addA, f_subA, f_eqI, f_eqS, f_eqB, f_neI, f_isN, f_ixL, f_ixT, f_neg, f_not, f_min, f_max, f_abs, f_tB, f_lenL, f_lenT, f_list, f_listT, f_tup, f_tupT, f_wSeqL, f_wSeqT, f_cutT, f_cutL, wipeX, List.all_cons, List.all_nil, List.contains_cons, List.elem_nil, Bool.and_true, Bool.true_and, beq_self_eq_true, Bool.or_true, Bool.true_or, Bool.false_eq_true, Option.some.injEq, decide_true, decide_false, Bool.not_true, Bool.not_false, Nat.reduceBEq, Bool.or_false, Bool.false_or, List.append_nil, List.singleton_append, true_and, and_true, and_self, b3]
  simp only [List.map_cons, List.map_nil] at hc
  have pb : Pl 1 (tN b) := pl_tN 0 (by omega)
  have n3 : oNeD.f (.list [tN b, tN b, tN b]) (.list [tN b, tN b, tN b]) = some (.bool false) := neD_pl (n := 2) (pl_L (by simp) fun y hy => by
    simp only [List.mem_cons, List.not_mem_nil, or_false, or_self] at hy
    rw [hy]
    exact pb) (by decide)
  have c1 : decide (0 ≤ (g : Int)) = true := decide_eq_true (by omega)
  have c2 : decide ((g : Int) ≤ (rs.length : Int)) = true := decide_eq_true (by omega)
  have gl := gapW_len rs a b g
  have s1 : sem_size_of [.list (wD (gapW rs a b g))] = _ := size_of_eq rfl (by omega)
  rw [m3] at s1
  have s2 := hw ha hb (by omega)
  have nx : sem_name_of [tN rs, tN a] = _ := name_of_eq rfl rfl la h0 (by omega)
  have ny : sem_name_of [tN rs, tN b] = _ := name_of_eq rfl rfl lb h0 (by omega)
  have nn : sem_L_named [tN rs, lN (nmN rs a), .list (wD (wayW rs a b))] = _ := named_eq (w := wayM rs a b) h0 (by omega) ha (way_pos (fit_rev ha) (fit_rev hb))
  have nw : (wordM rs a (trW (wayM rs a b))).1 = b := by
    have := wayW_leads ha hb
    unfold wayW at this
    rw [this]
  rw [nw] at nn
  have nz := neD_l (nmN rs b) (nmN rs b)
  rw [decide_eq_true rfl] at nz
  refine ⟨.dat (.int (g : Int)), .dat (.list (wD (gapW rs a b g))), .dat (.list (wD (wayW rs a b))), .dat (.list [tN b, tN b, tN b]), ?_⟩
  simp only [lstep, b_L_right_1, DP.run, DP.runB, evS, evE, evA, evT, evP, evI, startE, startX, slot_zero, slot_succ, own_zero, own_succ, box_zero, box_succ, bind_n, Dr.bind_assoc, pur_n, put_nm, put_tp, put_tpL, puts_nil, puts_cons, then_n, then_rt, then_rtO, told_rtO, put2_c, put3_c, evF, evB, flat_i, flat_b, flat_s, asLst_l, f_intI, f_intB, f_odd, f_notN, f_fListL, f_fListT, non_i, non_n, f_neS, then_bk, then_ct, told_rt, evT_qY, andB_t, andB_f, orB_t, orB_f, asInt_i, Dr.opt_some, small, within, List.length_cons, List.length_nil, List.map_cons, List.map_nil, List.cons_append, List.nil_append, List.replicate, List.set_cons_zero, List.set_cons_succ, Tt.vs, Ts.vs, Option.bind_some, Nat.reduceAdd, Nat.reduceSub, Nat.reduceLeDiff, Nat.reduceEqDiff, reduceIte, if_true, if_false, asIx_int, f_add, f_sub, f_lt, f_le, f_gt, f_ge, f_addA, f_subA, f_eqI, f_eqS, f_eqB, f_neI, f_isN, f_ixL, f_ixT, f_neg, f_not, f_min, f_max, f_abs, f_tB, f_lenL, f_lenT, f_list, f_listT, f_tup, f_tupT, f_wSeqL, f_wSeqT, f_cutT, f_cutL, wipeX, List.all_cons, List.all_nil, List.contains_cons, List.elem_nil, Bool.and_true, Bool.true_and, beq_self_eq_true, Bool.or_true, Bool.true_or, Bool.false_eq_true, Option.some.injEq, decide_true, decide_false, Bool.not_true, Bool.not_false, Nat.reduceBEq, Bool.or_false, Bool.false_or, List.append_nil, List.singleton_append, true_and, and_true, and_self, e1, e2, e3, hc, rep3, n3, c1, c2, List.length_map, s1, s2, nx, ny, nn, nz]
theorem core {rs : List Int} {lots : List (List Int)} (h0 : 1 ≤ rs.length) (hl : rs.length ≤ 12) (r0 : ∀ r ∈ rs, 0 ≤ r) (hlots : ∀ x ∈ lots, Fit rs x) (hn : lots.length = 5) (t x4 x5 x6 x7 x8 x9 x10 x11 x12 x13 x14 : Sl) : ∃ y4 y5 y6 y7 y8 y9 y10 y11, evS t_L_right_1 [.box, t, .dat (tN rs), .dat (.list (lots.map tN)), x4, x5, x6, x7, x8, x9, x10, x11, x12, x13, x14] = .ret (.nx [.box, t, .dat (tN rs), .dat (.list (lots.map tN)), y4, y5, y6, y7, y8, y9, y10, y11, x12, x13, x14]) := by
  obtain ⟨a, l, rfl⟩ : ∃ a l, lots = a :: l := by
    cases lots with
    | nil => cases hn
    | cons a l => exact ⟨a, l, rfl⟩
  have ha := hlots a (List.mem_cons_self ..)
  have cd : DP.cutD ((a :: l).map tN) (some 1) none = l.map tN := cutD_from ((a :: l).map tN) 1
  have zp : wZip.f [.list ((a :: l).map tN), .list (l.map tN)] = some (((a :: l).zip l).map fun p => .tuple [tN p.1, tN p.2]) := by
    show some (zipD ((a :: l).map tN) (l.map tN)) = _
    rw [zip_map]
  obtain ⟨env', e, y5, y6, y7, y8, y9, y10, he⟩ := forL_fold (g := fun p : List Int × List Int => PyData.tuple [tN p.1, tN p.2]) (stp := fun s p => s + few rs p.1 p.2) (enc := fun s env => ∃ y5 y6 y7 y8 y9 y10, env = [.box, t, .dat (tN rs), .dat (.list ((a :: l).map tN)), .dat (.int s), y5, y6, y7, y8, y9, y10, x11, x12, x13, x14]) (step := lstep (evS b_L_right_1) (.tp (.cons (.nm 5) (.cons (.nm 6) .nil)))) (xs := (a :: l).zip l) (b := 0) (env := [.box, t, .dat (tN rs), .dat (.list ((a :: l).map tN)), .dat (.int 0), x5, x6, x7, x8, x9, x10, x11, x12, x13, x14]) ⟨_, _, _, _, _, _, rfl⟩ fun p hp s env ⟨y5, y6, y7, y8, y9, y10, he⟩ => by
    subst he
    have h1 := hlots p.1 (List.of_mem_zip hp).1
    have h2 := hlots p.2 (List.mem_cons_of_mem _ (List.of_mem_zip hp).2)
    obtain ⟨z7, z8, z9, z10, e⟩ := step_ok h1 h2 h0 hl s t (.dat (.list ((a :: l).map tN))) y5 y6 y7 y8 y9 y10 x11 x12 x13 x14
    exact ⟨_, e, _, _, _, _, _, _, rfl⟩
  subst he
  have hz : Fit rs ((a :: l).getLastD []) := by
    have : (a :: l).getLastD [] ∈ a :: l := by
      rw [List.getLastD_eq_getLast?, List.getLast?_eq_some_getLast (by simp)]
      exact List.getLast_mem (by simp)
    exact hlots _ this
  have i0 : atI ((a :: l).map tN) 0 = some (tN a) := atI_nat' (i := 0) rfl
  have i1 : atI ((a :: l).map tN) (-1) = some (tN ((a :: l).getLastD [])) := by
    have e2 : a :: l = (a :: l).dropLast ++ [(a :: l).getLastD []] := by
      rw [List.getLastD_eq_getLast?, List.getLast?_eq_some_getLast (by simp)]
      exact (List.dropLast_concat_getLast (by simp)).symm
    conv => lhs; rw [e2]
    rw [List.map_append]
    exact DP.atI_last _ _
  have f1 := hw ha hz (by omega)
  have pl := path_le l a 0 hlots
  rw [Int.zero_add] at pl
  obtain ⟨s, es⟩ : ∃ s, ((a :: l).zip l).foldl (fun s p => s + few rs p.1 p.2) 0 = s := ⟨_, rfl⟩
  rw [es] at pl e
  have d1 : decide (s < few rs a ((a :: l).getLastD [])) = false := decide_eq_false (by omega)
  have br : sem_bare [tN rs] = _ := bare_eq rfl h0 (by omega)
  have fl : sem_fewest_left [tN rs, tN (reps rs.length 0), tN a] = _ := fewest_left_eq rfl rfl rfl (reps_len _ _) ha.len (by omega)
  have wl := wayB_len rs a
  have hc := compr_map (step := cstep (evT qY) (evE x_L_right_4) (.tp (.cons (.nm 13) (.cons (.nm 14) .nil))) [.box, t, .dat (tN rs), .dat (.list ((a :: l).map tN)), .dat (.int s), y5, y6, y7, y8, y9, y10, x11, x12, .unk, .unk]) (g := fun x : Tr => rnD ((true, x.2.1), x.2.2)) (h := fun x => .int x.2.2) (xs := wayB rs a) fun x _ => by
    simp only [cstep, rnD, x_L_right_4, DP.run, DP.runB, evS, evE, evA, evT, evP, evI, startE, startX, slot_zero, slot_succ, own_zero, own_succ, box_zero, box_succ, bind_n, Dr.bind_assoc, pur_n, put_nm, put_tp, put_tpL, puts_nil, puts_cons, then_n, then_rt, then_rtO, told_rtO, put2_c, put3_c, evF, evB, flat_i, flat_b, flat_s, asLst_l, f_intI, f_intB, f_odd, f_notN, f_fListL, f_fListT, non_i, non_n, f_neS, then_bk, then_ct, told_rt, evT_qY, andB_t, andB_f, orB_t, orB_f, asInt_i, Dr.opt_some, small, within, List.length_cons, List.length_nil, List.map_cons, List.map_nil, List.cons_append, List.nil_append, List.replicate, List.set_cons_zero, List.set_cons_succ, Tt.vs, Ts.vs, Option.bind_some, Nat.reduceAdd, Nat.reduceSub, Nat.reduceLeDiff, Nat.reduceEqDiff, reduceIte, if_true, if_false, asIx_int, f_add, f_sub, f_lt, f_le, f_gt, f_ge, f_addA, f_subA, f_eqI, f_eqS, f_eqB, f_neI, f_isN, f_ixL, f_ixT, f_neg, f_not, f_min, f_max, f_abs, f_tB, f_lenL, f_lenT, f_list, f_listT, f_tup, f_tupT, f_wSeqL, f_wSeqT, f_cutT, f_cutL, wipeX, List.all_cons, List.all_nil, List.contains_cons, List.elem_nil, Bool.and_true, Bool.true_and, beq_self_eq_true, Bool.or_true, Bool.true_or, Bool.false_eq_true, Option.some.injEq, decide_true, decide_false, Bool.not_true, Bool.not_false, Nat.reduceBEq, Bool.or_false, Bool.false_or, List.append_nil, List.singleton_append, true_and, and_true, and_self]
  have ew : wD (wayW rs (reps rs.length 0) a) = (wayB rs a).map fun x : Tr => rnD ((true, x.2.1), x.2.2) := by
    unfold wayW trW wD wayB
    rw [List.map_map]
    rfl
  have hl2 : ((wayB rs a).map fun x : Tr => rnD ((true, x.2.1), x.2.2)).length ≤ 100000 := by rw [List.length_map]; omega
  rw [ew] at fl
  rw [map_dI] at hc
  have nx : sem_name_of [tN rs, tN a] = _ := name_of_eq rfl rfl ha.len h0 (by omega)
  have nz := neD_l (nmN rs a) (nmN rs a)
  rw [decide_eq_true rfl] at nz
  have ld : sem_led_by [tN rs, lN (nmN rs a)] = _ := led_by_eq rfl rfl h0 (by omega) r0 (fun n hn => by have := nm_pos ha n hn; omega) (by have := nm_len rs a; omega)
  rw [led_name ha] at ld
  have nt := neD_t a a
  rw [decide_eq_true rfl] at nt
  generalize (a :: l).map tN = L at e i0 i1 cd zp hc ⊢
  generalize l.map tN = L' at cd zp
  generalize (((a :: l).zip l).map fun p : List Int × List Int => PyData.tuple [tN p.1, tN p.2]) = Z at zp e
  refine ⟨.dat (.int s), y5, y6, y7, y8, y9, y10, .dat (lN (nmN rs a)), ?_⟩
  simp only [t_L_right_1, DP.run, DP.runB, evS, evE, evA, evT, evP, evI, startE, startX, slot_zero, slot_succ, own_zero, own_succ, box_zero, box_succ, bind_n, Dr.bind_assoc, pur_n, put_nm, put_tp, put_tpL, puts_nil, puts_cons, then_n, then_rt, then_rtO, told_rtO, put2_c, put3_c, evF, evB, flat_i, flat_b, flat_s, asLst_l, f_intI, f_intB, f_odd, f_notN, f_fListL, f_fListT, non_i, non_n, f_neS, then_bk, then_ct, told_rt, evT_qY, andB_t, andB_f, orB_t, orB_f, asInt_i, Dr.opt_some, small, within, List.length_cons, List.length_nil, List.map_cons, List.map_nil, List.cons_append, List.nil_append, List.replicate, List.set_cons_zero, List.set_cons_succ, Tt.vs, Ts.vs, Option.bind_some, Nat.reduceAdd, Nat.reduceSub, Nat.reduceLeDiff, Nat.reduceEqDiff, reduceIte, if_true, if_false, asIx_int, f_add, f_sub, f_lt, f_le, f_gt, f_ge, f_addA, f_subA, f_eqI, f_eqS, f_eqB, f_neI, f_isN, f_ixL, f_ixT, f_neg, f_not, f_min, f_max, f_abs, f_tB, f_lenL, f_lenT, f_list, f_listT, f_tup, f_tupT, f_wSeqL, f_wSeqT, f_cutT, f_cutL, wipeX, List.all_cons, List.all_nil, List.contains_cons, List.elem_nil, Bool.and_true, Bool.true_and, beq_self_eq_true, Bool.or_true, Bool.true_or, Bool.false_eq_true, Option.some.injEq, decide_true, decide_false, Bool.not_true, Bool.not_false, Nat.reduceBEq, Bool.or_false, Bool.false_or, List.append_nil, List.singleton_append, true_and, and_true, and_self, cd, zp, e, i0, i1, f1, d1, br, fl, hl2, hc, nx, nz, ld, nt]
set_option maxHeartbeats 4000000 in
theorem holds : (sem_L_right []).ok 1000 fun d _ => d = .bool true := by
  refine ok_of_le ?_
  have r3 : wRng.f [.int 3] = some (ixD (List.range 3)) := rngF_n (by decide) (by decide)
  have r5 : wRng.f [.int 5] = some (ixD (List.range 5)) := rngF_n (by decide) (by decide)
  simp only [sem_L_right, a_L_right, DP.run, DP.runB, evS, evE, evA, evT, evP, evI, startE, startX, slot_zero, slot_succ, own_zero, own_succ, box_zero, box_succ, bind_n, Dr.bind_assoc, pur_n, put_nm, put_tp, put_tpL, puts_nil, puts_cons, then_n, then_rt, then_rtO, told_rtO, put2_c, put3_c, evF, evB, flat_i, flat_b, flat_s, asLst_l, f_intI, f_intB, f_odd, f_notN, f_fListL, f_fListT, non_i, non_n, f_neS, then_bk, then_ct, told_rt, evT_qY, andB_t, andB_f, orB_t, orB_f, asInt_i, Dr.opt_some, small, within, List.length_cons, List.length_nil, List.map_cons, List.map_nil, List.cons_append, List.nil_append, List.replicate, List.set_cons_zero, List.set_cons_succ, Tt.vs, Ts.vs, Option.bind_some, Nat.reduceAdd, Nat.reduceSub, Nat.reduceLeDiff, Nat.reduceEqDiff, reduceIte, if_true, if_false, asIx_int, f_add, f_sub, f_lt, f_le, f_gt, f_ge, f_addA, f_subA, f_eqI, f_eqS, f_eqB, f_neI, f_isN, f_ixL, f_ixT, f_neg, f_not, f_min, f_max, f_abs, f_tB, f_lenL, f_lenT, f_list, f_listT, f_tup, f_tupT, f_wSeqL, f_wSeqT, f_cutT, f_cutL, wipeX, List.all_cons, List.all_nil, List.contains_cons, List.elem_nil, Bool.and_true, Bool.true_and, beq_self_eq_true, Bool.or_true, Bool.true_or, Bool.false_eq_true, Option.some.injEq, decide_true, decide_false, Bool.not_true, Bool.not_false, Nat.reduceBEq, Bool.or_false, Bool.false_or, List.append_nil, List.singleton_append, true_and, and_true, and_self, r3]
  refine Lq.up (Lq.bind (n := 100 * (ixD (List.range 3)).length) (m := 0) (forL_allq (fun en => ∃ a b c d e f g h i j k l m n, en = [.box, a, b, c, d, e, f, g, h, i, j, k, l, m, n]) 100 ⟨_, _, _, _, _, _, _, _, _, _, _, _, _, _, rfl⟩ (fun d hd en ⟨a, b, c, x, e, f, g, h, i, j, k, l, m, n, he⟩ => ?_)).h fun fl hfl => ?_) (by decide)
  · subst he
    simp only [lstep, b_L_right_2, DP.run, DP.runB, evS, evE, evA, evT, evP, evI, startE, startX, slot_zero, slot_succ, own_zero, own_succ, box_zero, box_succ, bind_n, Dr.bind_assoc, pur_n, put_nm, put_tp, put_tpL, puts_nil, puts_cons, then_n, then_rt, then_rtO, told_rtO, put2_c, put3_c, evF, evB, flat_i, flat_b, flat_s, asLst_l, f_intI, f_intB, f_odd, f_notN, f_fListL, f_fListT, non_i, non_n, f_neS, then_bk, then_ct, told_rt, evT_qY, andB_t, andB_f, orB_t, orB_f, asInt_i, Dr.opt_some, small, within, List.length_cons, List.length_nil, List.map_cons, List.map_nil, List.cons_append, List.nil_append, List.replicate, List.set_cons_zero, List.set_cons_succ, Tt.vs, Ts.vs, Option.bind_some, Nat.reduceAdd, Nat.reduceSub, Nat.reduceLeDiff, Nat.reduceEqDiff, reduceIte, if_true, if_false, asIx_int, f_add, f_sub, f_lt, f_le, f_gt, f_ge, f_addA, f_subA, f_eqI, f_eqS, f_eqB, f_neI, f_isN, f_ixL, f_ixT, f_neg, f_not, f_min, f_max, f_abs, f_tB, f_lenL, f_lenT, f_list, f_listT, f_tup, f_tupT, f_wSeqL, f_wSeqT, f_cutT, f_cutL, wipeX, List.all_cons, List.all_nil, List.contains_cons, List.elem_nil, Bool.and_true, Bool.true_and, beq_self_eq_true, Bool.or_true, Bool.true_or, Bool.false_eq_true, Option.some.injEq, decide_true, decide_false, Bool.not_true, Bool.not_false, Nat.reduceBEq, Bool.or_false, Bool.false_or, List.append_nil, List.singleton_append, true_and, and_true, and_self, takeF_i, bind_d]
    refine Lq.up (Lq.draw (n := 90) (by decide) (by decide) fun z z0 z1 => ?_) (by decide)
    simp only [DP.run, DP.runB, evS, evE, evA, evT, evP, evI, startE, startX, slot_zero, slot_succ, own_zero, own_succ, box_zero, box_succ, bind_n, Dr.bind_assoc, pur_n, put_nm, put_tp, put_tpL, puts_nil, puts_cons, then_n, then_rt, then_rtO, told_rtO, put2_c, put3_c, evF, evB, flat_i, flat_b, flat_s, asLst_l, f_intI, f_intB, f_odd, f_notN, f_fListL, f_fListT, non_i, non_n, f_neS, then_bk, then_ct, told_rt, evT_qY, andB_t, andB_f, orB_t, orB_f, asInt_i, Dr.opt_some, small, within, List.length_cons, List.length_nil, List.map_cons, List.map_nil, List.cons_append, List.nil_append, List.replicate, List.set_cons_zero, List.set_cons_succ, Tt.vs, Ts.vs, Option.bind_some, Nat.reduceAdd, Nat.reduceSub, Nat.reduceLeDiff, Nat.reduceEqDiff, reduceIte, if_true, if_false, asIx_int, f_add, f_sub, f_lt, f_le, f_gt, f_ge, f_addA, f_subA, f_eqI, f_eqS, f_eqB, f_neI, f_isN, f_ixL, f_ixT, f_neg, f_not, f_min, f_max, f_abs, f_tB, f_lenL, f_lenT, f_list, f_listT, f_tup, f_tupT, f_wSeqL, f_wSeqT, f_cutT, f_cutL, wipeX, List.all_cons, List.all_nil, List.contains_cons, List.elem_nil, Bool.and_true, Bool.true_and, beq_self_eq_true, Bool.or_true, Bool.true_or, Bool.false_eq_true, Option.some.injEq, decide_true, decide_false, Bool.not_true, Bool.not_false, Nat.reduceBEq, Bool.or_false, Bool.false_or, List.append_nil, List.singleton_append, true_and, and_true, and_self, rngF_n (show 0 ≤ 1 + z by omega) (show 1 + z < 2 ^ 62 by omega), List.length_map, List.length_range]
    rw [if_pos (show (1 + z).toNat ≤ 100000 by omega)]
    simp only [DP.run, DP.runB, evS, evE, evA, evT, evP, evI, startE, startX, slot_zero, slot_succ, own_zero, own_succ, box_zero, box_succ, bind_n, Dr.bind_assoc, pur_n, put_nm, put_tp, put_tpL, puts_nil, puts_cons, then_n, then_rt, then_rtO, told_rtO, put2_c, put3_c, evF, evB, flat_i, flat_b, flat_s, asLst_l, f_intI, f_intB, f_odd, f_notN, f_fListL, f_fListT, non_i, non_n, f_neS, then_bk, then_ct, told_rt, evT_qY, andB_t, andB_f, orB_t, orB_f, asInt_i, Dr.opt_some, small, within, List.length_cons, List.length_nil, List.map_cons, List.map_nil, List.cons_append, List.nil_append, List.replicate, List.set_cons_zero, List.set_cons_succ, Tt.vs, Ts.vs, Option.bind_some, Nat.reduceAdd, Nat.reduceSub, Nat.reduceLeDiff, Nat.reduceEqDiff, reduceIte, if_true, if_false, asIx_int, f_add, f_sub, f_lt, f_le, f_gt, f_ge, f_addA, f_subA, f_eqI, f_eqS, f_eqB, f_neI, f_isN, f_ixL, f_ixT, f_neg, f_not, f_min, f_max, f_abs, f_tB, f_lenL, f_lenT, f_list, f_listT, f_tup, f_tupT, f_wSeqL, f_wSeqT, f_cutT, f_cutL, wipeX, List.all_cons, List.all_nil, List.contains_cons, List.elem_nil, Bool.and_true, Bool.true_and, beq_self_eq_true, Bool.or_true, Bool.true_or, Bool.false_eq_true, Option.some.injEq, decide_true, decide_false, Bool.not_true, Bool.not_false, Nat.reduceBEq, Bool.or_false, Bool.false_or, List.append_nil, List.singleton_append, true_and, and_true, and_self]
    refine Lq.up (Lq.bind (m := 70) (compr_sizes (xs := List.range (1 + z).toNat) (g := fun (i : Nat) => PyData.int (i : Int)) (hi := 99) fun x _ => by
      simp only [cstep, x_L_right_1, DP.run, DP.runB, evS, evE, evA, evT, evP, evI, startE, startX, slot_zero, slot_succ, own_zero, own_succ, box_zero, box_succ, bind_n, Dr.bind_assoc, pur_n, put_nm, put_tp, put_tpL, puts_nil, puts_cons, then_n, then_rt, then_rtO, told_rtO, put2_c, put3_c, evF, evB, flat_i, flat_b, flat_s, asLst_l, f_intI, f_intB, f_odd, f_notN, f_fListL, f_fListT, non_i, non_n, f_neS, then_bk, then_ct, told_rt, evT_qY, andB_t, andB_f, orB_t, orB_f, asInt_i, Dr.opt_some, small, within, List.length_cons, List.length_nil, List.map_cons, List.map_nil, List.cons_append, List.nil_append, List.replicate, List.set_cons_zero, List.set_cons_succ, Tt.vs, Ts.vs, Option.bind_some, Nat.reduceAdd, Nat.reduceSub, Nat.reduceLeDiff, Nat.reduceEqDiff, reduceIte, if_true, if_false, asIx_int, f_add, f_sub, f_lt, f_le, f_gt, f_ge, f_addA, f_subA, f_eqI, f_eqS, f_eqB, f_neI, f_isN, f_ixL, f_ixT, f_neg, f_not, f_min, f_max, f_abs, f_tB, f_lenL, f_lenT, f_list, f_listT, f_tup, f_tupT, f_wSeqL, f_wSeqT, f_cutT, f_cutL, wipeX, List.all_cons, List.all_nil, List.contains_cons, List.elem_nil, Bool.and_true, Bool.true_and, beq_self_eq_true, Bool.or_true, Bool.true_or, Bool.false_eq_true, Option.some.injEq, decide_true, decide_false, Bool.not_true, Bool.not_false, Nat.reduceBEq, Bool.or_false, Bool.false_or, List.append_nil, List.singleton_append, true_and, and_true, and_self, takeF_i, bind_d]
      refine le_draw (by decide) (by decide) fun a a0 a1 => ?_
      exact ⟨_, rfl, 1 + a, rfl, by omega, by omega⟩) ?_) (show (List.range (1 + z).toNat).length + 70 ≤ 90 by rw [List.length_range]; omega)
    rintro _ ⟨rs, rfl, r1, r2⟩
    rw [List.length_range] at r1
    have hl : rs.length ≤ 12 := by omega
    have h0 : 1 ≤ rs.length := by omega
    simp only [DP.run, DP.runB, evS, evE, evA, evT, evP, evI, startE, startX, slot_zero, slot_succ, own_zero, own_succ, box_zero, box_succ, bind_n, Dr.bind_assoc, pur_n, put_nm, put_tp, put_tpL, puts_nil, puts_cons, then_n, then_rt, then_rtO, told_rtO, put2_c, put3_c, evF, evB, flat_i, flat_b, flat_s, asLst_l, f_intI, f_intB, f_odd, f_notN, f_fListL, f_fListT, non_i, non_n, f_neS, then_bk, then_ct, told_rt, evT_qY, andB_t, andB_f, orB_t, orB_f, asInt_i, Dr.opt_some, small, within, List.length_cons, List.length_nil, List.map_cons, List.map_nil, List.cons_append, List.nil_append, List.replicate, List.set_cons_zero, List.set_cons_succ, Tt.vs, Ts.vs, Option.bind_some, Nat.reduceAdd, Nat.reduceSub, Nat.reduceLeDiff, Nat.reduceEqDiff, reduceIte, if_true, if_false, asIx_int, f_add, f_sub, f_lt, f_le, f_gt, f_ge, f_addA, f_subA, f_eqI, f_eqS, f_eqB, f_neI, f_isN, f_ixL, f_ixT, f_neg, f_not, f_min, f_max, f_abs, f_tB, f_lenL, f_lenT, f_list, f_listT, f_tup, f_tupT, f_wSeqL, f_wSeqT, f_cutT, f_cutL, wipeX, List.all_cons, List.all_nil, List.contains_cons, List.elem_nil, Bool.and_true, Bool.true_and, beq_self_eq_true, Bool.or_true, Bool.true_or, Bool.false_eq_true, Option.some.injEq, decide_true, decide_false, Bool.not_true, Bool.not_false, Nat.reduceBEq, Bool.or_false, Bool.false_or, List.append_nil, List.singleton_append, true_and, and_true, and_self, r5, List.length_map, List.length_range]
    refine Lq.up (Lq.bind (m := 0) (compr_lots (xs := List.range 5) (g := fun (i : Nat) => PyData.int (i : Int)) (rs := rs) (k := rs.length + 1) fun x _ => ?_) ?_) (show (rs.length + 1) * (List.range 5).length + 0 ≤ 70 by rw [List.length_range]; omega)
    · simp only [cstep, x_L_right_2, DP.run, DP.runB, evS, evE, evA, evT, evP, evI, startE, startX, slot_zero, slot_succ, own_zero, own_succ, box_zero, box_succ, bind_n, Dr.bind_assoc, pur_n, put_nm, put_tp, put_tpL, puts_nil, puts_cons, then_n, then_rt, then_rtO, told_rtO, put2_c, put3_c, evF, evB, flat_i, flat_b, flat_s, asLst_l, f_intI, f_intB, f_odd, f_notN, f_fListL, f_fListT, non_i, non_n, f_neS, then_bk, then_ct, told_rt, evT_qY, andB_t, andB_f, orB_t, orB_f, asInt_i, Dr.opt_some, small, within, List.length_cons, List.length_nil, List.map_cons, List.map_nil, List.cons_append, List.nil_append, List.replicate, List.set_cons_zero, List.set_cons_succ, Tt.vs, Ts.vs, Option.bind_some, Nat.reduceAdd, Nat.reduceSub, Nat.reduceLeDiff, Nat.reduceEqDiff, reduceIte, if_true, if_false, asIx_int, f_add, f_sub, f_lt, f_le, f_gt, f_ge, f_addA, f_subA, f_eqI, f_eqS, f_eqB, f_neI, f_isN, f_ixL, f_ixT, f_neg, f_not, f_min, f_max, f_abs, f_tB, f_lenL, f_lenT, f_list, f_listT, f_tup, f_tupT, f_wSeqL, f_wSeqT, f_cutT, f_cutL, wipeX, List.all_cons, List.all_nil, List.contains_cons, List.elem_nil, Bool.and_true, Bool.true_and, beq_self_eq_true, Bool.or_true, Bool.true_or, Bool.false_eq_true, Option.some.injEq, decide_true, decide_false, Bool.not_true, Bool.not_false, Nat.reduceBEq, Bool.or_false, Bool.false_or, List.append_nil, List.singleton_append, true_and, and_true, and_self]
      refine Dr.le_bind (m := 0) (lot_le h0 (by omega) fun r hr => by have := r2 r hr; omega) ?_
      rintro _ ⟨ls, rfl, hf⟩
      exact ⟨_, rfl, ls, rfl, hf⟩
    · rintro _ ⟨lots, rfl, hn, hf⟩
      rw [List.length_range] at hn
      obtain ⟨y4, y5, y6, y7, y8, y9, y10, y11, ec⟩ := core h0 hl (fun r hr => by have := r2 r hr; omega) hf hn (.dat d) x e f g h i j k l m n
      simp only [DP.run, DP.runB, evS, evE, evA, evT, evP, evI, startE, startX, slot_zero, slot_succ, own_zero, own_succ, box_zero, box_succ, bind_n, Dr.bind_assoc, pur_n, put_nm, put_tp, put_tpL, puts_nil, puts_cons, then_n, then_rt, then_rtO, told_rtO, put2_c, put3_c, evF, evB, flat_i, flat_b, flat_s, asLst_l, f_intI, f_intB, f_odd, f_notN, f_fListL, f_fListT, non_i, non_n, f_neS, then_bk, then_ct, told_rt, evT_qY, andB_t, andB_f, orB_t, orB_f, asInt_i, Dr.opt_some, small, within, List.length_cons, List.length_nil, List.map_cons, List.map_nil, List.cons_append, List.nil_append, List.replicate, List.set_cons_zero, List.set_cons_succ, Tt.vs, Ts.vs, Option.bind_some, Nat.reduceAdd, Nat.reduceSub, Nat.reduceLeDiff, Nat.reduceEqDiff, reduceIte, if_true, if_false, asIx_int, f_add, f_sub, f_lt, f_le, f_gt, f_ge, f_addA, f_subA, f_eqI, f_eqS, f_eqB, f_neI, f_isN, f_ixL, f_ixT, f_neg, f_not, f_min, f_max, f_abs, f_tB, f_lenL, f_lenT, f_list, f_listT, f_tup, f_tupT, f_wSeqL, f_wSeqT, f_cutT, f_cutL, wipeX, List.all_cons, List.all_nil, List.contains_cons, List.elem_nil, Bool.and_true, Bool.true_and, beq_self_eq_true, Bool.or_true, Bool.true_or, Bool.false_eq_true, Option.some.injEq, decide_true, decide_false, Bool.not_true, Bool.not_false, Nat.reduceBEq, Bool.or_false, Bool.false_or, List.append_nil, List.singleton_append, true_and, and_true, and_self, ec]
      exact Lq.ret ⟨_, rfl, _, _, _, _, _, _, _, _, _, _, _, _, _, _, rfl⟩
  · obtain ⟨env', rfl, _, _, _, _, _, _, _, _, _, _, _, _, _, _, rfl⟩ := hfl
    simp only [DP.run, DP.runB, evS, evE, evA, evT, evP, evI, startE, startX, slot_zero, slot_succ, own_zero, own_succ, box_zero, box_succ, bind_n, Dr.bind_assoc, pur_n, put_nm, put_tp, put_tpL, puts_nil, puts_cons, then_n, then_rt, then_rtO, told_rtO, put2_c, put3_c, evF, evB, flat_i, flat_b, flat_s, asLst_l, f_intI, f_intB, f_odd, f_notN, f_fListL, f_fListT, non_i, non_n, f_neS, then_bk, then_ct, told_rt, evT_qY, andB_t, andB_f, orB_t, orB_f, asInt_i, Dr.opt_some, small, within, List.length_cons, List.length_nil, List.map_cons, List.map_nil, List.cons_append, List.nil_append, List.replicate, List.set_cons_zero, List.set_cons_succ, Tt.vs, Ts.vs, Option.bind_some, Nat.reduceAdd, Nat.reduceSub, Nat.reduceLeDiff, Nat.reduceEqDiff, reduceIte, if_true, if_false, asIx_int, f_add, f_sub, f_lt, f_le, f_gt, f_ge, f_addA, f_subA, f_eqI, f_eqS, f_eqB, f_neI, f_isN, f_ixL, f_ixT, f_neg, f_not, f_min, f_max, f_abs, f_tB, f_lenL, f_lenT, f_list, f_listT, f_tup, f_tupT, f_wSeqL, f_wSeqT, f_cutT, f_cutL, wipeX, List.all_cons, List.all_nil, List.contains_cons, List.elem_nil, Bool.and_true, Bool.true_and, beq_self_eq_true, Bool.or_true, Bool.true_or, Bool.false_eq_true, Option.some.injEq, decide_true, decide_false, Bool.not_true, Bool.not_false, Nat.reduceBEq, Bool.or_false, Bool.false_or, List.append_nil, List.singleton_append, true_and, and_true, and_self]
    exact Lq.ret rfl
end K98

namespace K98
open PySem PySem.Spec PyProof.Rows L2 ZX DL RT DP
section
variable {P : Program} {w : World} {K : PySem.W.Frag} {mg : Str → Option Value} {base : Heap} {f : Addr} {fd : FuncData}
def Rright : List PyData → Nat → (PyData → Prop) → Prop := fun ds c Φ => ds = [] ∧ c = 1000 ∧ Φ = fun d => d = .bool true
theorem b01 (c : Bool) : 0 ≤ (if c = true then (1 : Int) else 0) ∧ (if c = true then (1 : Int) else 0) ≤ 1 := by
  cases c <;> decide
def spBox (K : PySem.W.Frag) : Sp := fun vs H Q _ => ∃ (a : Addr) (ns : List Int) (k : Int), vs = [.ref a, .int k] ∧ SqL K H a (ns.map V.int) ∧ 0 ≤ k ∧ k ≤ 100 ∧ ∀ p (c0 c1 : Int), H p = none → 0 ≤ c0 → 0 ≤ c1 → c1 < 2 ^ 33 → Q (.ref p) (upd H p (.lst [.int c0, .int c1, .int 0]))
theorem ok_box (B : Bi mg) (F : Fun K "_law_box" "_law_box" s_L_box f fd) : FnOk P w K mg base CX0 1 f fd ["_law_script", "_law_k"] (spBox K) := by
  refine F.ok c_L_box (fun vs H Q E h => ?_) (fun cdv A outer s H vs Q E hr h => ?_)
  · obtain ⟨a, ns, k, rfl, _⟩ := h
    rfl
  · obtain ⟨a, ns, k, rfl, hS, k0, k1, q⟩ := h
    refine ⟨_, (pss_cons (ps_set (i := 2) c_L_box.nd rfl (.inl rfl) (pe_ifExp (pt_cmpR op_lt (pv 1) (pe_callB call_len_seq (by rfl) B.n_len (by decide +kernel) (pa_cons (pv 0) pa_nil)) (nomark _)) (pe_ix ix_list (pv 0) (pv 1) (fun _ _ => rfl)) pe_int))
      (pss_one (ps_ret (pe_lst (pa_cons (pe_op op_mul (pe_callB call_abs (by rfl) B.n_abs (by decide +kernel) (pa_cons (pv 2) pa_nil)) (pe_callTy call_int1 (by rfl) B.n_int (by decide +kernel) (pa_cons (pe_cmpR op_ge (pe_callB call_abs (by rfl) B.n_abs (by decide +kernel) (pa_cons (pv 2) pa_nil)) (pe_op op_pow pe_int pe_int) (nomark _)) pa_nil))) (pa_cons (pe_op op_add (pe_op op_add (pe_op op_modN (pv 2) pe_int) (pe_op op_mul pe_int (pv 1))) pe_int) (pa_cons pe_int pa_nil))))))), ?_⟩
    have fin : ∀ z : Int, ∀ Qr : VK, (∀ p (c0 c1 : Int), H p = none → 0 ≤ c0 → 0 ≤ c1 → c1 < 2 ^ 33 → Qr (.ref p) (upd H p (.lst [.int c0, .int c1, .int 0]))) → ∀ p, H p = none → Qr (.ref p) (upd H p (.lst [.int ((if z < 0 then -z else z) * (if decide (10 ^ (Int.toNat 18) ≤ (if z < 0 then -z else z)) = true then 1 else 0)), .int (z.fmod 2147483629 + 7919 * k + 29), .int 0])) := fun z Qr h p np => by
      have f0 : 0 ≤ z.fmod 2147483629 := by
        rw [Int.fmod_eq_emod_of_nonneg _ (by decide)]
        exact Int.emod_nonneg _ (by decide)
      have f1 : z.fmod 2147483629 < 2147483629 := by
        rw [Int.fmod_eq_emod_of_nonneg _ (by decide)]
        exact Int.emod_lt_of_pos _ (by decide)
      refine h p _ _ np ?_ (by omega) (by omega)
      refine Int.mul_nonneg ?_ ?_
      · split <;> omega
      · exact (b01 _).1
    -- cell = 0; if k < len(script): cell = script[k]
    refine ⟨_, rfl, _, rfl, a, _, rfl, .inl hS, k, _, rfl, rfl, _, rfl, ite2 (fun e => ?_) (fun e => ?_)⟩
    · have hk : k < (ns.map V.int).length := of_decide_eq_true e
      obtain ⟨j, rfl⟩ := Int.eq_ofNat_of_zero_le k0
      have hj : j < ns.length := by
        rw [List.length_map] at hk
        omega
      have hg : (ns.map V.int)[j]? = some (.int ns[j]) := by
        rw [List.getElem?_map, List.getElem?_eq_getElem hj]
        rfl
      refine ⟨_, rfl, _, rfl, a, _, _, _, rfl, rfl, hS, atI_nat hg, ?_⟩
      refine ⟨_, rfl, _, rfl, _, rfl, _, rfl, 10, 18, rfl, rfl, ⟨by decide, by decide, by decide⟩, _, _, rfl, rfl, .inr ⟨_, rfl, _, _, rfl, rfl, .inr ⟨?_, ?_⟩, _, rfl, _, 2147483629, rfl, rfl, (show (2147483629 : Int) ≠ 0 by decide), _, rfl, 7919, _, rfl, rfl, .inl ⟨by decide, by decide⟩, _, _, rfl, rfl, _, 29, rfl, rfl, by show 3 ≤ sizeLine; decide, fun p np => fin ns[j] Q q p np⟩⟩
      · exact Int.lt_of_lt_of_le (by decide) (b01 _).1
      · exact Int.lt_of_le_of_lt (b01 _).2 (by decide)
    · refine ⟨_, rfl, _, rfl, _, rfl, _, rfl, 10, 18, rfl, rfl, ⟨by decide, by decide, by decide⟩, _, _, rfl, rfl, .inr ⟨_, rfl, _, _, rfl, rfl, .inr ⟨?_, ?_⟩, _, rfl, _, 2147483629, rfl, rfl, (show (2147483629 : Int) ≠ 0 by decide), _, rfl, 7919, _, rfl, rfl, .inl ⟨by decide, by decide⟩, _, _, rfl, rfl, _, 29, rfl, rfl, by show 3 ≤ sizeLine; decide, fun p np => fin 0 Q q p np⟩⟩
      · exact Int.lt_of_lt_of_le (by decide) (b01 _).1
      · exact Int.lt_of_le_of_lt (b01 _).2 (by decide)
structure Cw (P : Program) (w : World) (K : PySem.W.Frag) (mg : Str → Option Value) (base : Heap) : Prop where
  L_box : Cl P w K mg base 1 "_law_box" s_L_box ["_law_script", "_law_k"] (spBox K)
  L_right : Cl P w K mg base 8 "_law_right" s_L_right ["_law_box_here"] (spB K Rright)
def spLaw (K : PySem.W.Frag) : Sp := fun vs H Q _ => ∃ (a : Addr) (ns : List Int), vs = [.ref a] ∧ SqL K H a (ns.map V.int) ∧ ns.length ≤ 63 ∧ ∀ H', Q (.bl true) H'
theorem ok_law (B : Bi mg) (C : Cw P w K mg base) (F : Fun K "law" "law" s_law f fd) : FnOk P w K mg base CX0 9 f fd ["_law_script"] (spLaw K) := by
  refine F.ok c_law (fun vs H Q E h => ?_) (fun cdv A outer s H vs Q E hr h => ?_)
  · obtain ⟨a, ns, rfl, _⟩ := h
    rfl
  · obtain ⟨a, ns, rfl, hS, hlen, q⟩ := h
    refine ⟨_, (pss_one (ps_ret (pe_callB (cr_all rfl) (by rfl) B.n_all (by decide +kernel) (pa_cons (pe_lc (own := [("_law_k", 1)]) (g := gName 1) (tt := tYes) rfl c_law.nd (pi_range1 (by rfl) B.n_range (pa_cons (pe_op op_add pe_int (pe_callB (call_min2 rfl) (by rfl) B.n_min (by decide +kernel) (pa_cons pe_int (pa_cons (pe_callB call_len_seq (by rfl) B.n_len (by decide +kernel) (pa_cons (pv 0) pa_nil)) pa_nil)))) pa_nil)) (blkOk_by (N := N_law) (sc := defScope s_law) (by decide +kernel)) (fun _ _ _ _ _ => (pg_name (i := 1) c_law.nd rfl (.inl rfl))) (fun _ _ _ _ _ => pts_nil) (fun _ _ _ _ _ => (pe_cl C.L_right hr (by omega) (by rfl) (pa_cons (pe_cl C.L_box hr (by omega) (by rfl) (pa_cons (pv 0) (pa_cons (pv 1) pa_nil))) pa_nil)))) pa_nil)))), ?_⟩
    have hb : (1 + (if ((ns.map V.int).length : Int) < 3 then ((ns.map V.int).length : Int) else 3)) ≤ 5 ∧ 1 ≤ (1 + (if ((ns.map V.int).length : Int) < 3 then ((ns.map V.int).length : Int) else 3)) := by
      split <;> omega
    refine ⟨.ref a, rfl, a, _, rfl, .inl hS, 3, _, rfl, 1, _, rfl, rfl, _, rfl, ?_, ?_, fun D nD => ?_⟩
    · have := hb.2
      omega
    · have := hb.1
      omega
    refine lc_range (fun i H' => (∀ c o, H c = some o → H' c = some o) ∧ H' D = some (.lst ((List.replicate i true).map V.bl)) ∧ i ≤ 5) ⟨fun c o e => ?_, upd_same, by omega⟩ (fun i H' hi ⟨h1, h2, h3⟩ => ?_) (fun H' ⟨h1, h2, h3⟩ => ?_)
    · rw [upd_ne (ne_of_none e nD)]
      exact e
    · refine ⟨rfl, ?_⟩
      show tCall (spB K Rright) [] E0 (tCons (tCall (spBox K) [] E0 (tCons (tVar 0) (tCons (tVar 1) tNil))) tNil) _ H' _
      have hi4 : i < 5 := by omega
      refine ⟨_, rfl, _, rfl, a, ns, 0 + (i : Int), rfl, Same.seq h1 hS, by omega, by omega, fun p c0 c1 np a0 a1 a2 => ?_⟩
      have nDp : D ≠ p := ne_of_none h2 np
      refine ⟨p, [], fun _ => none, [], 0, 1000, _, rfl, .nil, ⟨(fun _ _ e => by cases e), fun _ _ => rfl, ⟨c0, c1, 0, upd_same, a0, a1, a2, by omega, by decide⟩⟩, ⟨rfl, rfl, rfl⟩, fun v d G2 H2 m w2 dv hd => ?_⟩
      subst hd
      cases dv
      have k2 : ∀ c o, H' c = some o → H2 c = some o := fun c o e => m.kp c o (by
        rw [upd_ne (ne_of_none e np)]
        exact e) (ne_of_none e np)
      refine ⟨_, k2 D _ h2, ?_, fun c o e => ?_, ?_, by omega⟩
      · rw [List.length_map, List.length_replicate]
        exact Nat.lt_of_le_of_lt (show i ≤ 5 by omega) (by decide)
      · rw [upd_ne (ne_of_none e nD)]
        exact k2 c o (h1 c o e)
      · rw [upd_same, List.replicate_succ', List.map_append]
        rfl
    · refine ⟨D, _, rfl, .inl (.inl h2), ?_⟩
      rw [List.all_replicate]
      simp
      exact q _
end
structure DF0 (K : PySem.W.Frag) (w : World) (a : Addr) (es : Array DictEntry) (n : Nat) (u0 u1 u2 u3 : Value) : Prop where
  a1 : PySem.W.nsIn K mainGlobals "HEARD_AT" = some (some (.ref a))
  l : K.lookup a = some ⟨.type "dict", none, .dict es n, #[]⟩
  k : PySem.W.KeysLit w.params es.toList
  n0 : PySem.W.nsIn K a "R+" = some (some u0)
  r0 : RelV (.int 0) u0
  n1 : PySem.W.nsIn K a "R-" = some (some u1)
  r1 : RelV (.int 1) u1
  n2 : PySem.W.nsIn K a "L+" = some (some u2)
  r2 : RelV (.int 2) u2
  n3 : PySem.W.nsIn K a "L-" = some (some u3)
  r3 : RelV (.int 3) u3
structure DF1 (K : PySem.W.Frag) (w : World) (a : Addr) (es : Array DictEntry) (n : Nat) (u0 u1 u2 u3 : Value) : Prop where
  a1 : PySem.W.nsIn K mainGlobals "OTHER_HAND" = some (some (.ref a))
  l : K.lookup a = some ⟨.type "dict", none, .dict es n, #[]⟩
  k : PySem.W.KeysLit w.params es.toList
  n0 : PySem.W.nsIn K a "L+" = some (some u0)
  r0 : RelV (.str "R+") u0
  n1 : PySem.W.nsIn K a "L-" = some (some u1)
  r1 : RelV (.str "R-") u1
  n2 : PySem.W.nsIn K a "R+" = some (some u2)
  r2 : RelV (.str "L+") u2
  n3 : PySem.W.nsIn K a "R-" = some (some u3)
  r3 : RelV (.str "L-") u3
structure TF0 (K : PySem.W.Frag) (a : Addr) (its : Array Value) (n : Nat) (od : Option Addr) (sl : Array (Option Value)) : Prop where
  a1 : PySem.W.nsIn K mainGlobals "INS" = some (some (.ref a))
  l : K.lookup a = some ⟨.type "tuple", od, .seq its n, sl⟩
  z : its.size ≤ sizeLine
  v : Vals ((gts 0).map V.str) its.toList
theorem da_none {z0 z1 zt0 : Addr} (n : Nat) : da_ z0 z1 zt0 (10 + (n + 2)) = none := by
  rw [show 10 + (n + 2) = n + 12 from by omega]
  rfl
theorem hD_mk {K : PySem.W.Frag} {w : World} {z0 : Addr} {es0 : Array DictEntry} {n0 : Nat} {u00 u01 u02 u03 : Value} (d0 : DF0 K w z0 es0 n0 u00 u01 u02 u03) {z1 : Addr} {es1 : Array DictEntry} {n1 : Nat} {u10 u11 u12 u13 : Value} (d1 : DF1 K w z1 es1 n1 u10 u11 u12 u13) {zt0 : Addr} {ti0 : Array Value} {tn0 : Nat} {to0 : Option Addr} {ts0 : Array (Option Value)} (u0 : TF0 K zt0 ti0 tn0 to0 ts0) : HD K w (da_ z0 z1 zt0) := by
  refine ⟨fun i a z d h e => ?_, fun i a h => ?_⟩
  · match i, h with
    | 0, h =>
      cases h
      rcases gds0_of e with ⟨rfl, rfl⟩ | ⟨rfl, rfl⟩ | ⟨rfl, rfl⟩ | ⟨rfl, rfl⟩
      · exact ⟨_, ⟨_, _, _, d0.l, d0.k, d0.n0, d0.r0⟩, fun G => .int _⟩
      · exact ⟨_, ⟨_, _, _, d0.l, d0.k, d0.n1, d0.r1⟩, fun G => .int _⟩
      · exact ⟨_, ⟨_, _, _, d0.l, d0.k, d0.n2, d0.r2⟩, fun G => .int _⟩
      · exact ⟨_, ⟨_, _, _, d0.l, d0.k, d0.n3, d0.r3⟩, fun G => .int _⟩
    | 1, h =>
      cases h
      rcases gds1_of e with ⟨rfl, rfl⟩ | ⟨rfl, rfl⟩ | ⟨rfl, rfl⟩ | ⟨rfl, rfl⟩
      · exact ⟨_, ⟨_, _, _, d1.l, d1.k, d1.n0, d1.r0⟩, fun G => .str _⟩
      · exact ⟨_, ⟨_, _, _, d1.l, d1.k, d1.n1, d1.r1⟩, fun G => .str _⟩
      · exact ⟨_, ⟨_, _, _, d1.l, d1.k, d1.n2, d1.r2⟩, fun G => .str _⟩
      · exact ⟨_, ⟨_, _, _, d1.l, d1.k, d1.n3, d1.r3⟩, fun G => .str _⟩
    | 2, h => cases h
    | n + 3, h => cases e
  · match i, h with
    | 0, h =>
      cases h
      exact ⟨_, _, _, u0.l, rfl, rfl, u0.z, u0.v⟩
    | 1, h => cases h
    | n + 2, h => exact absurd h (by rw [da_none]; exact fun z => nomatch z)
structure FT (K : PySem.W.Frag) (x : Str) (st : Stmt) (f : Addr) (oc : Value) (od an : Option Addr) (sl : Array (Option Value)) (kV dc pm cd ct : Value) : Prop where
  a : PySem.W.nsIn K mainGlobals x = some (some (.ref f))
  l : K.lookup f = some ⟨oc, od, .func (PySem.W.fnOf x x (defArgs st) (defBody st) (defScope st) .none kV dc pm an cd ct), sl⟩
  c : PySem.W.codeIn K cd x = true
  k : PySem.W.keepIn K (.ref f) = true
theorem all_mk {q : Program} {w : World} {K : PySem.W.Frag} {h : Heap} {mg : Str → Option Value} {fa : Addr} (X : K.In h) (G : h.Ns mainGlobals mg) (hfa : mg "law" = some (.ref fa))
    {z0 : Addr} {es0 : Array DictEntry} {n0 : Nat} {u00 u01 u02 u03 : Value} (d0 : DF0 K w z0 es0 n0 u00 u01 u02 u03)
    {z1 : Addr} {es1 : Array DictEntry} {n1 : Nat} {u10 u11 u12 u13 : Value} (d1 : DF1 K w z1 es1 n1 u10 u11 u12 u13)
    {zt0 : Addr} {ti0 : Array Value} {tn0 : Nat} {to0 : Option Addr} {ts0 : Array (Option Value)} (u0 : TF0 K zt0 ti0 tn0 to0 ts0)
    {f0 : Addr} {oc0 : Value} {od0 an0 : Option Addr} {sl0 : Array (Option Value)} {kV0 dc0 pm0 cd0 ct0 : Value} (t0 : FT K "bare" s_bare f0 oc0 od0 an0 sl0 kV0 dc0 pm0 cd0 ct0)
    {f1 : Addr} {oc1 : Value} {od1 an1 : Option Addr} {sl1 : Array (Option Value)} {kV1 dc1 pm1 cd1 ct1 : Value} (t1 : FT K "size_of" s_size_of f1 oc1 od1 an1 sl1 kV1 dc1 pm1 cd1 ct1)
    {f2 : Addr} {oc2 : Value} {od2 an2 : Option Addr} {sl2 : Array (Option Value)} {kV2 dc2 pm2 cd2 ct2 : Value} (t2 : FT K "turned" s_turned f2 oc2 od2 an2 sl2 kV2 dc2 pm2 cd2 ct2)
    {f3 : Addr} {oc3 : Value} {od3 an3 : Option Addr} {sl3 : Array (Option Value)} {kV3 dc3 pm3 cd3 ct3 : Value} (t3 : FT K "reached" s_reached f3 oc3 od3 an3 sl3 kV3 dc3 pm3 cd3 ct3)
    {f4 : Addr} {oc4 : Value} {od4 an4 : Option Addr} {sl4 : Array (Option Value)} {kV4 dc4 pm4 cd4 ct4 : Value} (t4 : FT K "run_done" s_run_done f4 oc4 od4 an4 sl4 kV4 dc4 pm4 cd4 ct4)
    {f5 : Addr} {oc5 : Value} {od5 an5 : Option Addr} {sl5 : Array (Option Value)} {kV5 dc5 pm5 cd5 ct5 : Value} (t5 : FT K "word_done" s_word_done f5 oc5 od5 an5 sl5 kV5 dc5 pm5 cd5 ct5)
    {f6 : Addr} {oc6 : Value} {od6 an6 : Option Addr} {sl6 : Array (Option Value)} {kV6 dc6 pm6 cd6 ct6 : Value} (t6 : FT K "breathed" s_breathed f6 oc6 od6 an6 sl6 kV6 dc6 pm6 cd6 ct6)
    {f7 : Addr} {oc7 : Value} {od7 an7 : Option Addr} {sl7 : Array (Option Value)} {kV7 dc7 pm7 cd7 ct7 : Value} (t7 : FT K "left_way" s_left_way f7 oc7 od7 an7 sl7 kV7 dc7 pm7 cd7 ct7)
    {f8 : Addr} {oc8 : Value} {od8 an8 : Option Addr} {sl8 : Array (Option Value)} {kV8 dc8 pm8 cd8 ct8 : Value} (t8 : FT K "led_by" s_led_by f8 oc8 od8 an8 sl8 kV8 dc8 pm8 cd8 ct8)
    {f9 : Addr} {oc9 : Value} {od9 an9 : Option Addr} {sl9 : Array (Option Value)} {kV9 dc9 pm9 cd9 ct9 : Value} (t9 : FT K "name_of" s_name_of f9 oc9 od9 an9 sl9 kV9 dc9 pm9 cd9 ct9)
    {f10 : Addr} {oc10 : Value} {od10 an10 : Option Addr} {sl10 : Array (Option Value)} {kV10 dc10 pm10 cd10 ct10 : Value} (t10 : FT K "with_turn" s_with_turn f10 oc10 od10 an10 sl10 kV10 dc10 pm10 cd10 ct10)
    {f11 : Addr} {oc11 : Value} {od11 an11 : Option Addr} {sl11 : Array (Option Value)} {kV11 dc11 pm11 cd11 ct11 : Value} (t11 : FT K "fewest_left" s_fewest_left f11 oc11 od11 an11 sl11 kV11 dc11 pm11 cd11 ct11)
    {f12 : Addr} {oc12 : Value} {od12 an12 : Option Addr} {sl12 : Array (Option Value)} {kV12 dc12 pm12 cd12 ct12 : Value} (t12 : FT K "fewest_right" s_fewest_right f12 oc12 od12 an12 sl12 kV12 dc12 pm12 cd12 ct12)
    {f13 : Addr} {oc13 : Value} {od13 an13 : Option Addr} {sl13 : Array (Option Value)} {kV13 dc13 pm13 cd13 ct13 : Value} (t13 : FT K "by_gap" s_by_gap f13 oc13 od13 an13 sl13 kV13 dc13 pm13 cd13 ct13)
    {f14 : Addr} {oc14 : Value} {od14 an14 : Option Addr} {sl14 : Array (Option Value)} {kV14 dc14 pm14 cd14 ct14 : Value} (t14 : FT K "fewest" s_fewest f14 oc14 od14 an14 sl14 kV14 dc14 pm14 cd14 ct14)
    {f15 : Addr} {oc15 : Value} {od15 an15 : Option Addr} {sl15 : Array (Option Value)} {kV15 dc15 pm15 cd15 ct15 : Value} (t15 : FT K "how_few" s_how_few f15 oc15 od15 an15 sl15 kV15 dc15 pm15 cd15 ct15)
    {f16 : Addr} {oc16 : Value} {od16 an16 : Option Addr} {sl16 : Array (Option Value)} {kV16 dc16 pm16 cd16 ct16 : Value} (t16 : FT K "_law_box" s_L_box f16 oc16 od16 an16 sl16 kV16 dc16 pm16 cd16 ct16)
    {f17 : Addr} {oc17 : Value} {od17 an17 : Option Addr} {sl17 : Array (Option Value)} {kV17 dc17 pm17 cd17 ct17 : Value} (t17 : FT K "_law_take" s_L_take f17 oc17 od17 an17 sl17 kV17 dc17 pm17 cd17 ct17)
    {f18 : Addr} {oc18 : Value} {od18 an18 : Option Addr} {sl18 : Array (Option Value)} {kV18 dc18 pm18 cd18 ct18 : Value} (t18 : FT K "_law_lot" s_L_lot f18 oc18 od18 an18 sl18 kV18 dc18 pm18 cd18 ct18)
    {f19 : Addr} {oc19 : Value} {od19 an19 : Option Addr} {sl19 : Array (Option Value)} {kV19 dc19 pm19 cd19 ct19 : Value} (t19 : FT K "_law_named" s_L_named f19 oc19 od19 an19 sl19 kV19 dc19 pm19 cd19 ct19)
    {f20 : Addr} {oc20 : Value} {od20 an20 : Option Addr} {sl20 : Array (Option Value)} {kV20 dc20 pm20 cd20 ct20 : Value} (t20 : FT K "_law_right" s_L_right f20 oc20 od20 an20 sl20 kV20 dc20 pm20 cd20 ct20)
    {f21 : Addr} {oc21 : Value} {od21 an21 : Option Addr} {sl21 : Array (Option Value)} {kV21 dc21 pm21 cd21 ct21 : Value} (t21 : FT K "law" s_law f21 oc21 od21 an21 sl21 kV21 dc21 pm21 cd21 ct21)
    (z_len : PySem.W.nsIn K mainGlobals "len" = some none)
    (z_isinstance : PySem.W.nsIn K mainGlobals "isinstance" = some none)
    (z_all : PySem.W.nsIn K mainGlobals "all" = some none)
    (z_any : PySem.W.nsIn K mainGlobals "any" = some none)
    (z_zip : PySem.W.nsIn K mainGlobals "zip" = some none)
    (z_range : PySem.W.nsIn K mainGlobals "range" = some none)
    (z_min : PySem.W.nsIn K mainGlobals "min" = some none)
    (z_max : PySem.W.nsIn K mainGlobals "max" = some none)
    (z_abs : PySem.W.nsIn K mainGlobals "abs" = some none)
    (z_int : PySem.W.nsIn K mainGlobals "int" = some none)
    (z_bool : PySem.W.nsIn K mainGlobals "bool" = some none)
    (z_str : PySem.W.nsIn K mainGlobals "str" = some none)
    (z_list : PySem.W.nsIn K mainGlobals "list" = some none)
    (z_tuple : PySem.W.nsIn K mainGlobals "tuple" = some none)
    (z_sum : PySem.W.nsIn K mainGlobals "sum" = some none)
    (z_enumerate : PySem.W.nsIn K mainGlobals "enumerate" = some none)
    (z_reversed : PySem.W.nsIn K mainGlobals "reversed" = some none)
    (z_divmod : PySem.W.nsIn K mainGlobals "divmod" = some none)
    : ∃ fd : FuncData, (∀ (s : Shared) (v : Value), BindsTo s fd ⟨[v], []⟩ [("_law_script", v)]) ∧ ∀ base : Heap, K.In base → base.Ns mainGlobals mg → FnOk q w K mg base CX0 9 fa fd ["_law_script"] (spLaw K) := by
  have e := hfa.symm.trans (PySem.W.mg_of X G t21.a)
  cases e
  have F0 := fun_mk (st := s_bare) t0.l t0.c t0.k
  have m0 := PySem.W.mg_of X G t0.a
  have F1 := fun_mk (st := s_size_of) t1.l t1.c t1.k
  have m1 := PySem.W.mg_of X G t1.a
  have F2 := fun_mk (st := s_turned) t2.l t2.c t2.k
  have m2 := PySem.W.mg_of X G t2.a
  have F3 := fun_mk (st := s_reached) t3.l t3.c t3.k
  have m3 := PySem.W.mg_of X G t3.a
  have F4 := fun_mk (st := s_run_done) t4.l t4.c t4.k
  have m4 := PySem.W.mg_of X G t4.a
  have F5 := fun_mk (st := s_word_done) t5.l t5.c t5.k
  have m5 := PySem.W.mg_of X G t5.a
  have F6 := fun_mk (st := s_breathed) t6.l t6.c t6.k
  have m6 := PySem.W.mg_of X G t6.a
  have F7 := fun_mk (st := s_left_way) t7.l t7.c t7.k
  have m7 := PySem.W.mg_of X G t7.a
  have F8 := fun_mk (st := s_led_by) t8.l t8.c t8.k
  have m8 := PySem.W.mg_of X G t8.a
  have F9 := fun_mk (st := s_name_of) t9.l t9.c t9.k
  have m9 := PySem.W.mg_of X G t9.a
  have F10 := fun_mk (st := s_with_turn) t10.l t10.c t10.k
  have m10 := PySem.W.mg_of X G t10.a
  have F11 := fun_mk (st := s_fewest_left) t11.l t11.c t11.k
  have m11 := PySem.W.mg_of X G t11.a
  have F12 := fun_mk (st := s_fewest_right) t12.l t12.c t12.k
  have m12 := PySem.W.mg_of X G t12.a
  have F13 := fun_mk (st := s_by_gap) t13.l t13.c t13.k
  have m13 := PySem.W.mg_of X G t13.a
  have F14 := fun_mk (st := s_fewest) t14.l t14.c t14.k
  have m14 := PySem.W.mg_of X G t14.a
  have F15 := fun_mk (st := s_how_few) t15.l t15.c t15.k
  have m15 := PySem.W.mg_of X G t15.a
  have F16 := fun_mk (st := s_L_box) t16.l t16.c t16.k
  have m16 := PySem.W.mg_of X G t16.a
  have F17 := fun_mk (st := s_L_take) t17.l t17.c t17.k
  have m17 := PySem.W.mg_of X G t17.a
  have F18 := fun_mk (st := s_L_lot) t18.l t18.c t18.k
  have m18 := PySem.W.mg_of X G t18.a
  have F19 := fun_mk (st := s_L_named) t19.l t19.c t19.k
  have m19 := PySem.W.mg_of X G t19.a
  have F20 := fun_mk (st := s_L_right) t20.l t20.c t20.k
  have m20 := PySem.W.mg_of X G t20.a
  have F21 := fun_mk (st := s_law) t21.l t21.c t21.k
  have m21 := PySem.W.mg_of X G t21.a
  have B : Bi mg := ⟨PySem.W.mg_none_of X G z_len, PySem.W.mg_none_of X G z_isinstance, PySem.W.mg_none_of X G z_all, PySem.W.mg_none_of X G z_any, PySem.W.mg_none_of X G z_zip, PySem.W.mg_none_of X G z_range, PySem.W.mg_none_of X G z_min, PySem.W.mg_none_of X G z_max, PySem.W.mg_none_of X G z_abs, PySem.W.mg_none_of X G z_int, PySem.W.mg_none_of X G z_bool, PySem.W.mg_none_of X G z_str, PySem.W.mg_none_of X G z_list, PySem.W.mg_none_of X G z_tuple, PySem.W.mg_none_of X G z_sum, PySem.W.mg_none_of X G z_enumerate, PySem.W.mg_none_of X G z_reversed, PySem.W.mg_none_of X G z_divmod⟩
  have Dc : Dcs K w mg z0 z1 zt0 := ⟨hD_mk d0 d1 u0, PySem.W.mg_of X G d0.a1, PySem.W.mg_of X G d1.a1, PySem.W.mg_of X G u0.a1⟩
  have b0 := F0.binds (ps := ["rooms"]) fun _ _ _ _ _ _ us hl => match us, hl with | [_], _ => rfl
  have b1 := F1.binds (ps := ["word"]) fun _ _ _ _ _ _ us hl => match us, hl with | [_], _ => rfl
  have b2 := F2.binds (ps := ["word"]) fun _ _ _ _ _ _ us hl => match us, hl with | [_], _ => rfl
  have b3 := F3.binds (ps := ["rooms", "breath"]) fun _ _ _ _ _ _ us hl => match us, hl with | [_, _], _ => rfl
  have b4 := F4.binds (ps := ["rooms", "standing", "breath", "many"]) fun _ _ _ _ _ _ us hl => match us, hl with | [_, _, _, _], _ => rfl
  have b5 := F5.binds (ps := ["rooms", "standing", "word"]) fun _ _ _ _ _ _ us hl => match us, hl with | [_, _, _], _ => rfl
  have b6 := F6.binds (ps := ["rooms", "standing", "word"]) fun _ _ _ _ _ _ us hl => match us, hl with | [_, _, _], _ => rfl
  have b7 := F7.binds (ps := ["rooms", "one", "other"]) fun _ _ _ _ _ _ us hl => match us, hl with | [_, _, _], _ => rfl
  have b8 := F8.binds (ps := ["rooms", "turns"]) fun _ _ _ _ _ _ us hl => match us, hl with | [_, _], _ => rfl
  have b9 := F9.binds (ps := ["rooms", "standing"]) fun _ _ _ _ _ _ us hl => match us, hl with | [_, _], _ => rfl
  have b10 := F10.binds (ps := ["rooms", "turns", "many"]) fun _ _ _ _ _ _ us hl => match us, hl with | [_, _, _], _ => rfl
  have b11 := F11.binds (ps := ["rooms", "one", "other"]) fun _ _ _ _ _ _ us hl => match us, hl with | [_, _, _], _ => rfl
  have b12 := F12.binds (ps := ["rooms", "one", "other"]) fun _ _ _ _ _ _ us hl => match us, hl with | [_, _, _], _ => rfl
  have b13 := F13.binds (ps := ["rooms", "one", "other", "gap"]) fun _ _ _ _ _ _ us hl => match us, hl with | [_, _, _, _], _ => rfl
  have b14 := F14.binds (ps := ["rooms", "one", "other"]) fun _ _ _ _ _ _ us hl => match us, hl with | [_, _, _], _ => rfl
  have b15 := F15.binds (ps := ["rooms", "one", "other"]) fun _ _ _ _ _ _ us hl => match us, hl with | [_, _, _], _ => rfl
  have b16 := F16.binds (ps := ["_law_script", "_law_k"]) fun _ _ _ _ _ _ us hl => match us, hl with | [_, _], _ => rfl
  have b17 := F17.binds (ps := ["_law_box_here", "_law_below"]) fun _ _ _ _ _ _ us hl => match us, hl with | [_, _], _ => rfl
  have b18 := F18.binds (ps := ["_law_box_here", "_law_sizes"]) fun _ _ _ _ _ _ us hl => match us, hl with | [_, _], _ => rfl
  have b19 := F19.binds (ps := ["_law_sizes", "_law_some", "_law_runs"]) fun _ _ _ _ _ _ us hl => match us, hl with | [_, _, _], _ => rfl
  have b20 := F20.binds (ps := ["_law_box_here"]) fun _ _ _ _ _ _ us hl => match us, hl with | [_], _ => rfl
  refine ⟨PySem.W.fnOf "law" "law" (defArgs s_law) (defBody s_law) (defScope s_law) .none kV21 dc21 pm21 an21 cd21 ct21, fun s v => .of_eq rfl, fun base _ _ => ?_⟩
  have c_bare_ : Cl q w K mg base 1 "bare" s_bare ["rooms"] (spF K sem_bare) := ⟨f0, _, F0, ok_bare B Dc  F0, m0, b0⟩
  have c_size_of_ : Cl q w K mg base 1 "size_of" s_size_of ["word"] (spF K sem_size_of) := ⟨f1, _, F1, ok_size_of B Dc  F1, m1, b1⟩
  have c_turned_ : Cl q w K mg base 1 "turned" s_turned ["word"] (spF K sem_turned) := ⟨f2, _, F2, ok_turned B Dc  F2, m2, b2⟩
  have c_reached_ : Cl q w K mg base 1 "reached" s_reached ["rooms", "breath"] (spF K sem_reached) := ⟨f3, _, F3, ok_reached B Dc  F3, m3, b3⟩
  have c_run_done_ : Cl q w K mg base 2 "run_done" s_run_done ["rooms", "standing", "breath", "many"] (spF K sem_run_done) := ⟨f4, _, F4, ok_run_done B Dc c_reached_ F4, m4, b4⟩
  have c_word_done_ : Cl q w K mg base 3 "word_done" s_word_done ["rooms", "standing", "word"] (spF K sem_word_done) := ⟨f5, _, F5, ok_word_done B Dc c_run_done_ F5, m5, b5⟩
  have c_breathed_ : Cl q w K mg base 4 "breathed" s_breathed ["rooms", "standing", "word"] (spF K sem_breathed) := ⟨f6, _, F6, ok_breathed B Dc c_word_done_ F6, m6, b6⟩
  have c_left_way_ : Cl q w K mg base 1 "left_way" s_left_way ["rooms", "one", "other"] (spF K sem_left_way) := ⟨f7, _, F7, ok_left_way B Dc  F7, m7, b7⟩
  have c_led_by_ : Cl q w K mg base 5 "led_by" s_led_by ["rooms", "turns"] (spF K sem_led_by) := ⟨f8, _, F8, ok_led_by B Dc c_bare_ c_breathed_ F8, m8, b8⟩
  have c_name_of_ : Cl q w K mg base 2 "name_of" s_name_of ["rooms", "standing"] (spF K sem_name_of) := ⟨f9, _, F9, ok_name_of B Dc c_bare_ c_left_way_ F9, m9, b9⟩
  have c_with_turn_ : Cl q w K mg base 6 "with_turn" s_with_turn ["rooms", "turns", "many"] (spF K sem_with_turn) := ⟨f10, _, F10, ok_with_turn B Dc c_led_by_ c_name_of_ F10, m10, b10⟩
  have c_fewest_left_ : Cl q w K mg base 2 "fewest_left" s_fewest_left ["rooms", "one", "other"] (spF K sem_fewest_left) := ⟨f11, _, F11, ok_fewest_left B Dc c_left_way_ F11, m11, b11⟩
  have c_fewest_right_ : Cl q w K mg base 3 "fewest_right" s_fewest_right ["rooms", "one", "other"] (spF K sem_fewest_right) := ⟨f12, _, F12, ok_fewest_right B Dc c_turned_ c_fewest_left_ F12, m12, b12⟩
  have c_by_gap_ : Cl q w K mg base 4 "by_gap" s_by_gap ["rooms", "one", "other", "gap"] (spF K sem_by_gap) := ⟨f13, _, F13, ok_by_gap B Dc c_fewest_left_ c_fewest_right_ F13, m13, b13⟩
  have c_fewest_ : Cl q w K mg base 5 "fewest" s_fewest ["rooms", "one", "other"] (spF K sem_fewest) := ⟨f14, _, F14, ok_fewest B Dc c_size_of_ c_by_gap_ F14, m14, b14⟩
  have c_how_few_ : Cl q w K mg base 6 "how_few" s_how_few ["rooms", "one", "other"] (spF K sem_how_few) := ⟨f15, _, F15, ok_how_few B Dc c_size_of_ c_fewest_ F15, m15, b15⟩
  have c_L_take_ : Cl q w K mg base 1 "_law_take" s_L_take ["_law_box_here", "_law_below"] (spD K takeF) := ⟨f17, _, F17, fn_take (ok_take B F17), m17, b17⟩
  have c_L_lot_ : Cl q w K mg base 2 "_law_lot" s_L_lot ["_law_box_here", "_law_sizes"] (spD K sem_L_lot) := ⟨f18, _, F18, ok_L_lot B Dc c_L_take_ F18, m18, b18⟩
  have c_L_named_ : Cl q w K mg base 7 "_law_named" s_L_named ["_law_sizes", "_law_some", "_law_runs"] (spF K sem_L_named) := ⟨f19, _, F19, ok_L_named B Dc c_with_turn_ F19, m19, b19⟩
  have c_L_right_ : Cl q w K mg base 8 "_law_right" s_L_right ["_law_box_here"] (spD K sem_L_right) := ⟨f20, _, F20, ok_L_right B Dc c_bare_ c_size_of_ c_breathed_ c_led_by_ c_name_of_ c_fewest_left_ c_fewest_right_ c_fewest_ c_how_few_ c_L_take_ c_L_lot_ c_L_named_ F20, m20, b20⟩
  have C5 : Cw q w K mg base := ⟨⟨f16, _, F16, ok_box B F16, m16, b16⟩, ⟨f20, _, F20, fn_holds (ok_L_right B Dc c_bare_ c_size_of_ c_breathed_ c_led_by_ c_name_of_ c_fewest_left_ c_fewest_right_ c_fewest_ c_how_few_ c_L_take_ c_L_lot_ c_L_named_ F20) holds, m20, b20⟩⟩
  exact ok_law B C5 F21
end K98

open PySem PySem.W PyProof.Rows
set_option maxHeartbeats 0 in
theorem PySem.Challenge.cw_breathrows_k98_whole_from_name_to_name_holds : PySem.Challenge.rw_breathrows_k98_whole_from_name_to_name.Holds := by
  w_on
  o_law
  k_head
  (case hw => w_witness2)
  k_fill
  refine L2.walk_of (l := PySem.Challenge.rw_breathrows_k98_whole_from_name_to_name) (n := 63) (k := 9) (x := "_law_script") (CX := fun _ => L2.CX0) (sp := fun w => K98.spLaw _) rfl (by decide) rfl ⟨rfl, by decide, by decide⟩ (fun w h Y => PySem.W.kIn_of Y) ?F
    (fun _ _ a ns hl _ hS => ⟨a, ns, rfl, hS, hl, fun _ => rfl⟩) (fun _ _ _ _ _ h => h)
  case F =>
    intro w mg fa h KX G hmg
    refine' K98.all_mk KX G hmg ⟨?da0, ?dl0, ?dk0, ?dn00, ?dr00, ?dn01, ?dr01, ?dn02, ?dr02, ?dn03, ?dr03⟩ ⟨?da1, ?dl1, ?dk1, ?dn10, ?dr10, ?dn11, ?dr11, ?dn12, ?dr12, ?dn13, ?dr13⟩ ⟨?ta0, ?tl0, ?tz0, ?tv0⟩ ⟨?a0, ?l0, ?c0, ?k0⟩ ⟨?a1, ?l1, ?c1, ?k1⟩ ⟨?a2, ?l2, ?c2, ?k2⟩ ⟨?a3, ?l3, ?c3, ?k3⟩ ⟨?a4, ?l4, ?c4, ?k4⟩ ⟨?a5, ?l5, ?c5, ?k5⟩ ⟨?a6, ?l6, ?c6, ?k6⟩ ⟨?a7, ?l7, ?c7, ?k7⟩ ⟨?a8, ?l8, ?c8, ?k8⟩ ⟨?a9, ?l9, ?c9, ?k9⟩ ⟨?a10, ?l10, ?c10, ?k10⟩ ⟨?a11, ?l11, ?c11, ?k11⟩ ⟨?a12, ?l12, ?c12, ?k12⟩ ⟨?a13, ?l13, ?c13, ?k13⟩ ⟨?a14, ?l14, ?c14, ?k14⟩ ⟨?a15, ?l15, ?c15, ?k15⟩ ⟨?a16, ?l16, ?c16, ?k16⟩ ⟨?a17, ?l17, ?c17, ?k17⟩ ⟨?a18, ?l18, ?c18, ?k18⟩ ⟨?a19, ?l19, ?c19, ?k19⟩ ⟨?a20, ?l20, ?c20, ?k20⟩ ⟨?a21, ?l21, ?c21, ?k21⟩ ?z0 ?z1 ?z2 ?z3 ?z4 ?z5 ?z6 ?z7 ?z8 ?z9 ?z10 ?z11 ?z12 ?z13 ?z14 ?z15 ?z16 ?z17
    (case da0 => k_is)
    (case dl0 => k_is)
    (case dn00 => k_is)
    (case dr00 => first | exact ⟨_, rfl⟩ | rfl)
    (case dn01 => k_is)
    (case dr01 => first | exact ⟨_, rfl⟩ | rfl)
    (case dn02 => k_is)
    (case dr02 => first | exact ⟨_, rfl⟩ | rfl)
    (case dn03 => k_is)
    (case dr03 => first | exact ⟨_, rfl⟩ | rfl)
    (case dk0 => first | k_is | exact ⟨⟨_, _, rfl, rfl⟩, ⟨_, _, rfl, rfl⟩, ⟨_, _, rfl, rfl⟩, ⟨_, _, rfl, rfl⟩, trivial⟩)
    (case da1 => k_is)
    (case dl1 => k_is)
    (case dn10 => k_is)
    (case dr10 => first | exact ⟨_, rfl⟩ | rfl)
    (case dn11 => k_is)
    (case dr11 => first | exact ⟨_, rfl⟩ | rfl)
    (case dn12 => k_is)
    (case dr12 => first | exact ⟨_, rfl⟩ | rfl)
    (case dn13 => k_is)
    (case dr13 => first | exact ⟨_, rfl⟩ | rfl)
    (case dk1 => first | k_is | exact ⟨⟨_, _, rfl, rfl⟩, ⟨_, _, rfl, rfl⟩, ⟨_, _, rfl, rfl⟩, ⟨_, _, rfl, rfl⟩, trivial⟩)
    (case ta0 => k_is)
    (case tl0 => k_is)
    (case tz0 => decide)
    (case tv0 => repeat (first | exact .nil | refine .cons ⟨_, rfl⟩ ?_))
    (case a0 => k_is)
    (case l0 => k_is)
    (case c0 => k_is)
    (case k0 => k_is)
    (case a1 => k_is)
    (case l1 => k_is)
    (case c1 => k_is)
    (case k1 => k_is)
    (case a2 => k_is)
    (case l2 => k_is)
    (case c2 => k_is)
    (case k2 => k_is)
    (case a3 => k_is)
    (case l3 => k_is)
    (case c3 => k_is)
    (case k3 => k_is)
    (case a4 => k_is)
    (case l4 => k_is)
    (case c4 => k_is)
    (case k4 => k_is)
    (case a5 => k_is)
    (case l5 => k_is)
    (case c5 => k_is)
    (case k5 => k_is)
    (case a6 => k_is)
    (case l6 => k_is)
    (case c6 => k_is)
    (case k6 => k_is)
    (case a7 => k_is)
    (case l7 => k_is)
    (case c7 => k_is)
    (case k7 => k_is)
    (case a8 => k_is)
    (case l8 => k_is)
    (case c8 => k_is)
    (case k8 => k_is)
    (case a9 => k_is)
    (case l9 => k_is)
    (case c9 => k_is)
    (case k9 => k_is)
    (case a10 => k_is)
    (case l10 => k_is)
    (case c10 => k_is)
    (case k10 => k_is)
    (case a11 => k_is)
    (case l11 => k_is)
    (case c11 => k_is)
    (case k11 => k_is)
    (case a12 => k_is)
    (case l12 => k_is)
    (case c12 => k_is)
    (case k12 => k_is)
    (case a13 => k_is)
    (case l13 => k_is)
    (case c13 => k_is)
    (case k13 => k_is)
    (case a14 => k_is)
    (case l14 => k_is)
    (case c14 => k_is)
    (case k14 => k_is)
    (case a15 => k_is)
    (case l15 => k_is)
    (case c15 => k_is)
    (case k15 => k_is)
    (case a16 => k_is)
    (case l16 => k_is)
    (case c16 => k_is)
    (case k16 => k_is)
    (case a17 => k_is)
    (case l17 => k_is)
    (case c17 => k_is)
    (case k17 => k_is)
    (case a18 => k_is)
    (case l18 => k_is)
    (case c18 => k_is)
    (case k18 => k_is)
    (case a19 => k_is)
    (case l19 => k_is)
    (case c19 => k_is)
    (case k19 => k_is)
    (case a20 => k_is)
    (case l20 => k_is)
    (case c20 => k_is)
    (case k20 => k_is)
    (case a21 => k_is)
    (case l21 => k_is)
    (case c21 => k_is)
    (case k21 => k_is)
    (case z0 => k_is)
    (case z1 => k_is)
    (case z2 => k_is)
    (case z3 => k_is)
    (case z4 => k_is)
    (case z5 => k_is)
    (case z6 => k_is)
    (case z7 => k_is)
    (case z8 => k_is)
    (case z9 => k_is)
    (case z10 => k_is)
    (case z11 => k_is)
    (case z12 => k_is)
    (case z13 => k_is)
    (case z14 => k_is)
    (case z15 => k_is)
    (case z16 => k_is)
    (case z17 => k_is)

