import PyProof.Rows.All
import Wide.All
import OpenK.AllK
import Wide.FinOn
import HandS.ForMost
import HandS.IsInst
import HandS.Walk
import HandS.Wide
import HandS.WideBits
import HandS.Style
import HandS.Zip
import HandS.Flow
import HandS.TupMul
import HandS.Rev
import HandS.EndBits
import HandS.Defaults
import HandS.More
import KE.GoesZip
import KE.GoesMore
import KE.KTurns
import PyProof.SliceStr2
import HandS.Conv
import HandS.TupAny
import HandS.ForExc
import HandS.ExcIs
import HandS.ExcField
import HandS.ExcValue
import KE.KExcInit
import KE.KTryMore
import PySem.Challenge.RW_breathrows_k01_standings_numbered
set_option Elab.async false
set_option linter.all false
set_option maxRecDepth 100000
namespace DL
open PySem PySem.Spec PyProof.Rows L2
/-! ## what a slot or a value is known to be -/
inductive SD where
  | unk
  | dat (d : PyData)
  | ref (b : Addr)
abbrev SD.i (n : Int) : SD := .dat (.int n)
abbrev SD.b (c : Bool) : SD := .dat (.bool c)
/-- G: what is known and stays for ever; H: all that is tracked -/
structure Mv (M : Addr → Prop) (G H G1 H1 : Hp) : Prop where
  gr : ∀ a o, G a = some o → G1 a = some o
  sub : ∀ a o, G1 a = some o → H1 a = some o
  old : ∀ a o, H a = some o → G1 a = G a
  kp : ∀ a o, H a = some o → ¬ M a → H1 a = some o
  dom : ∀ a o, H a = some o → ∃ u, H1 a = some u
/-- what may change, and what holds of it, with fuel -/
structure MS where
  M : Addr → Prop
  inv : Nat → Hp → Prop
  dom : ∀ {r H a}, inv r H → M a → ∃ o, H a = some o
  fr : ∀ {r H H'}, inv r H → (∀ a o, M a → H a = some o → H' a = some o) → inv r H'
  dn : ∀ {r j H}, inv (r + j) H → inv r H
def pu : MS where
  M := fun _ => False
  inv := fun _ _ => True
  dom := fun _ h => h.elim
  fr := fun _ _ => trivial
  dn := fun _ => trivial
structure Wd (S : MS) (r : Nat) (G H : Hp) : Prop where
  sub : ∀ a o, G a = some o → H a = some o
  no : ∀ a, S.M a → G a = none
  inv : S.inv r H
section
variable {M : Addr → Prop} {G H G1 H1 G2 H2 : Hp} {S : MS} {r : Nat}
theorem Mv.refl (h : ∀ a o, G a = some o → H a = some o) : Mv M G H G H := ⟨fun _ _ e => e, h, fun _ _ _ => rfl, fun _ _ e _ => e, fun _ o e => ⟨o, e⟩⟩
theorem Mv.trans (x : Mv M G H G1 H1) (y : Mv M G1 H1 G2 H2) : Mv M G H G2 H2 where
  gr := fun a o e => y.gr a o (x.gr a o e)
  sub := y.sub
  old := fun a o e => by
    obtain ⟨u, eu⟩ := x.dom a o e
    rw [y.old a u eu, x.old a o e]
  kp := fun a o e n => y.kp a o (x.kp a o e n) n
  dom := fun a o e => by
    obtain ⟨u, eu⟩ := x.dom a o e
    exact y.dom a u eu
theorem Mv.weak {M' : Addr → Prop} (x : Mv M G H G1 H1) (h : ∀ a, M a → M' a) : Mv M' G H G1 H1 := ⟨x.gr, x.sub, x.old, fun a o e n => x.kp a o e fun z => n (h a z), x.dom⟩
/-- a new thing, known from now on -/
theorem Mv.new {p : Addr} {o : HO} (h : ∀ a o, G a = some o → H a = some o) (np : H p = none) : Mv M G H (upd G p o) (upd H p o) where
  gr := fun a u e => by
    rw [upd_ne (ne_of_none (h a u e) np)]
    exact e
  sub := fun a u e => by
    by_cases ea : a = p
    · subst ea
      rw [upd_same] at e ⊢
      exact e
    · rw [upd_ne ea] at e ⊢
      exact h a u e
  old := fun a u e => upd_ne (ne_of_none e np)
  kp := fun a u e _ => by
    rw [upd_ne (ne_of_none e np)]
    exact e
  dom := fun a u e => ⟨u, by
    rw [upd_ne (ne_of_none e np)]
    exact e⟩
theorem Wd.refl (x : Wd S r G H) : Mv S.M G H G H := Mv.refl x.sub
theorem Wd.new {p : Addr} {o : HO} (x : Wd S r G H) (np : H p = none) : Wd S r (upd G p o) (upd H p o) where
  sub := (Mv.new (M := S.M) (o := o) x.sub np).sub
  no := fun a m => by
    obtain ⟨u, e⟩ := S.dom x.inv m
    rw [upd_ne (ne_of_none e np)]
    exact x.no a m
  inv := S.fr x.inv fun a u _ e => by
    rw [upd_ne (ne_of_none e np)]
    exact e
theorem Wd.dn {j : Nat} (x : Wd S (r + j) G H) : Wd S r G H := ⟨x.sub, x.no, S.dn x.inv⟩
theorem Wd.eq {r' : Nat} (x : Wd S r G H) (e : r = r') : Wd S r' G H := e ▸ x
/-- behind what changes nothing that was tracked -/
theorem Wd.pure (x : Wd S r G H) (m : Mv (fun _ => False) G H G1 H1) : Wd S r G1 H1 where
  sub := m.sub
  no := fun a ha => by
    obtain ⟨u, e⟩ := S.dom x.inv ha
    rw [m.old a u e]
    exact x.no a ha
  inv := S.fr x.inv fun a o _ e => m.kp a o e fun z => z
end
/-! data that stands in G -/
mutual
inductive DD (K : PySem.W.Frag) (G : Hp) : V → PyData → Prop
  | non : DD K G .non .none
  | bl (c : Bool) : DD K G (.bl c) (.bool c)
  | int (i : Int) : DD K G (.int i) (.int i)
  | str (x : Str) : DD K G (.str x) (.str x)
  | lst {a : Addr} {xs : List V} {ds : List PyData} (h : G a = some (.lst xs)) (t : DDs K G xs ds) : DD K G (.ref a) (.list ds)
  | tup {a : Addr} {xs : List V} {ds : List PyData} (h : G a = some (.tup xs)) (t : DDs K G xs ds) : DD K G (.ref a) (.tuple ds)
inductive DDs (K : PySem.W.Frag) (G : Hp) : List V → List PyData → Prop
  | nil : DDs K G [] []
  | cons {v : V} {d : PyData} {vs : List V} {ds : List PyData} (h : DD K G v d) (t : DDs K G vs ds) : DDs K G (v :: vs) (d :: ds)
end
section
variable {K : PySem.W.Frag} {G G1 H : Hp}
mutual
theorem DD.mono (h : ∀ a o, G a = some o → G1 a = some o) : ∀ {d : PyData} {v : V}, DD K G v d → DD K G1 v d
  | _, _, .non => .non
  | _, _, .bl b => .bl b
  | _, _, .int i => .int i
  | _, _, .str x => .str x
  | _, _, .lst s a => .lst (h _ _ s) (DDs.mono h a)
  | _, _, .tup s a => .tup (h _ _ s) (DDs.mono h a)
theorem DDs.mono (h : ∀ a o, G a = some o → G1 a = some o) : ∀ {ds : List PyData} {vs : List V}, DDs K G vs ds → DDs K G1 vs ds
  | _, _, .nil => .nil
  | _, _, .cons d a => .cons (DD.mono h d) (DDs.mono h a)
end
mutual
theorem DD.dp : ∀ {d : PyData} {v : V}, DD K G v d → Dp K G v d
  | _, _, .non => .non
  | _, _, .bl b => .bl b
  | _, _, .int i => .int i
  | _, _, .str x => .str x
  | _, _, .lst s a => .lst (.inl (.inl s)) (DDs.dp a)
  | _, _, .tup s a => .tup (.inl (.inl s)) (DDs.dp a)
theorem DDs.dp : ∀ {ds : List PyData} {vs : List V}, DDs K G vs ds → DpAll K G vs ds
  | _, _, .nil => .nil
  | _, _, .cons d a => .cons (DD.dp d) (DDs.dp a)
end
theorem DDs.len : ∀ {ds : List PyData} {vs : List V}, DDs K G vs ds → vs.length = ds.length
  | _, _, .nil => rfl
  | _, _, .cons _ a => congrArg Nat.succ (DDs.len a)
theorem DDs.get : ∀ {ds : List PyData} {vs : List V} {i : Nat} {v : V}, DDs K G vs ds → vs[i]? = some v → ∃ d, ds[i]? = some d ∧ DD K G v d
  | _, _, _, _, .nil, e => by simp at e
  | _, _, 0, _, .cons h _, e => by
    simp at e
    subst e
    exact ⟨_, rfl, h⟩
  | _, _, i + 1, v, .cons _ t, e => by
    obtain ⟨d, h1, h2⟩ := DDs.get (i := i) (v := v) t (by simpa using e)
    exact ⟨d, by simpa using h1, h2⟩
theorem DDs.got : ∀ {ds : List PyData} {vs : List V} {i : Nat} {d : PyData}, DDs K G vs ds → ds[i]? = some d → ∃ v, vs[i]? = some v ∧ DD K G v d
  | _, _, _, _, .nil, e => by simp at e
  | _, _, 0, _, .cons h _, e => by
    simp at e
    subst e
    exact ⟨_, rfl, h⟩
  | _, _, i + 1, d, .cons _ t, e => by
    obtain ⟨v, h1, h2⟩ := DDs.got (i := i) (d := d) t (by simpa using e)
    exact ⟨v, by simpa using h1, h2⟩
theorem DDs.append : ∀ {ds es : List PyData} {vs us : List V}, DDs K G vs ds → DDs K G us es → DDs K G (vs ++ us) (ds ++ es)
  | _, _, _, _, .nil, s => s
  | _, _, _, _, .cons r t, s => .cons r (DDs.append t s)
theorem DDs.snoc {ds : List PyData} {vs : List V} {v : V} {d : PyData} (a : DDs K G vs ds) (b : DD K G v d) : DDs K G (vs ++ [v]) (ds ++ [d]) := a.append (.cons b .nil)
theorem DDs.reverse : ∀ {ds : List PyData} {vs : List V}, DDs K G vs ds → DDs K G vs.reverse ds.reverse
  | _, _, .nil => .nil
  | _, _, .cons r t => by
    rw [List.reverse_cons, List.reverse_cons]
    exact (DDs.reverse t).snoc r
theorem DDs.ints : ∀ {ns : List Int} {vs : List V}, DDs K G vs (ns.map .int) → vs = ns.map V.int
  | [], _, .nil => rfl
  | n :: ns, _, .cons h t => by
    cases h
    rw [DDs.ints t]
    rfl
theorem DDs.ofInts : ∀ (ns : List Int), DDs K G (ns.map V.int) (ns.map .int)
  | [] => .nil
  | n :: ns => .cons (.int n) (DDs.ofInts ns)
theorem DDs.bls : ∀ {ns : List Bool} {vs : List V}, DDs K G vs (ns.map .bool) → vs = ns.map V.bl
  | [], _, .nil => rfl
  | n :: ns, _, .cons h t => by
    cases h
    rw [DDs.bls t]
    rfl
theorem DDs.take : ∀ {ds : List PyData} {vs : List V} (n : Nat), DDs K G vs ds → DDs K G (vs.take n) (ds.take n)
  | _, _, 0, _ => .nil
  | _, _, _ + 1, .nil => .nil
  | _, _, n + 1, .cons r t => .cons r (DDs.take n t)
theorem DDs.drop : ∀ {ds : List PyData} {vs : List V} (n : Nat), DDs K G vs ds → DDs K G (vs.drop n) (ds.drop n)
  | _, _, 0, r => r
  | _, _, _ + 1, .nil => .nil
  | _, _, n + 1, .cons _ t => DDs.drop n t
end
def VD (K : PySem.W.Frag) (G : Hp) (v : V) : SD → Prop
  | .unk => True
  | .dat d => DD K G v d
  | .ref b => v = .ref b
section
variable {K : PySem.W.Frag} {G G1 H : Hp} {v : V} {s : SD}
theorem VD.mono (h : ∀ a o, G a = some o → G1 a = some o) (q : VD K G v s) : VD K G1 v s := by
  cases s with
  | unk => trivial
  | dat d => exact DD.mono h (show DD K G v d from q)
  | ref b => exact q
end
/-- slots and what is known of them -/
def SlD (K : PySem.W.Frag) (G : Hp) (σ : L2.St) (δ : List SD) : Prop := σ.length = δ.length ∧ ∀ (i : Nat) (s : SD), δ[i]? = some s → s = .unk ∨ ∃ v, σ[i]? = some (some v) ∧ VD K G v s
section
variable {K : PySem.W.Frag} {G G1 H : Hp} {v : V} {s : SD} {σ : L2.St} {δ : List SD}
theorem SlD.mono (h : ∀ a o, G a = some o → G1 a = some o) (q : SlD K G σ δ) : SlD K G1 σ δ := ⟨q.1, fun i s e => (q.2 i s e).imp (fun z => z) fun ⟨v, a, b⟩ => ⟨v, a, b.mono h⟩⟩
theorem SlD.set (q : SlD K G σ δ) (hv : VD K G v s) (i : Nat) : SlD K G (σ.set i (some v)) (δ.set i s) := by
  refine ⟨by rw [List.length_set, List.length_set]; exact q.1, fun j t e => ?_⟩
  by_cases hj : i = j
  · subst hj
    by_cases hi : i < δ.length
    · rw [List.getElem?_set_self hi] at e
      cases e
      exact .inr ⟨v, List.getElem?_set_self (by rw [q.1]; exact hi), hv⟩
    · rw [List.getElem?_eq_none (by rw [List.length_set]; omega)] at e
      cases e
  · rw [List.getElem?_set_ne hj] at e
    rcases q.2 j t e with z | ⟨w, a, b⟩
    · exact .inl z
    · exact .inr ⟨w, by rw [List.getElem?_set_ne hj]; exact a, b⟩
theorem SlD.none (q : SlD K G σ δ) (i : Nat) : SlD K G (σ.set i none) (δ.set i .unk) := by
  refine ⟨by rw [List.length_set, List.length_set]; exact q.1, fun j t e => ?_⟩
  by_cases hj : i = j
  · subst hj
    by_cases hi : i < δ.length
    · rw [List.getElem?_set_self hi] at e
      cases e
      exact .inl rfl
    · rw [List.getElem?_eq_none (by rw [List.length_set]; omega)] at e
      cases e
  · rw [List.getElem?_set_ne hj] at e
    rcases q.2 j t e with z | ⟨w, a, b⟩
    · exact .inl z
    · exact .inr ⟨w, by rw [List.getElem?_set_ne hj]; exact a, b⟩
def wipeD (δ : List SD) : List Nat → List SD
  | [] => δ
  | v :: vs => (wipeD δ vs).set v .unk
theorem SlD.wipe (q : SlD K G σ δ) : ∀ vs : List Nat, SlD K G (wipe σ vs) (wipeD δ vs)
  | [] => q
  | v :: vs => (SlD.wipe q vs).none v
end
/-! ## judgements -/
def Ev (K : PySem.W.Frag) (S : MS) (te : TE) (δ : List SD) (k : Nat) (Φ : SD → Prop) : Prop :=
  ∀ r σ G H, SlD K G σ δ → Wd S (r + k) G H → ∀ Q : VK, (∀ v s G2 H2, Mv S.M G H G2 H2 → Wd S r G2 H2 → VD K G2 v s → Φ s → Q v H2) → te σ H Q
def EvT (K : PySem.W.Frag) (S : MS) (tt : TT) (δ : List SD) (k : Nat) (Φ : Bool → Prop) : Prop :=
  ∀ r σ G H, SlD K G σ δ → Wd S (r + k) G H → ∀ Q : Bool → Hp → Prop, (∀ c G2 H2, Mv S.M G H G2 H2 → Wd S r G2 H2 → Φ c → Q c H2) → tt σ H Q
inductive VDs (K : PySem.W.Frag) (G : Hp) : List V → List SD → Prop
  | nil : VDs K G [] []
  | cons {v : V} {s : SD} {vs : List V} {ss : List SD} : VD K G v s → VDs K G vs ss → VDs K G (v :: vs) (s :: ss)
theorem VDs.mono {K : PySem.W.Frag} {G G1 : Hp} (h : ∀ a o, G a = some o → G1 a = some o) : ∀ {vs : List V} {ss : List SD}, VDs K G vs ss → VDs K G1 vs ss
  | _, _, .nil => .nil
  | _, _, .cons a b => .cons (a.mono h) (b.mono h)
def EvA (K : PySem.W.Frag) (S : MS) (ta : TA) (δ : List SD) (k : Nat) (Φ : List SD → Prop) : Prop :=
  ∀ r σ G H, SlD K G σ δ → Wd S (r + k) G H → ∀ Q : List V → Hp → Prop, (∀ vs ss G2 H2, Mv S.M G H G2 H2 → Wd S r G2 H2 → VDs K G2 vs ss → Φ ss → Q vs H2) → ta σ H Q
abbrev Dt (K : PySem.W.Frag) (S : MS) (te : TE) (δ : List SD) (s : SD) : Prop := Ev K S te δ 0 (fun x => x = s)
structure Out where
  nx : List SD → Prop := fun _ => False
  rt : SD → Prop := fun _ => False
  bk : List SD → Prop := fun _ => False
  ct : List SD → Prop := fun _ => False
def EvS (K : PySem.W.Frag) (S : MS) (t : TS) (δ : List SD) (k : Nat) (O : Out) : Prop :=
  ∀ r σ G H, SlD K G σ δ → Wd S (r + k) G H → ∀ D : Ends,
    (∀ σ' δ' G2 H2, Mv S.M G H G2 H2 → Wd S r G2 H2 → SlD K G2 σ' δ' → O.nx δ' → D.nx σ' H2) →
    (∀ v s G2 H2, Mv S.M G H G2 H2 → Wd S r G2 H2 → VD K G2 v s → O.rt s → D.rt v H2) →
    (∀ σ' δ' G2 H2, Mv S.M G H G2 H2 → Wd S r G2 H2 → SlD K G2 σ' δ' → O.bk δ' → D.bk σ' H2) →
    (∀ σ' δ' G2 H2, Mv S.M G H G2 H2 → Wd S r G2 H2 → SlD K G2 σ' δ' → O.ct δ' → D.ct σ' H2) → t D σ H
section
variable {K : PySem.W.Frag} {S : MS} {te ta tb tc : TE} {tt tu : TT} {δ : List SD} {k k' j : Nat} {Φ Ψ : SD → Prop} {s s' : SD}
theorem Ev.mono (h : Ev K S te δ k Φ) (i : ∀ s, Φ s → Ψ s) : Ev K S te δ k Ψ := fun r σ G H q w Q hQ => h r σ G H q w Q fun v s G2 H2 m w2 a b => hQ v s G2 H2 m w2 a (i s b)
theorem Ev.up (h : Ev K S te δ k Φ) (hk : k ≤ k') : Ev K S te δ k' Φ := fun r σ G H q w Q hQ => h r σ G H q (Wd.dn (j := k' - k) (w.eq (by omega))) Q hQ
theorem EvT.mono {Φ Ψ : Bool → Prop} (h : EvT K S tt δ k Φ) (i : ∀ s, Φ s → Ψ s) : EvT K S tt δ k Ψ := fun r σ G H q w Q hQ => h r σ G H q w Q fun c G2 H2 m w2 b => hQ c G2 H2 m w2 (i c b)
theorem EvT.up {Φ : Bool → Prop} (h : EvT K S tt δ k Φ) (hk : k ≤ k') : EvT K S tt δ k' Φ := fun r σ G H q w Q hQ => h r σ G H q (Wd.dn (j := k' - k) (w.eq (by omega))) Q hQ
theorem EvS.mono {t : TS} {O O' : Out} (h : EvS K S t δ k O) (h1 : ∀ x, O.nx x → O'.nx x) (h2 : ∀ x, O.rt x → O'.rt x) (h3 : ∀ x, O.bk x → O'.bk x) (h4 : ∀ x, O.ct x → O'.ct x) : EvS K S t δ k O' :=
  fun r σ G H q w D a b c d => h r σ G H q w D (fun x y z u m w2 s o => a x y z u m w2 s (h1 _ o)) (fun x y z u m w2 s o => b x y z u m w2 s (h2 _ o)) (fun x y z u m w2 s o => c x y z u m w2 s (h3 _ o)) (fun x y z u m w2 s o => d x y z u m w2 s (h4 _ o))
theorem EvS.up {t : TS} {O : Out} (h : EvS K S t δ k O) (hk : k ≤ k') : EvS K S t δ k' O := fun r σ G H q w D => h r σ G H q (Wd.dn (j := k' - k) (w.eq (by omega))) D
/-! ### values -/
theorem e_var {i : Nat} (h : δ[i]? = some s) (hs : s ≠ .unk) : Dt K S (tVar i) δ s := fun r σ G H q w Q hQ => by
  rcases q.2 i s h with z | ⟨v, e, hv⟩
  · exact absurd z hs
  · exact ⟨v, e, hQ v s G H w.refl w hv rfl⟩
theorem e_vd {i : Nat} {d : PyData} (h : δ[i]? = some (.dat d)) : Dt K S (tVar i) δ (.dat d) := e_var h (fun z => nomatch z)
theorem e_vr {i : Nat} {b : Addr} (h : δ[i]? = some (.ref b)) : Dt K S (tVar i) δ (.ref b) := e_var h (fun z => nomatch z)
theorem e_c {v : V} {d : PyData} (h : ∀ G, DD K G v d) : Dt K S (tC v) δ (.dat d) := fun r σ G H q w Q hQ => hQ v (.dat d) G H w.refl w (h G) rfl
theorem e_int {n : Int} : Dt K S (tC (.int n)) δ (.dat (.int n)) := e_c fun _ => .int n
theorem e_str {x : Str} : Dt K S (tC (.str x)) δ (.dat (.str x)) := e_c fun _ => .str x
theorem e_bl {c : Bool} : Dt K S (tC (.bl c)) δ (.dat (.bool c)) := e_c fun _ => .bl c
theorem e_non : Dt K S (tC .non) δ (.dat .none) := e_c fun _ => .non
/-! ### operations on values -/
def RV (K : PySem.W.Frag) (r : R2) (s s' : SD) (Ψ : SD → Prop) : Prop := ∀ x y G H, VD K G x s → VD K G y s' → (∀ a o, G a = some o → H a = some o) → ∀ Q : VK, (∀ v z G2 H2, Mv (fun _ => False) G H G2 H2 → VD K G2 v z → Ψ z → Q v H2) → r x y H Q
theorem e_op {r : R2} {Φ' : SD → SD → Prop} (ha : Ev K S ta δ k Φ) (hb : ∀ s, Φ s → Ev K S tb δ k' (Φ' s)) (hr : ∀ s s', Φ s → Φ' s s' → RV K r s s' Ψ) : Ev K S (tOp r ta tb) δ (k + k') Ψ :=
  fun r σ G H q w Q hQ => ha (r + k') σ G H q (w.eq (by omega)) _ fun v s G2 H2 m w2 hv hs =>
    hb s hs r σ G2 H2 (q.mono m.gr) w2 _ fun u s' G3 H3 m3 w3 hu hs' =>
      hr s s' hs hs' v u G3 H3 (hv.mono m3.gr) hu w3.sub Q fun y z G4 H4 m4 hy hz => hQ y z G4 H4 ((m.trans m3).trans (m4.weak fun _ f => f.elim)) (w3.pure m4) hy hz
theorem d_op {r : R2} (ha : Dt K S ta δ s) (hb : Dt K S tb δ s') (hr : RV K r s s' Ψ) : Ev K S (tOp r ta tb) δ 0 Ψ :=
  e_op (Φ' := fun _ x => x = s') (k' := 0) ha (fun _ _ => hb) fun x y hx hy => by
    subst hx hy
    exact hr
theorem rv_I0 {g : Int → Int → V} {i j : Int} {d : PyData} (h : ∀ G, DD K G (g i j) d) : RV K (rI0 g) (.dat (.int i)) (.dat (.int j)) (fun z => z = .dat d) := fun x y G H hx hy hs Q hQ => by
  cases hx
  cases hy
  exact ⟨i, j, rfl, rfl, hQ _ (.dat d) G H (Mv.refl hs) (h G) rfl⟩
theorem rv_I {C : Int → Int → Prop} {g : Int → Int → V} {i j : Int} {d : PyData} (hc : C i j) (h : ∀ G, DD K G (g i j) d) : RV K (rI C g) (.dat (.int i)) (.dat (.int j)) (fun z => z = .dat d) := fun x y G H hx hy hs Q hQ => by
  cases hx
  cases hy
  exact ⟨i, j, rfl, rfl, hc, hQ _ (.dat d) G H (Mv.refl hs) (h G) rfl⟩
/-! ### arguments, calls of built-ins -/
theorem a_nil : EvA K S tNil δ 0 (fun ss => ss = []) := fun r σ G H q w Q hQ => hQ [] [] G H w.refl w .nil rfl
theorem a_cons {tr : TA} {Φ' : SD → List SD → Prop} (ha : Ev K S ta δ k Φ) (hr : ∀ s, Φ s → EvA K S tr δ k' (Φ' s)) : EvA K S (tCons ta tr) δ (k + k') (fun ss => ∃ s l, ss = s :: l ∧ Φ s ∧ Φ' s l) :=
  fun r σ G H q w Q hQ => ha (r + k') σ G H q (w.eq (by omega)) _ fun v s G2 H2 m w2 hv hs =>
    hr s hs r σ G2 H2 (q.mono m.gr) w2 _ fun vs ss G3 H3 m3 w3 hvs hss => hQ _ (s :: ss) G3 H3 (m.trans m3) w3 (.cons (hv.mono m3.gr) hvs) ⟨s, ss, rfl, hs, hss⟩
theorem da_cons {tr : TA} {ss : List SD} (ha : Dt K S ta δ s) (hr : EvA K S tr δ 0 (fun l => l = ss)) : EvA K S (tCons ta tr) δ 0 (fun l => l = s :: ss) :=
  fun r σ G H q w Q hQ => a_cons (k' := 0) (Φ' := fun _ l => l = ss) ha (fun _ _ => hr) r σ G H q w Q fun vs l G2 H2 m w2 hv ⟨x, y, e, ex, ey⟩ => hQ vs l G2 H2 m w2 hv (by rw [e, ex, ey])
def RC (K : PySem.W.Frag) (r : List V → Hp → VK → Prop) (ss : List SD) (Ψ : SD → Prop) : Prop := ∀ vs G H, VDs K G vs ss → (∀ a o, G a = some o → H a = some o) → ∀ Q : VK, (∀ v z G2 H2, Mv (fun _ => False) G H G2 H2 → VD K G2 v z → Ψ z → Q v H2) → r vs H Q
theorem e_cb {r : List V → Hp → VK → Prop} {t : TA} {Φ : List SD → Prop} (ha : EvA K S t δ k Φ) (hr : ∀ ss, Φ ss → RC K r ss Ψ) : Ev K S (tCB r t) δ k Ψ :=
  fun r σ G H q w Q hQ => ha r σ G H q w _ fun vs ss G2 H2 m w2 hv hs => hr ss hs vs G2 H2 hv w2.sub Q fun y z G3 H3 m3 hy hz => hQ y z G3 H3 (m.trans (m3.weak fun _ f => f.elim)) (w2.pure m3) hy hz
theorem d_cb {r : List V → Hp → VK → Prop} {t : TA} {ss : List SD} (ha : EvA K S t δ 0 (fun l => l = ss)) (hr : RC K r ss Ψ) : Ev K S (tCB r t) δ 0 Ψ := e_cb ha fun l hl => by
  subst hl
  exact hr
/-! ### displays -/
def dats : List SD → List PyData → Prop
  | [], [] => True
  | .dat d :: r, e :: l => d = e ∧ dats r l
  | _, _ => False
theorem dats_dd {G : Hp} : ∀ {ss : List SD} {ds : List PyData} {vs : List V}, VDs K G vs ss → dats ss ds → DDs K G vs ds
  | _, [], _, .nil, _ => .nil
  | _, _ :: _, _, .nil, h => h.elim
  | .dat d :: r, e :: l, _, .cons a b, h => by
    obtain ⟨rfl, h⟩ := h
    exact .cons a (dats_dd b h)
  | .dat _ :: _, [], _, .cons _ _, h => h.elim
  | .unk :: _, [], _, .cons _ _, h => h.elim
  | .unk :: _, _ :: _, _, .cons _ _, h => h.elim
  | .ref _ :: _, [], _, .cons _ _, h => h.elim
  | .ref _ :: _, _ :: _, _, .cons _ _, h => h.elim
theorem e_lst {t : TA} {Φ : List SD → Prop} (ha : EvA K S t δ k Φ) (h : ∀ ss, Φ ss → ∃ ds, dats ss ds ∧ ds.length ≤ 100000 ∧ Ψ (.dat (.list ds))) : Ev K S (tLst t) δ k Ψ :=
  fun r σ G H q w Q hQ => ha r σ G H q w _ fun vs ss G2 H2 m w2 hv hs => by
    obtain ⟨ds, hd, hl, hy⟩ := h ss hs
    have dd := dats_dd hv hd
    exact ⟨Nat.le_trans (by rw [dd.len]; exact hl) (by decide), fun p np => hQ _ (.dat (.list ds)) _ _ (m.trans (Mv.new w2.sub np)) (w2.new np) (DD.lst upd_same (dd.mono (Mv.new (M := S.M) w2.sub np).gr)) hy⟩
theorem e_tup {t : TA} {Φ : List SD → Prop} (ha : EvA K S t δ k Φ) (h : ∀ ss, Φ ss → ∃ ds, dats ss ds ∧ ds.length ≤ 100000 ∧ Ψ (.dat (.tuple ds))) : Ev K S (tTup t) δ k Ψ :=
  fun r σ G H q w Q hQ => ha r σ G H q w _ fun vs ss G2 H2 m w2 hv hs => by
    obtain ⟨ds, hd, hl, hy⟩ := h ss hs
    have dd := dats_dd hv hd
    exact ⟨Nat.le_trans (by rw [dd.len]; exact hl) (by decide), fun p np => hQ _ (.dat (.tuple ds)) _ _ (m.trans (Mv.new w2.sub np)) (w2.new np) (DD.tup upd_same (dd.mono (Mv.new (M := S.M) w2.sub np).gr)) hy⟩
theorem d_lst {t : TA} {ds : List PyData} (ha : EvA K S t δ 0 (fun l => l = ds.map SD.dat)) (hl : ds.length ≤ 100000 := by simp) : Dt K S (tLst t) δ (.dat (.list ds)) := e_lst ha fun ss e => ⟨ds, by
  subst e
  clear ha hl
  induction ds with
  | nil => trivial
  | cons x l ih => exact ⟨rfl, ih⟩, hl, rfl⟩
theorem d_tup {t : TA} {ds : List PyData} (ha : EvA K S t δ 0 (fun l => l = ds.map SD.dat)) (hl : ds.length ≤ 100000 := by simp) : Dt K S (tTup t) δ (.dat (.tuple ds)) := e_tup ha fun ss e => ⟨ds, by
  subst e
  clear ha hl
  induction ds with
  | nil => trivial
  | cons x l ih => exact ⟨rfl, ih⟩, hl, rfl⟩
/-! ### tests -/
theorem t_test {c : Bool} (h : Dt K S te δ (.b c)) : EvT K S (tTest te) δ 0 (fun x => x = c) := fun r σ G H q w Q hQ => h r σ G H q w _ fun v s G2 H2 m w2 hv hs => by
  subst hs
  cases hv
  exact ⟨c, rfl, hQ c G2 H2 m w2 rfl⟩
theorem t_testE {Φ : Bool → Prop} (h : Ev K S te δ k (fun s => ∃ c, s = .b c ∧ Φ c)) : EvT K S (tTest te) δ k Φ := fun r σ G H q w Q hQ => h r σ G H q w _ fun v s G2 H2 m w2 hv hs => by
  obtain ⟨c, rfl, hc⟩ := hs
  cases hv
  exact ⟨c, rfl, hQ c G2 H2 m w2 hc⟩
theorem t_val {c : Bool} (h : Dt K S te δ (.b c)) : EvT K S (tB te) δ 0 (fun x => x = c) := fun r σ G H q w Q hQ => h r σ G H q w _ fun v s G2 H2 m w2 hv hs => by
  subst hs
  cases hv
  exact ⟨c, rfl, hQ c G2 H2 m w2 rfl⟩
theorem t_not {c : Bool} (h : EvT K S tt δ 0 (fun x => x = c)) : EvT K S (tNot tt) δ 0 (fun x => x = !c) := fun r σ G H q w Q hQ => h r σ G H q w _ fun d G2 H2 m w2 hs => hQ (!d) G2 H2 m w2 (by rw [hs])
theorem t_and {c d : Bool} (h1 : EvT K S tt δ 0 (fun x => x = c)) (h2 : c = true → EvT K S tu δ 0 (fun x => x = d)) : EvT K S (tAnd tt tu) δ 0 (fun x => x = (c && d)) :=
  fun r σ G H q w Q hQ => h1 r σ G H q w _ fun e G2 H2 m w2 hs => by
    subst hs
    cases e with
    | true => exact iteT (h2 rfl r σ G2 H2 (q.mono m.gr) w2 Q fun f G3 H3 m3 w3 hf => hQ f G3 H3 (m.trans m3) w3 hf)
    | false => exact iteF (hQ false G2 H2 m w2 rfl)
theorem t_or {c d : Bool} (h1 : EvT K S tt δ 0 (fun x => x = c)) (h2 : c = false → EvT K S tu δ 0 (fun x => x = d)) : EvT K S (tOr tt tu) δ 0 (fun x => x = (c || d)) :=
  fun r σ G H q w Q hQ => h1 r σ G H q w _ fun e G2 H2 m w2 hs => by
    subst hs
    cases e with
    | false => exact iteF (h2 rfl r σ G2 H2 (q.mono m.gr) w2 Q fun f G3 H3 m3 w3 hf => hQ f G3 H3 (m.trans m3) w3 hf)
    | true => exact iteT (hQ true G2 H2 m w2 rfl)
theorem e_andV {c d : Bool} (h1 : Dt K S ta δ (.b c)) (h2 : c = true → Dt K S tb δ (.b d)) : Dt K S (tAndV ta tb) δ (.b (c && d)) :=
  fun r σ G H q w Q hQ => h1 r σ G H q w _ fun v s G2 H2 m w2 hv hs => by
    subst hs
    cases hv
    refine ⟨c, rfl, ?_⟩
    cases c with
    | true => exact iteT (h2 rfl r σ G2 H2 (q.mono m.gr) w2 Q fun u f G3 H3 m3 w3 hu hf => hQ u f G3 H3 (m.trans m3) w3 hu hf)
    | false => exact iteF (hQ _ (.b false) G2 H2 m w2 (.bl false) rfl)
theorem e_orV {c d : Bool} (h1 : Dt K S ta δ (.b c)) (h2 : c = false → Dt K S tb δ (.b d)) : Dt K S (tOrV ta tb) δ (.b (c || d)) :=
  fun r σ G H q w Q hQ => h1 r σ G H q w _ fun v s G2 H2 m w2 hv hs => by
    subst hs
    cases hv
    refine ⟨c, rfl, ?_⟩
    cases c with
    | false => exact iteF (h2 rfl r σ G2 H2 (q.mono m.gr) w2 Q fun u f G3 H3 m3 w3 hu hf => hQ u f G3 H3 (m.trans m3) w3 hu hf)
    | true => exact iteT (hQ _ (.b true) G2 H2 m w2 (.bl true) rfl)
theorem e_notV {c : Bool} (h1 : Dt K S ta δ (.b c)) : Dt K S (tNotV ta) δ (.b (!c)) := fun r σ G H q w Q hQ => h1 r σ G H q w _ fun v s G2 H2 m w2 hv hs => by
  subst hs
  cases hv
  exact ⟨c, rfl, hQ _ (.b (!c)) G2 H2 m w2 (.bl _) rfl⟩
theorem e_if {c : Bool} (h : EvT K S tt δ 0 (fun x => x = c)) (h1 : c = true → Ev K S ta δ k Ψ) (h2 : c = false → Ev K S tb δ k Ψ) : Ev K S (tIf tt ta tb) δ k Ψ :=
  fun r σ G H q w Q hQ => h (r + k) σ G H q w _ fun e G2 H2 m w2 hs => by
    subst hs
    cases e with
    | true => exact iteT (h1 rfl r σ G2 H2 (q.mono m.gr) w2 Q fun u f G3 H3 m3 w3 hu hf => hQ u f G3 H3 (m.trans m3) w3 hu hf)
    | false => exact iteF (h2 rfl r σ G2 H2 (q.mono m.gr) w2 Q fun u f G3 H3 m3 w3 hu hf => hQ u f G3 H3 (m.trans m3) w3 hu hf)
/-! ### statements -/
variable {t u : TS} {O : Out}
theorem s_next (h : O.nx δ) : EvS K S tNext δ 0 O := fun r σ G H q w D a _ _ _ => a σ δ G H w.refl w q h
theorem s_ret (h : Ev K S te δ k O.rt) : EvS K S (tRet te) δ k O := fun r σ G H q w D _ b _ _ => h r σ G H q w _ fun v s G2 H2 m w2 hv hs => b v s G2 H2 m w2 hv hs
theorem s_seq {N : List SD → Prop} (h1 : EvS K S t δ k { O with nx := N }) (h2 : ∀ δ', N δ' → EvS K S u δ' k' O) : EvS K S (tSeq t u) δ (k + k') O :=
  fun r σ G H q w D a b c d => h1 (r + k') σ G H q (w.eq (by omega)) _
    (fun σ' δ' G2 H2 m w2 q2 n => h2 δ' n r σ' G2 H2 q2 w2 D (fun x y z f m3 => a x y z f (m.trans m3)) (fun x y z f m3 => b x y z f (m.trans m3)) (fun x y z f m3 => c x y z f (m.trans m3)) (fun x y z f m3 => d x y z f (m.trans m3)))
    (fun v s G2 H2 m w2 => b v s G2 H2 m (Wd.dn (j := k') w2)) (fun v s G2 H2 m w2 => c v s G2 H2 m (Wd.dn (j := k') w2)) (fun v s G2 H2 m w2 => d v s G2 H2 m (Wd.dn (j := k') w2))
theorem s_asg {i : Nat} (h : Ev K S te δ k Φ) (hn : ∀ s, Φ s → O.nx (δ.set i s)) : EvS K S (tAsg te (gName i)) δ k O :=
  fun r σ G H q w D a _ _ _ => h r σ G H q w _ fun v s G2 H2 m w2 hv hs => a _ (δ.set i s) G2 H2 m w2 ((q.mono m.gr).set hv i) (hn s hs)
/-- x = e; rest -/
theorem s_set {i : Nat} (h : Ev K S te δ k Φ) (hu : ∀ s, Φ s → EvS K S u (δ.set i s) k' O) : EvS K S (tSeq (tAsg te (gName i)) u) δ (k + k') O :=
  s_seq (N := fun δ' => ∃ s, Φ s ∧ δ' = δ.set i s) (s_asg h fun s hs => ⟨s, hs, rfl⟩) fun δ' ⟨s, hs, e⟩ => by
    subst e
    exact hu s hs
theorem sd_set {i : Nat} (h : Dt K S te δ s) (hu : EvS K S u (δ.set i s) k O) : EvS K S (tSeq (tAsg te (gName i)) u) δ k O := (s_set (k' := k) h fun z hz => by
  subst hz
  exact hu).up (by omega)
theorem s_if {c : Bool} (h : EvT K S tt δ 0 (fun x => x = c)) (h1 : c = true → EvS K S t δ k O) (h2 : c = false → EvS K S u δ k O) : EvS K S (tIfS tt t u) δ k O :=
  fun r σ G H q w D a b e f => h (r + k) σ G H q w _ fun x G2 H2 m w2 hs => by
    subst hs
    cases x with
    | true => exact iteT (h1 rfl r σ G2 H2 (q.mono m.gr) w2 D (fun x y z f m3 => a x y z f (m.trans m3)) (fun x y z f m3 => b x y z f (m.trans m3)) (fun x y z f m3 => e x y z f (m.trans m3)) (fun x y z g m3 => f x y z g (m.trans m3)))
    | false => exact iteF (h2 rfl r σ G2 H2 (q.mono m.gr) w2 D (fun x y z f m3 => a x y z f (m.trans m3)) (fun x y z f m3 => b x y z f (m.trans m3)) (fun x y z f m3 => e x y z f (m.trans m3)) (fun x y z g m3 => f x y z g (m.trans m3)))
theorem s_ifE {Φ : Bool → Prop} (h : EvT K S tt δ k Φ) (h1 : Φ true → EvS K S t δ k' O) (h2 : Φ false → EvS K S u δ k' O) : EvS K S (tIfS tt t u) δ (k + k') O :=
  fun r σ G H q w D a b e f => h (r + k') σ G H q (w.eq (by omega)) _ fun x G2 H2 m w2 hs => by
    cases x with
    | true => exact iteT (h1 hs r σ G2 H2 (q.mono m.gr) w2 D (fun x y z f m3 => a x y z f (m.trans m3)) (fun x y z f m3 => b x y z f (m.trans m3)) (fun x y z f m3 => e x y z f (m.trans m3)) (fun x y z g m3 => f x y z g (m.trans m3)))
    | false => exact iteF (h2 hs r σ G2 H2 (q.mono m.gr) w2 D (fun x y z f m3 => a x y z f (m.trans m3)) (fun x y z f m3 => b x y z f (m.trans m3)) (fun x y z f m3 => e x y z f (m.trans m3)) (fun x y z g m3 => f x y z g (m.trans m3)))
/-- an if without else, then the rest -/
theorem s_if0 {c : Bool} (h : EvT K S tt δ 0 (fun x => x = c)) (h1 : c = true → EvS K S (tSeq t u) δ k O) (h2 : c = false → EvS K S u δ k O) : EvS K S (tSeq (tIfS tt t tNext) u) δ k O :=
  fun r σ G H q w D a b e f => h (r + k) σ G H q w _ fun x G2 H2 m w2 hs => by
    subst hs
    cases x with
    | true => exact iteT (h1 rfl r σ G2 H2 (q.mono m.gr) w2 D (fun x y z f m3 => a x y z f (m.trans m3)) (fun x y z f m3 => b x y z f (m.trans m3)) (fun x y z f m3 => e x y z f (m.trans m3)) (fun x y z g m3 => f x y z g (m.trans m3)))
    | false => exact iteF (h2 rfl r σ G2 H2 (q.mono m.gr) w2 D (fun x y z f m3 => a x y z f (m.trans m3)) (fun x y z f m3 => b x y z f (m.trans m3)) (fun x y z f m3 => e x y z f (m.trans m3)) (fun x y z g m3 => f x y z g (m.trans m3)))
/-- a return ends what follows -/
theorem s_retSeq (h : Ev K S te δ k O.rt) : EvS K S (tSeq (tRet te) u) δ k O := fun r σ G H q w D _ b _ _ => h r σ G H q w _ fun v s G2 H2 m w2 hv hs => b v s G2 H2 m w2 hv hs
end
/-! ## what is walked -/
/-- the items that a walk yields, one by one -/
def EvI (K : PySem.W.Frag) (S : MS) (wi : TI) (δ : List SD) (k : Nat) (its : List PyData) : Prop :=
  ∀ r σ G H, SlD K G σ δ → Wd S (r + k) G H → ∀ R : It → Hp → Prop,
    (∀ J G2 H2, Mv S.M G H G2 H2 → Wd S r G2 H2 → (∃ (A : Hp → Prop) (Y : Nat → Hp → V → Hp → Prop), Walk J its.length A Y ∧ (∀ G3 H3, Mv S.M G2 H2 G3 H3 → A H3) ∧
      ∀ i d q G3 H3 x H4, its[i]? = some d → Mv S.M G2 H2 G3 H3 → Wd S q G3 H3 → Y i H3 x H4 → ∃ G4, Mv S.M G3 H3 G4 H4 ∧ Wd S q G4 H4 ∧ DD K G4 x d) → R J H2) → wi σ H R
section
variable {K : PySem.W.Frag} {S : MS} {te tl : TE} {δ : List SD} {k k' : Nat}
theorem i_list {ds : List PyData} (h : Dt K S tl δ (.dat (.list ds))) : EvI K S (iList K tl) δ 0 ds := fun r σ G H q w R hR => h r σ G H q w _ fun v s G2 H2 m w2 hv hs => by
  subst hs
  cases hv with
  | @lst a xs _ hx ht =>
    refine ⟨a, rfl, ⟨xs, .inl (.inl (w2.sub _ _ hx))⟩, hR _ G2 H2 m w2 ⟨fun H => SqL K H a xs, _, by rw [← ht.len]; exact walk_list (xs := xs), fun G3 H3 m3 => .inl (.inl (m3.sub _ _ (m3.gr _ _ hx))), fun i d q G3 H3 x H4 hd m3 w3 y => ?_⟩⟩
    obtain ⟨rfl, hy⟩ := y
    obtain ⟨d', h1, h2⟩ := ht.get hy
    cases h1.symm.trans hd
    exact ⟨G3, w3.refl, w3, h2.mono m3.gr⟩
theorem i_tup {ds : List PyData} (h : Dt K S tl δ (.dat (.tuple ds))) : EvI K S (iTup K tl) δ 0 ds := fun r σ G H q w R hR => h r σ G H q w _ fun v s G2 H2 m w2 hv hs => by
  subst hs
  cases hv with
  | @tup a xs _ hx ht =>
    refine ⟨a, rfl, ⟨xs, .inl (.inl (w2.sub _ _ hx))⟩, hR _ G2 H2 m w2 ⟨fun H => SqT K H a xs, _, by rw [← ht.len]; exact walk_tup (xs := xs), fun G3 H3 m3 => .inl (.inl (m3.sub _ _ (m3.gr _ _ hx))), fun i d q G3 H3 x H4 hd m3 w3 y => ?_⟩⟩
    obtain ⟨rfl, hy⟩ := y
    obtain ⟨d', h1, h2⟩ := ht.get hy
    cases h1.symm.trans hd
    exact ⟨G3, w3.refl, w3, h2.mono m3.gr⟩
def rangeD (lo : Int) (n : Nat) : List PyData := (List.range n).map fun (i : Nat) => PyData.int (lo + (i : Int))
theorem rangeD_len (lo : Int) (n : Nat) : (rangeD lo n).length = n := by simp [rangeD]
theorem rangeD_get {lo : Int} {n i : Nat} {d : PyData} (h : (rangeD lo n)[i]? = some d) : i < n ∧ d = .int (lo + (i : Int)) := by
  unfold rangeD at h
  rw [List.getElem?_map] at h
  by_cases hi : i < n
  · rw [List.getElem?_range hi] at h
    exact ⟨hi, (Option.some.inj h).symm⟩
  · rw [List.getElem?_eq_none (by simpa using hi)] at h
    cases h
theorem i_rngE {ta : TA} {n : Int} (h : EvA K S ta δ 0 (fun l => l = [.i n])) (h1 : n < 2 ^ 62) (h0 : -(2 ^ 62) ≤ n) : EvI K S (iRng1 ta) δ 0 (rangeD 0 n.toNat) := fun r σ G H q w R hR => h r σ G H q w _ fun vs ss G2 H2 m w2 hv hs => by
  subst hs
  cases hv with
  | cons a b =>
    cases b
    cases a
    refine ⟨n, rfl, h0, h1, hR _ G2 H2 m w2 ⟨_, _, by rw [rangeD_len]; exact walk_range, fun _ _ _ => trivial, fun i d q G3 H3 x H4 hd m3 w3 y => ?_⟩⟩
    obtain ⟨rfl, rfl⟩ := y
    obtain ⟨_, rfl⟩ := rangeD_get hd
    exact ⟨G3, w3.refl, w3, .int _⟩
theorem i_rng2 {ta : TA} {lo n : Int} (h : EvA K S ta δ 0 (fun l => l = [.i lo, .i n])) (h1 : -(2 ^ 62) ≤ lo ∧ lo < 2 ^ 62 ∧ -(2 ^ 62) ≤ n ∧ n < 2 ^ 62) : EvI K S (iRng2 ta) δ 0 (rangeD lo (n - lo).toNat) := fun r σ G H q w R hR => h r σ G H q w _ fun vs ss G2 H2 m w2 hv hs => by
  subst hs
  cases hv with
  | cons a b =>
    cases b with
    | cons a2 b =>
      cases b
      cases a
      cases a2
      refine ⟨lo, n, rfl, h1, hR _ G2 H2 m w2 ⟨_, _, by rw [rangeD_len]; exact walk_range, fun _ _ _ => trivial, fun i d q G3 H3 x H4 hd m3 w3 y => ?_⟩⟩
      obtain ⟨rfl, rfl⟩ := y
      obtain ⟨_, rfl⟩ := rangeD_get hd
      exact ⟨G3, w3.refl, w3, .int _⟩
/-! ## targets -/
def Tg (K : PySem.W.Frag) (g : TG) (d : PyData) (δ δ' : List SD) (vs : List Nat) : Prop :=
  ∀ x σ G H, SlD K G σ δ → DD K G x d → (∀ a o, G a = some o → H a = some o) → ∀ Q : L2.St → Hp → Prop, (∀ σ2, SlD K G σ2 δ' → wipe σ2 vs = wipe σ vs → Q σ2 H) → g x σ H Q
theorem wipe1 (σ : L2.St) (i : Nat) (o : Option V) : wipe (σ.set i o) [i] = wipe σ [i] := by
  unfold wipe
  unfold wipe
  rw [List.set_set]
theorem wipe2 (σ : L2.St) (i j : Nat) (o u : Option V) : wipe ((σ.set i o).set j u) [i, j] = wipe σ [i, j] := by
  unfold wipe
  unfold wipe
  unfold wipe
  rw [List.set_set]
  by_cases h : i = j
  · subst h
    rw [List.set_set, List.set_set, List.set_set]
  · rw [List.set_comm _ _ h, List.set_set, List.set_comm _ _ (Ne.symm h)]
theorem tg_name {i : Nat} {d : PyData} : Tg K (gName i) d δ (δ.set i (.dat d)) [i] := fun x σ G H q hx hs Q hQ => hQ _ (q.set (s := .dat d) hx i) (wipe1 σ i _)
theorem tg_pair {i j : Nat} {d e : PyData} : Tg K (gTup K 2 (gCons (gName i) (gCons (gName j) gNil))) (.tuple [d, e]) δ ((δ.set i (.dat d)).set j (.dat e)) [i, j] := fun x σ G H q hx hs Q hQ => by
  cases hx with
  | @tup a xs _ h t =>
    cases t with
    | cons t1 t =>
      cases t with
      | cons t2 t =>
        cases t
        exact ⟨_, _, rfl, .inl (.inl (hs _ _ h)), rfl, _, _, rfl, _, _, rfl, rfl, hQ _ ((q.set (s := .dat d) t1 i).set (s := .dat e) t2 j) (wipe2 σ i j _ _)⟩
theorem Tg.wiped {g : TG} {d : PyData} {δ δ' : List SD} {vs : List Nat} (h : Tg K g d (wipeD δ vs) δ' vs) {x : V} {σ : L2.St} {G H : Hp} (q : SlD K G σ δ) (hx : DD K G x d) (hs : ∀ a o, G a = some o → H a = some o) {Q : L2.St → Hp → Prop}
    (ww : wipe (wipe σ vs) vs = wipe σ vs) (hQ : ∀ σ2, SlD K G σ2 δ' → wipe σ2 vs = wipe σ vs → Q σ2 H) : g x (wipe σ vs) H Q :=
  h x (wipe σ vs) G H (q.wipe vs) hx hs Q fun σ2 a b => hQ σ2 a (b.trans ww)
theorem wipe_get (σ : L2.St) : ∀ (vs : List Nat) (i : Nat), i < σ.length → i ∈ vs → (wipe σ vs)[i]? = some none
  | [], _, _, h => by cases h
  | v :: vs, i, hi, h => by
    unfold wipe
    by_cases e : v = i
    · subst e
      exact List.getElem?_set_self (by rw [wipe_length]; exact hi)
    · rw [List.getElem?_set_ne e]
      rcases List.mem_cons.mp h with z | z
      · exact absurd z.symm e
      · exact wipe_get σ vs i hi z
theorem wipe_idem (σ : L2.St) (vs : List Nat) : wipe (wipe σ vs) vs = wipe σ vs := by
  refine List.ext_getElem? fun i => ?_
  by_cases hi : i < σ.length
  · by_cases h : i ∈ vs
    · rw [wipe_get (wipe σ vs) vs i (by rw [wipe_length]; exact hi) h, wipe_get σ vs i hi h]
    · rw [wipe_out h]
  · rw [List.getElem?_eq_none (by rw [wipe_length, wipe_length]; omega), List.getElem?_eq_none (by rw [wipe_length]; omega)]
/-! ## list comprehensions -/
theorem Mv.loc {M : Addr → Prop} {G H G1 H1 : Hp} {D : Addr} {o : HO} (m : Mv M G H G1 H1) (n0 : H D = none) (n1 : G1 D = none) : Mv M G H G1 (upd H1 D o) where
  gr := m.gr
  sub := fun a u e => by
    by_cases ea : a = D
    · rw [ea, n1] at e
      cases e
    · rw [upd_ne ea]
      exact m.sub a u e
  old := m.old
  kp := fun a u e n => by
    rw [upd_ne (ne_of_none e n0)]
    exact m.kp a u e n
  dom := fun a u e => by
    rw [upd_ne (ne_of_none e n0)]
    exact m.dom a u e
theorem Wd.loc {r : Nat} {G H : Hp} {D : Addr} {o : HO} (w : Wd S r G H) (n1 : G D = none) (nm : ¬ S.M D) : Wd S r G (upd H D o) where
  sub := fun a u e => by
    by_cases ea : a = D
    · rw [ea, n1] at e
      cases e
    · rw [upd_ne ea]
      exact w.sub a u e
  no := w.no
  inv := S.fr w.inv fun a u ma e => by
    rw [upd_ne (show a ≠ D from fun z => nm (z ▸ ma))]
    exact e
/-- what stands at D is known from now on -/
theorem Mv.know {M : Addr → Prop} {G H G1 H1 : Hp} {D : Addr} {o : HO} (m : Mv M G H G1 H1) (n0 : H D = none) (n1 : G1 D = none) (h : H1 D = some o) : Mv M G H (upd G1 D o) H1 where
  gr := fun a u e => by
    have e1 := m.gr a u e
    rw [upd_ne (ne_of_none e1 n1)]
    exact e1
  sub := fun a u e => by
    by_cases ea : a = D
    · rw [ea, upd_same] at e
      rw [ea, ← e]
      exact h
    · rw [upd_ne ea] at e
      exact m.sub a u e
  old := fun a u e => by
    rw [upd_ne (ne_of_none e n0)]
    exact m.old a u e
  kp := m.kp
  dom := m.dom
theorem Wd.know {r : Nat} {G H : Hp} {D : Addr} {o : HO} (w : Wd S r G H) (h : H D = some o) (nm : ¬ S.M D) : Wd S r (upd G D o) H where
  sub := fun a u e => by
    by_cases ea : a = D
    · rw [ea, upd_same] at e
      rw [ea, ← e]
      exact h
    · rw [upd_ne ea] at e
      exact w.sub a u e
  no := fun a ma => by
    rw [upd_ne (show a ≠ D from fun z => nm (z ▸ ma))]
    exact w.no a ma
  inv := w.inv
theorem e_lc {wi : TI} {g : TG} {vs : List Nat} {its : List PyData} {δg : PyData → List SD} {Ψ : Nat → PyData → Prop} (hi : EvI K S wi δ k its) (hg : ∀ (j : Nat) (d : PyData), its[j]? = some d → Tg K g d (wipeD δ vs) (δg d) vs)
    (he : ∀ (j : Nat) (d : PyData), its[j]? = some d → Ev K S te (δg d) k' (fun s => ∃ e, s = .dat e ∧ Ψ j e)) (hn : its.length ≤ 100000) :
    Ev K S (tLc wi g tYes te vs) δ (k + k' * its.length) (fun s => ∃ ds, s = .dat (.list ds) ∧ ds.length = its.length ∧ ∀ (j : Nat) (d : PyData), ds[j]? = some d → Ψ j d) :=
  fun r σ G H q w Q hQ => hi (r + k' * its.length) σ G H q (w.eq (by omega)) _ fun J G2 H2 m w2 ⟨A, Y, wk, hA, hY⟩ D nD => by
    have nG : G2 D = none := by
      cases e : G2 D with
      | none => rfl
      | some o =>
        rw [w2.sub D o e] at nD
        cases nD
    have nM : ¬ S.M D := fun z => by
      obtain ⟨o, e⟩ := S.dom w2.inv z
      rw [e] at nD
      cases nD
    refine lc_it wk (fun i H3 => ∃ G3 acc ds, Mv S.M G2 H2 G3 H3 ∧ G3 D = none ∧ H3 D = some (.lst acc) ∧ Wd S (r + k' * (its.length - i)) G3 H3 ∧ DDs K G3 acc ds ∧ ds.length = i ∧ ∀ (j : Nat) (d : PyData), ds[j]? = some d → Ψ j d)
      ⟨G2, [], [], w2.refl.loc nD nG, nG, upd_same, w2.loc nG nM, .nil, rfl, fun j d e => by simp at e⟩ (fun i H3 _ ⟨G3, acc, ds, m3, _⟩ => hA G3 H3 m3) ?_ ?_
    · rintro i x H3 H4 hi ⟨G3, acc, ds, m3, n3, h3, w3, dd, el, hp⟩ y
      have hd : its[i]? = some its[i] := List.getElem?_eq_getElem hi
      obtain ⟨G4, m4, w4, dx⟩ := hY i its[i] _ G3 H3 x H4 hd m3 w3 y
      have n4 : G4 D = none := (m4.old D _ h3).trans n3
      have h4 : H4 D = some (.lst acc) := m4.kp D _ h3 nM
      refine Tg.wiped (hg i _ hd) (q.mono fun a o e => m4.gr a o (m3.gr a o (m.gr a o e))) dx w4.sub (wipe_idem σ vs) fun σ2 q2 e2 => ⟨e2, ?_⟩
      show te σ2 H4 _
      refine he i _ hd (r + k' * (its.length - (i + 1))) σ2 G4 H4 q2 (w4.eq ?_) _ fun v s G5 H5 m5 w5 hv hs => ?_
      · have e : its.length - i = (its.length - (i + 1)) + 1 := by omega
        rw [e, Nat.mul_add, Nat.mul_one, Nat.add_assoc]
      · obtain ⟨e, rfl, pe⟩ := hs
        have n5 : G5 D = none := (m5.old D _ h4).trans n4
        have h5 : H5 D = some (.lst acc) := m5.kp D _ h4 nM
        have da := dd.len
        refine ⟨acc, h5, Nat.lt_of_lt_of_le (show acc.length < 100001 by omega) (by decide), G5, acc ++ [v], ds ++ [e], (m3.trans (m4.trans m5)).loc nD n5, n5, upd_same, w5.loc n5 nM, (dd.mono fun a o z => m5.gr a o (m4.gr a o z)).snoc hv, by rw [List.length_append, el]; rfl, fun j d' hj => ?_⟩
        by_cases hj2 : j < ds.length
        · rw [List.getElem?_append_left hj2] at hj
          exact hp j d' hj
        · rw [List.getElem?_append_right (by omega)] at hj
          have : j - ds.length = 0 := by
            cases h : j - ds.length with
            | zero => rfl
            | succ n =>
              rw [h] at hj
              simp at hj
          rw [this] at hj
          cases hj
          have ej : j = i := by omega
          rw [ej]
          exact pe
    · rintro H3 ⟨G3, acc, ds, m3, n3, h3, w3, dd, el, hp⟩
      exact hQ (.ref D) (.dat (.list ds)) (upd G3 D (.lst acc)) H3 (m.trans (m3.know nD n3 h3)) ((w3.know h3 nM).eq (by rw [Nat.sub_self]; rfl)) (DD.lst upd_same (dd.mono fun a o e => by
        rw [upd_ne (ne_of_none e n3)]
        exact e)) ⟨ds, rfl, el, hp⟩
theorem d_lc {wi : TI} {g : TG} {vs : List Nat} {its : List PyData} {δg : PyData → List SD} {f : PyData → PyData} (hi : EvI K S wi δ 0 its) (hg : ∀ (j : Nat) (d : PyData), its[j]? = some d → Tg K g d (wipeD δ vs) (δg d) vs)
    (he : ∀ (j : Nat) (d : PyData), its[j]? = some d → Dt K S te (δg d) (.dat (f d))) (hn : its.length ≤ 100000) : Dt K S (tLc wi g tYes te vs) δ (.dat (.list (its.map f))) :=
  ((e_lc (k' := 0) (Ψ := fun j e => ∃ d, its[j]? = some d ∧ e = f d) hi hg (fun j d hd => (he j d hd).mono fun s hs => ⟨f d, hs, d, hd, rfl⟩) hn).mono fun s ⟨ds, e, el, hp⟩ => by
    rw [e]
    congr 2
    refine List.ext_getElem? fun j => ?_
    rw [List.getElem?_map]
    by_cases hj : j < ds.length
    · obtain ⟨d, h1, h2⟩ := hp j _ (List.getElem?_eq_getElem hj)
      rw [List.getElem?_eq_getElem hj, h1, h2]
      rfl
    · rw [List.getElem?_eq_none (by omega), List.getElem?_eq_none (by omega)]
      rfl).up (by omega)
/-! ## for loops -/
theorem s_for {wi : TI} {g : TG} {tb : TS} {vs : List Nat} {its : List PyData} {O : Out} (I : Nat → List SD → Prop) (hi : EvI K S wi δ k its) (h0 : I 0 δ)
    (hs : ∀ (j : Nat) (d : PyData) δ', its[j]? = some d → I j δ' → ∃ δ2, Tg K g d δ' δ2 vs ∧ EvS K S tb δ2 k' { nx := I (j + 1), rt := O.rt, bk := O.nx, ct := I (j + 1) }) (hd : ∀ δ', I its.length δ' → O.nx δ') :
    EvS K S (tFor wi g tb) δ (k + k' * its.length) O :=
  fun r σ G H q w D a b _ _ => hi (r + k' * its.length) σ G H q (w.eq (by omega)) _ fun J G2 H2 m w2 ⟨A, Y, wk, hA, hY⟩ =>
    for_it wk (fun i σ' H3 => ∃ G3 δ', Mv S.M G2 H2 G3 H3 ∧ Wd S (r + k' * (its.length - i)) G3 H3 ∧ SlD K G3 σ' δ' ∧ I i δ') ⟨G2, δ, w2.refl, w2, q.mono m.gr, h0⟩ (fun i σ' H3 _ ⟨G3, _, m3, _⟩ => hA G3 H3 m3) (by
      rintro i x σ' H3 H4 hlt ⟨G3, δ', m3, w3, q3, hI⟩ y
      have hd' : its[i]? = some its[i] := List.getElem?_eq_getElem hlt
      obtain ⟨G4, m4, w4, dx⟩ := hY i its[i] _ G3 H3 x H4 hd' m3 w3 y
      obtain ⟨δ2, tg, hb⟩ := hs i its[i] δ' hd' hI
      refine tg x σ' G4 H4 (q3.mono m4.gr) dx w4.sub _ fun σ2 q2 _ => ?_
      refine hb (r + k' * (its.length - (i + 1))) σ2 G4 H4 q2 (w4.eq ?_) _ ?_ ?_ ?_ ?_
      · have e : its.length - i = (its.length - (i + 1)) + 1 := by omega
        rw [e, Nat.mul_add, Nat.mul_one, Nat.add_assoc]
      · intro σ5 δ5 G5 H5 m5 w5 q5 hI5
        exact ⟨G5, δ5, m3.trans (m4.trans m5), w5, q5, hI5⟩
      · intro v s G5 H5 m5 w5 hv hr
        exact b v s G5 H5 (m.trans (m3.trans (m4.trans m5))) (Wd.dn (j := k' * (its.length - (i + 1))) w5) hv hr
      · intro σ5 δ5 G5 H5 m5 w5 q5 hn
        exact a σ5 δ5 G5 H5 (m.trans (m3.trans (m4.trans m5))) (Wd.dn (j := k' * (its.length - (i + 1))) w5) q5 hn
      · intro σ5 δ5 G5 H5 m5 w5 q5 hI5
        exact ⟨G5, δ5, m3.trans (m4.trans m5), w5, q5, hI5⟩) (by
      rintro σ' H3 ⟨G3, δ', m3, w3, q3, hI⟩
      exact a σ' δ' G3 H3 (m.trans m3) (w3.eq (by rw [Nat.sub_self]; rfl)) q3 (hd δ' hI))
end
/-! ## operations, one by one -/
section
variable {K : PySem.W.Frag} {S : MS} {δ : List SD}
theorem atI_dd {G : Hp} {ds : List PyData} {vs : List V} {i : Int} {d : PyData} (t : DDs K G vs ds) (h : atI ds i = some d) : ∃ v, atI vs i = some v ∧ DD K G v d := by
  unfold atI at h ⊢
  rw [t.len]
  cases e : ixN ds.length i with
  | none =>
    rw [e] at h
    cases h
  | some j =>
    rw [e] at h
    exact t.got h
theorem rv_ixL {ds : List PyData} {i : Int} {d : PyData} (h : atI ds i = some d) : RV K (rIxL K) (.dat (.list ds)) (.i i) (fun z => z = .dat d) := fun x y G H hx hy hs Q hQ => by
  cases hy
  cases hx with
  | @lst a xs _ hl t =>
    obtain ⟨v, hv, dv⟩ := atI_dd t h
    exact ⟨a, xs, i, v, rfl, rfl, .inl (.inl (hs _ _ hl)), hv, hQ v (.dat d) G H (Mv.refl hs) dv rfl⟩
theorem rv_ixT {ds : List PyData} {i : Int} {d : PyData} (h : atI ds i = some d) : RV K (rIxT K) (.dat (.tuple ds)) (.i i) (fun z => z = .dat d) := fun x y G H hx hy hs Q hQ => by
  cases hy
  cases hx with
  | @tup a xs _ hl t =>
    obtain ⟨v, hv, dv⟩ := atI_dd t h
    exact ⟨a, xs, i, v, rfl, rfl, .inl (.inl (hs _ _ hl)), hv, hQ v (.dat d) G H (Mv.refl hs) dv rfl⟩
theorem rv_cat {ds es : List PyData} (h : ds.length + es.length ≤ 100000) : RV K rCat (.dat (.list ds)) (.dat (.list es)) (fun z => z = .dat (.list (ds ++ es))) := fun x y G H hx hy hs Q hQ => by
  cases hx with
  | @lst a xs _ hl t =>
    cases hy with
    | @lst b ys _ hl2 t2 =>
      refine ⟨a, b, xs, ys, rfl, rfl, hs _ _ hl, hs _ _ hl2, Nat.le_trans (by rw [t.len, t2.len]; exact h) (by decide), fun p np => hQ _ (.dat (.list (ds ++ es))) _ _ (Mv.new hs np) (DD.lst upd_same ((t.append t2).mono (Mv.new (M := fun _ => False) hs np).gr)) rfl⟩
theorem rv_catT {ds es : List PyData} (h : ds.length + es.length ≤ 100000) (hn : ds ≠ []) : RV K (rCatT K) (.dat (.tuple ds)) (.dat (.tuple es)) (fun z => z = .dat (.tuple (ds ++ es))) := fun x y G H hx hy hs Q hQ => by
  cases hx with
  | @tup a xs _ hl t =>
    cases hy with
    | @tup b ys _ hl2 t2 =>
      have e1 := t.len
      have e2 := t2.len
      refine ⟨a, b, xs, ys, rfl, rfl, .inl (.inl (hs _ _ hl)), .inl (.inl (hs _ _ hl2)), fun z => hn ?_, Nat.le_trans (by rw [e1, e2]; exact h) (by decide), fun z => ?_, fun _ p np => hQ _ (.dat (.tuple (ds ++ es))) _ _ (Mv.new hs np) (DD.tup upd_same ((t.append t2).mono (Mv.new (M := fun _ => False) hs np).gr)) rfl⟩
      · subst z
        exact List.eq_nil_of_length_eq_zero e1.symm
      · subst z
        have : es = [] := List.eq_nil_of_length_eq_zero e2.symm
        subst this
        exact hQ _ (.dat (.tuple ds)) G H (Mv.refl hs) (.tup hl t) (by rw [List.append_nil])
theorem rv_eqD {d e : PyData} (h1 : SeqAt.shaped d = true) (h2 : SeqAt.shaped e = true) : RV K (rEqD K) (.dat d) (.dat e) (fun z => z = .b (PyData.eqv d e)) := fun x y G H hx hy hs Q hQ =>
  ⟨d, e, ((show DD K G x d from hx).mono hs).dp, ((show DD K G y e from hy).mono hs).dp, h1, h2, hQ _ (.b _) G H (Mv.refl hs) (DD.bl _) rfl⟩
theorem rv_neD {d e : PyData} (h1 : SeqAt.shaped d = true) (h2 : SeqAt.shaped e = true) : RV K (rNeD K) (.dat d) (.dat e) (fun z => z = .b (!PyData.eqv d e)) := fun x y G H hx hy hs Q hQ =>
  ⟨d, e, ((show DD K G x d from hx).mono hs).dp, ((show DD K G y e from hy).mono hs).dp, h1, h2, hQ _ (.b _) G H (Mv.refl hs) (DD.bl _) rfl⟩
theorem rv_eqI {i j : Int} : RV K rEq (.i i) (.i j) (fun z => z = .b (decide (i = j))) := fun x y G H hx hy hs Q hQ => by
  cases hx
  cases hy
  refine ⟨rfl, hQ _ (.b (decide (i = j))) G H (Mv.refl hs) ?_ rfl⟩
  rw [show decide (V.int i = V.int j) = decide (i = j) from by
    by_cases h : i = j
    · subst h
      simp
    · rw [decide_eq_false h, decide_eq_false fun z => h (V.int.inj z)]]
  exact DD.bl _
theorem rv_neI {i j : Int} : RV K rNe (.i i) (.i j) (fun z => z = .b (!decide (i = j))) := fun x y G H hx hy hs Q hQ => by
  cases hx
  cases hy
  refine ⟨rfl, hQ _ (.b (!decide (i = j))) G H (Mv.refl hs) ?_ rfl⟩
  rw [show decide (V.int i = V.int j) = decide (i = j) from by
    by_cases h : i = j
    · subst h
      simp
    · rw [decide_eq_false h, decide_eq_false fun z => h (V.int.inj z)]]
  exact DD.bl _
theorem rv_eqB {i j : Bool} : RV K rEq (.b i) (.b j) (fun z => z = .b (i == j)) := fun x y G H hx hy hs Q hQ => by
  cases hx
  cases hy
  refine ⟨rfl, hQ _ (.b (i == j)) G H (Mv.refl hs) ?_ rfl⟩
  rw [dec_bl]
  exact DD.bl _
theorem rv_neB {i j : Bool} : RV K rNe (.b i) (.b j) (fun z => z = .b (!(i == j))) := fun x y G H hx hy hs Q hQ => by
  cases hx
  cases hy
  refine ⟨rfl, hQ _ (.b (!(i == j))) G H (Mv.refl hs) ?_ rfl⟩
  rw [dec_bl]
  exact DD.bl _
/-! built-ins -/
theorem vds1 {G : Hp} {vs : List V} {s : SD} (h : VDs K G vs [s]) : ∃ v, vs = [v] ∧ VD K G v s := by
  cases h with
  | cons a b =>
    cases b
    exact ⟨_, rfl, a⟩
theorem vds2 {G : Hp} {vs : List V} {s t : SD} (h : VDs K G vs [s, t]) : ∃ v u, vs = [v, u] ∧ VD K G v s ∧ VD K G u t := by
  cases h with
  | cons a b =>
    cases b with
    | cons c d =>
      cases d
      exact ⟨_, _, rfl, a, c⟩
theorem rc_lenL {ds : List PyData} : RC K (fun xs H Q => ∃ p ys, xs = [.ref p] ∧ (SqL K H p ys ∨ SqT K H p ys) ∧ Q (.int ys.length) H) [.dat (.list ds)] (fun z => z = .i ds.length) := fun vs G H hv hs Q hQ => by
  obtain ⟨v, rfl, hx⟩ := vds1 hv
  cases hx with
  | @lst a xs _ hl t => exact ⟨a, xs, rfl, .inl (.inl (.inl (hs _ _ hl))), hQ _ (.i ds.length) G H (Mv.refl hs) (by rw [t.len]; exact DD.int _) rfl⟩
theorem rc_lenT {ds : List PyData} : RC K (fun xs H Q => ∃ p ys, xs = [.ref p] ∧ (SqL K H p ys ∨ SqT K H p ys) ∧ Q (.int ys.length) H) [.dat (.tuple ds)] (fun z => z = .i ds.length) := fun vs G H hv hs Q hQ => by
  obtain ⟨v, rfl, hx⟩ := vds1 hv
  cases hx with
  | @tup a xs _ hl t => exact ⟨a, xs, rfl, .inr (.inl (.inl (hs _ _ hl))), hQ _ (.i ds.length) G H (Mv.refl hs) (by rw [t.len]; exact DD.int _) rfl⟩
theorem rc_listL {ds : List PyData} : RC K (fun xs H Q => ∃ p ys, xs = [.ref p] ∧ (SqL K H p ys ∨ SqT K H p ys) ∧ ∀ l, H l = none → Q (.ref l) (upd H l (.lst ys))) [.dat (.list ds)] (fun z => z = .dat (.list ds)) := fun vs G H hv hs Q hQ => by
  obtain ⟨v, rfl, hx⟩ := vds1 hv
  cases hx with
  | @lst a xs _ hl t => exact ⟨a, xs, rfl, .inl (.inl (.inl (hs _ _ hl))), fun l hn => hQ _ (.dat (.list ds)) _ _ (Mv.new hs hn) (DD.lst upd_same (t.mono (Mv.new (M := fun _ => False) hs hn).gr)) rfl⟩
theorem rc_listT {ds : List PyData} : RC K (fun xs H Q => ∃ p ys, xs = [.ref p] ∧ (SqL K H p ys ∨ SqT K H p ys) ∧ ∀ l, H l = none → Q (.ref l) (upd H l (.lst ys))) [.dat (.tuple ds)] (fun z => z = .dat (.list ds)) := fun vs G H hv hs Q hQ => by
  obtain ⟨v, rfl, hx⟩ := vds1 hv
  cases hx with
  | @tup a xs _ hl t => exact ⟨a, xs, rfl, .inr (.inl (.inl (hs _ _ hl))), fun l hn => hQ _ (.dat (.list ds)) _ _ (Mv.new hs hn) (DD.lst upd_same (t.mono (Mv.new (M := fun _ => False) hs hn).gr)) rfl⟩
theorem rc_tupL {ds : List PyData} : RC K (fun xs H Q => ∃ p ys, xs = [.ref p] ∧ ((SqL K H p ys ∧ ∀ l, H l = none → Q (.ref l) (upd H l (.tup ys))) ∨ (SqT K H p ys ∧ Q (.ref p) H))) [.dat (.list ds)] (fun z => z = .dat (.tuple ds)) := fun vs G H hv hs Q hQ => by
  obtain ⟨v, rfl, hx⟩ := vds1 hv
  cases hx with
  | @lst a xs _ hl t => exact ⟨a, xs, rfl, .inl ⟨.inl (.inl (hs _ _ hl)), fun l hn => hQ _ (.dat (.tuple ds)) _ _ (Mv.new hs hn) (DD.tup upd_same (t.mono (Mv.new (M := fun _ => False) hs hn).gr)) rfl⟩⟩
theorem rc_tupT {ds : List PyData} : RC K (fun xs H Q => ∃ p ys, xs = [.ref p] ∧ ((SqL K H p ys ∧ ∀ l, H l = none → Q (.ref l) (upd H l (.tup ys))) ∨ (SqT K H p ys ∧ Q (.ref p) H))) [.dat (.tuple ds)] (fun z => z = .dat (.tuple ds)) := fun vs G H hv hs Q hQ => by
  obtain ⟨v, rfl, hx⟩ := vds1 hv
  cases hx with
  | @tup a xs _ hl t => exact ⟨a, xs, rfl, .inr ⟨.inl (.inl (hs _ _ hl)), hQ _ (.dat (.tuple ds)) G H (Mv.refl hs) (.tup hl t) rfl⟩⟩
theorem rc_abs {i : Int} : RC K (fun xs H Q => ∃ i, xs = [.int i] ∧ Q (.int (if i < 0 then -i else i)) H) [.i i] (fun z => z = .i (if i < 0 then -i else i)) := fun vs G H hv hs Q hQ => by
  obtain ⟨v, rfl, hx⟩ := vds1 hv
  cases hx
  exact ⟨i, rfl, hQ _ (.i _) G H (Mv.refl hs) (DD.int _) rfl⟩
theorem rc_max {i j : Int} : RC K (fun xs H Q => ∃ i j, xs = [.int i, .int j] ∧ Q (.int (if j > i then j else i)) H) [.i i, .i j] (fun z => z = .i (if j > i then j else i)) := fun vs G H hv hs Q hQ => by
  obtain ⟨v, u, rfl, hx, hy⟩ := vds2 hv
  cases hx
  cases hy
  exact ⟨i, j, rfl, hQ _ (.i _) G H (Mv.refl hs) (DD.int _) rfl⟩
theorem rc_min {i j : Int} : RC K (fun xs H Q => ∃ i j, xs = [.int i, .int j] ∧ Q (.int (if j < i then j else i)) H) [.i i, .i j] (fun z => z = .i (if j < i then j else i)) := fun vs G H hv hs Q hQ => by
  obtain ⟨v, u, rfl, hx, hy⟩ := vds2 hv
  cases hx
  cases hy
  exact ⟨i, j, rfl, hQ _ (.i _) G H (Mv.refl hs) (DD.int _) rfl⟩
theorem rc_intB {c : Bool} : RC K (fun xs H Q => (∃ i, xs = [.int i] ∧ Q (.int i) H) ∨ ∃ k, xs = [.bl k] ∧ Q (.int (if k then 1 else 0)) H) [.b c] (fun z => z = .i (if c then 1 else 0)) := fun vs G H hv hs Q hQ => by
  obtain ⟨v, rfl, hx⟩ := vds1 hv
  cases hx
  exact .inr ⟨c, rfl, hQ _ (.i _) G H (Mv.refl hs) (DD.int _) rfl⟩
theorem rc_all {bs : List Bool} : RC K (rAll K) [.dat (.list (bs.map .bool))] (fun z => z = .b (bs.all id)) := fun vs G H hv hs Q hQ => by
  obtain ⟨v, rfl, hx⟩ := vds1 hv
  cases hx with
  | @lst a xs _ hl t =>
    have e := t.bls
    subst e
    exact ⟨a, bs, rfl, .inl (.inl (hs _ _ hl)), hQ _ (.b _) G H (Mv.refl hs) (DD.bl _) rfl⟩
def tyD : PyData → String
  | .none => "NoneType"
  | .bool _ => "bool"
  | .int _ => "int"
  | .str _ => "str"
  | .list _ => "list"
  | .tuple _ => "tuple"
  | .dict _ => "dict"
theorem tyX {G H : Hp} {v : V} {d : PyData} (h : DD K G v d) (hs : ∀ a o, G a = some o → H a = some o) : TyX K H v (.type (tyD d)) := by
  cases h with
  | non => exact .base .non
  | bl c => exact .base (.bl c)
  | int i => exact .base (.int i)
  | str x => exact .base (.str x)
  | lst h t => exact .base (.lst (hs _ _ h))
  | tup h t => exact .base (.tup (hs _ _ h))
end
end DL

namespace ZX
open PySem PySem.Spec PyProof.Rows L2
/-! zip of two things, each a list or a tuple -/
def SqX (K : PySem.W.Frag) (c : Bool) (H : Hp) (a : Addr) (xs : List V) : Prop := if c = true then SqT K H a xs else SqL K H a xs
def IterX (h : Heap) (c : Bool) (it l : Addr) (i : Nat) : Prop := if c = true then h.IsTupleIter it l i else h.IsListIter it l i
def HasX (h : Heap) (c : Bool) (l : Addr) (items : Array Value) : Prop := if c = true then h.IsTuple l items else h.IsList l items
def nmX (c : Bool) : String := if c = true then "tuple_iterator" else "list_iterator"
theorem drawsX {prog : Program} {w : World} {A : Around} (hh : A.handled = none) (c : Bool) (it l : Addr) (hne : l ≠ it) (items : Array Value) :
    Draws prog w A it [it, l] items.size (fun i v => items[i]? = some v) (fun i h => IterX h c it l i ∧ HasX h c l items) := by
  cases c
  · exact Draws.list hh it l hne items
  · exact Draws.tuple hh it l hne items
theorem IterX.obj {h : Heap} {c : Bool} {it l : Addr} {i : Nat} (x : IterX h c it l i) : ∃ o, h.get? it = some o ∧ ∀ v, o.data ≠ .cell v := by
  cases c
  · obtain ⟨o, e, _, d⟩ := (show h.IsListIter it l i from x)
    exact ⟨o, e, fun v q => by rw [d] at q; cases q⟩
  · obtain ⟨o, e, _, d⟩ := (show h.IsTupleIter it l i from x)
    exact ⟨o, e, fun v q => by rw [d] at q; cases q⟩
theorem IterX.keep {h h' : Heap} {c : Bool} {it l : Addr} {i : Nat} (x : IterX h c it l i) (k : ∀ o, h.get? it = some o → h'.get? it = some o) : IterX h' c it l i := by
  cases c
  · exact (show h.IsListIter it l i from x).at k
  · exact (show h.IsTupleIter it l i from x).at k
theorem hasX {X : Cx} {pins : List (Addr × Obj)} {σ : L2.St} {H : Hp} {s : Shared} {c : Bool} {a : Addr} {xs : List V} (I : Inv X pins σ H s) (h : SqX X.K c H a xs) : ∃ its : List Value, Vals xs its ∧ HasX s.heap c a its.toArray ∧ a < s.heap.objs.size := by
  cases c
  · obtain ⟨its, r, p, _⟩ := I.list (show SqL X.K H a xs from h)
    exact ⟨its, r, p.isList, p.lt⟩
  · obtain ⟨its, r, p, _⟩ := I.tuple (show SqT X.K H a xs from h)
    have p' := p
    obtain ⟨o, ho, _⟩ := p'
    exact ⟨its, r, p, Heap.lt_size ho⟩
theorem injX {X : Cx} {pins : List (Addr × Obj)} {σ : L2.St} {H : Hp} {s : Shared} {c : Bool} {a : Addr} {xs ys : List V} (I : Inv X pins σ H s) (h : SqX X.K c H a xs) (h' : SqX X.K c H a ys) : xs = ys := by
  cases c
  · exact I.list_inj h h'
  · exact I.tuple_inj h h'
theorem HasX.push {h : Heap} {c : Bool} {l : Addr} {its : Array Value} (x : HasX h c l its) (o : Obj) : HasX (h.push o) c l its := by
  cases c
  · exact Heap.IsList.push (show h.IsList l its from x) o
  · exact Heap.IsTuple.push (show h.IsTuple l its from x) o
theorem iterX {prog : Program} {w : World} {A : Around} {E : Value → Shared → Prop} {s : Shared} {c : Bool} {l : Addr} {items : Array Value} {Q : Value → Shared → Prop} (hl : HasX s.heap c l items)
    (hQ : Q (.ref s.heap.objs.size) { s with heap := s.heap.push { cls := .type (nmX c), data := .fields #[.ref l, .int 0 0] } }) : wpAny (model prog w) A (pyIter (.ref l)) Q E s := by
  cases c
  · exact wpAny_pyIter_list (show s.heap.IsList l items from hl) hQ
  · exact wpAny_pyIter_tuple (show s.heap.IsTuple l items from hl) hQ
abbrev hA (h : Heap) (c : Bool) (l : Addr) : Heap := h.push { cls := .type (nmX c), data := .fields #[.ref l, .int 0 0] }
abbrev hB (h : Heap) (c e : Bool) (l m : Addr) : Heap := hA (hA h c l) e m
abbrev hC (h : Heap) (c e : Bool) (l m : Addr) : Heap := (hB h c e l m).push { cls := .type "tuple", data := .seq #[.ref h.objs.size, .ref (hA h c l).objs.size] }
abbrev hD (h : Heap) (c e : Bool) (l m : Addr) : Heap := (hC h c e l m).push { cls := .type "tuple", data := .seq #[.none, .none] }
abbrev hE (h : Heap) (c e : Bool) (l m : Addr) : Heap := (hD h c e l m).push { cls := .type "zip", data := .fields #[.none, .bool false, .bool false, .ref (hB h c e l m).objs.size, .ref (hC h c e l m).objs.size] }
theorem meetsX (c e : Bool) (l m : Addr) (xs ys : Array Value) :
    Meets (Builtin.«zip.__new__» ⟨[.type "zip", .ref l, .ref m], []⟩) (fun _ R s => HasX s.heap c l xs ∧ HasX s.heap e m ys ∧ R (.ok (.ret (.ref (hD s.heap c e l m).objs.size))) { s with heap := hE s.heap c e l m }) :=
  .of_wp fun prog w A R s hy => by
    obtain ⟨hp, g, d, tk, os⟩ := s
    obtain ⟨h1, h2, hy⟩ := hy
    have sub := sub_zip
    have L1 : HasX (Shared.heap ⟨hp, g, d, tk, os⟩) c l xs := h1
    have L2 : HasX (Shared.heap ⟨hA hp c l, g, d, tk, os⟩) e m ys := HasX.push h2 _
    wp_walk using iterX L1, iterX L2
    exact ⟨_, rfl, hy⟩
theorem iter0 {h : Heap} {c : Bool} {it l : Addr} (e : h.get? it = some { cls := .type (nmX c), data := .fields #[.ref l, .int 0 0] }) : IterX h c it l 0 := by
  cases c
  · exact ⟨_, e, rfl, rfl⟩
  · exact ⟨_, e, rfl, rfl⟩
section
variable {prog : Program} {w : World} {A : Around} {E : Value → Shared → Prop} {s : Shared}
theorem callX {c e : Bool} {l m : Addr} {xs ys : Array Value} {Q : Value → Shared → Prop} (h1 : HasX s.heap c l xs) (h2 : HasX s.heap e m ys)
    (h : ∀ g, IsZip g (s.heap.objs.size + 4) (s.heap.objs.size + 2) (s.heap.objs.size + 3) .none → IsPair g (s.heap.objs.size + 2) (.ref s.heap.objs.size) (.ref (s.heap.objs.size + 1)) →
      IsPair g (s.heap.objs.size + 3) .none .none → IterX g c s.heap.objs.size l 0 → IterX g e (s.heap.objs.size + 1) m 0 → (∀ b o, s.heap.get? b = some o → g.get? b = some o) → Q (.ref (s.heap.objs.size + 4)) { s with heap := g }) :
    wpAny (model prog w) A (call (.type "zip") [.ref l, .ref m]) Q E s := by
  refine callType_new F.called_zip (by decide) (F.typeCall_zip_2 _ _) (F.newCall_zip_2 _ _) (fun o => F.args_object_init_3 o _ _) F.entry_zip_new (meetsX c e l m xs ys) ⟨h1, h2, ?_⟩
  have n1 : (hA s.heap c l).objs.size = s.heap.objs.size + 1 := Heap.size_push ..
  have n2 : (hB s.heap c e l m).objs.size = s.heap.objs.size + 2 := by rw [Heap.size_push, n1]
  have n3 : (hC s.heap c e l m).objs.size = s.heap.objs.size + 3 := by rw [Heap.size_push, n2]
  have n4 : (hD s.heap c e l m).objs.size = s.heap.objs.size + 4 := by rw [Heap.size_push, n3]
  have q5 : (hE s.heap c e l m).get? (hD s.heap c e l m).objs.size = some _ := Heap.get?_push_size _ rfl
  have q4 : (hE s.heap c e l m).get? (hC s.heap c e l m).objs.size = some _ := Heap.get?_push_of_some _ (Heap.get?_push_size _ rfl)
  have q3 : (hE s.heap c e l m).get? (hB s.heap c e l m).objs.size = some _ := Heap.get?_push_of_some _ (Heap.get?_push_of_some _ (Heap.get?_push_size _ rfl))
  have q2 : (hE s.heap c e l m).get? (hA s.heap c l).objs.size = some _ := Heap.get?_push_of_some _ (Heap.get?_push_of_some _ (Heap.get?_push_of_some _ (Heap.get?_push_size _ rfl)))
  have q1 : (hE s.heap c e l m).get? s.heap.objs.size = some _ := Heap.get?_push_of_some _ (Heap.get?_push_of_some _ (Heap.get?_push_of_some _ (Heap.get?_push_of_some _ (Heap.get?_push_size _ rfl))))
  show _ ∧ _
  rw [n2, n3, n4] at q5
  rw [n1, n2] at q3
  rw [n3] at q4
  rw [n1] at q2
  rw [n4]
  exact ⟨⟨_, q5, rfl⟩, h _ q5 q3 q4 (iter0 q1) (iter0 q2) fun b o x => Heap.get?_push_of_some _ (Heap.get?_push_of_some _ (Heap.get?_push_of_some _ (Heap.get?_push_of_some _ (Heap.get?_push_of_some _ x))))⟩
end
def ItX (K : PySem.W.Frag) (c e : Bool) (a b : Addr) : It :=
  ⟨fun i H => ∃ (xs ys : List V) (x y : V), SqX K c H a xs ∧ SqX K e H b ys ∧ xs[i]? = some x ∧ ys[i]? = some y,
    fun i H v H' => ∃ T x y, v = .ref T ∧ H T = none ∧ H' = upd H T (.tup [x, y]) ∧ (∀ xs, SqX K c H a xs → xs[i]? = some x) ∧ ∀ ys, SqX K e H b ys → ys[i]? = some y,
    fun i H => ∃ xs ys : List V, SqX K c H a xs ∧ SqX K e H b ys ∧ i ≤ xs.length ∧ i ≤ ys.length ∧ (xs.length = i ∨ ys.length = i)⟩
theorem sep {z TI TO i1 i2 a b : Addr} (D : ZipApart z TI TO i1 i2 a b) (h1 : b ≠ i1) (h2 : a ≠ i2) : ZipSep2 z TI TO i1 i2 [i1, a] [i2, b] where
  TIz := D.TIz
  TOz := D.TOz
  TITO := D.TITO
  TIi1 := D.TIi1
  mem1 := by simp
  zf1 := by simp [D.i1z.symm, D.l1z.symm]
  Tf1 := by simp [D.TOi1, D.l1TO.symm]
  TIi2 := D.TIi2
  mem2 := by simp
  zf2 := by simp [D.i2z.symm, D.l2z.symm]
  Tf2 := by simp [D.TOi2, D.l2TO.symm]
  sep1_2 := by simp [D.i12, h1.symm]
  sep2_1 := by simp [D.i12.symm, h2.symm]
theorem turnX {P : Program} {w : World} {K : PySem.W.Frag} {elts : List Expr} {kk : Nat} {tpos : Pos} {c e : Bool} {a b z TI TO i1 i2 : Addr} (D : ZipApart z TI TO i1 i2 a b) :
    Turn P w K (.Tuple elts kk tpos) (ItX K c e a b) [z, TI, TO, i1, i2] z (fun i h => IsZip h z TI TO .none ∧ IsPair h TI (.ref i1) (.ref i2) ∧ (∃ x y, IsPair h TO x y) ∧ IterX h c i1 a i ∧ IterX h e i2 b i) where
  mem := by simp
  obj := fun i h st k hk => by
    obtain ⟨hz, hTI, ⟨x, y, hTO⟩, h1, h2⟩ := st
    have cs : k = z ∨ k = TI ∨ k = TO ∨ k = i1 ∨ k = i2 := by simpa using hk
    rcases cs with rfl | rfl | rfl | rfl | rfl
    · exact ⟨_, hz, fun v q => nomatch q⟩
    · exact ⟨_, hTI, fun v q => nomatch q⟩
    · exact ⟨_, hTO, fun v q => nomatch q⟩
    · exact h1.obj
    · exact h2.obj
  keep := fun i h h' st k => by
    obtain ⟨hz, hTI, ⟨x, y, hTO⟩, h1, h2⟩ := st
    exact ⟨k z (by simp) _ hz, k TI (by simp) _ hTI, ⟨x, y, k TO (by simp) _ hTO⟩, h1.keep fun o q => k i1 (by simp) o q, h2.keep fun o q => k i2 (by simp) o q⟩
  item := by
    intro X hP hw hK hc i pins s σ H E I hf st hg
    subst hP hw hK
    obtain ⟨hz, hTI, ⟨x0, y0, hTO⟩, h1, h2⟩ := st
    obtain ⟨xs, ys, x, y, hqx, hqy, hx, hy⟩ := hg
    obtain ⟨its, rv, p, _⟩ := hasX I hqx
    obtain ⟨jts, rv2, p2, _⟩ := hasX I hqy
    have lx : i < xs.length := (List.getElem?_eq_some_iff.mp hx).1
    have ly : i < ys.length := (List.getElem?_eq_some_iff.mp hy).1
    have hh : X.A.in1.handled = none := I.ok.hd hc
    have hzl : z < s.heap.objs.size := Heap.lt_size hz
    refine wpAny_pyNext_zipD2_item (sep D D.l2i1 D.l1i2) (drawsX hh c i1 a D.l1i1 its.toArray) (drawsX hh e i2 b D.l2i2 jts.toArray) hz hTI hTO ⟨h1, p⟩ ⟨h2, p2⟩ (by rw [List.size_toArray, ← rv.length]; exact lx) (by rw [List.size_toArray, ← rv2.length]; exact ly)
      fun u u2 h' tk hu hu2 z' TO' n1 n2 hT hsz hk => ?_
    obtain ⟨v1, e1, r1⟩ := rv.get hx
    obtain ⟨v2, e2, r2⟩ := rv2.get hy
    have eu : v1 = u := Option.some.inj (e1.symm.trans (by simpa using hu))
    have eu2 : v2 = u2 := Option.some.inj (e2.symm.trans (by simpa using hu2))
    subst eu eu2
    refine ⟨_, rfl, wpAny_letOwnedTupleGo_zip (s := { s with heap := h', toks := tk }) z' fun h'' z'' sb => ?_⟩
    have hT2 : h''.get? s.heap.objs.size = some { cls := .type "tuple", data := .seq #[v1, v2] } := (sb.2 _ (Nat.ne_of_gt hzl)).trans hT
    have new : ObjOk X.prog X.w (upd H s.heap.objs.size (.tup [x, y])) h'' s.heap.objs.size (.tup [x, y]) := ⟨by show 2 ≤ sizeLine; decide, [v1, v2], .cons r1 (.cons r2 .nil), ⟨_, hT2, rfl, _, rfl⟩⟩
    have I1 : Inv X pins σ (upd H s.heap.objs.size (.tup [x, y])) { s with heap := h'', toks := tk } :=
      I.turnedNew (t' := tk) (ch := [z, TI, TO, i1, i2]) (fun k o hb q => (sb.2 k (fun n => hb (by simp [n]))).trans (hk k o (fun n => hb (by simp [n])) (fun n => hb (by simp [n])) (fun n => hb (by simp [n])) (fun n => hb (by simp [n])) q)) hf (Nat.le_refl _) new
    refine ⟨.ref s.heap.objs.size, _, I1, rfl, ⟨_, x, y, rfl, I.hok.fresh (Nat.le_refl _), rfl, fun l hl => by rw [injX I hl hqx]; exact hx, fun l hl => by rw [injX I hl hqy]; exact hy⟩, ⟨z'', ?_, ⟨v1, v2, ?_⟩, ?_, ?_⟩, fun k hkm => ?_⟩
    · exact (sb.2 _ D.TIz).trans (hk _ _ D.TIz D.TITO D.TIi1 D.TIi2 hTI)
    · exact (sb.2 _ D.TOz).trans TO'
    · exact n1.1.keep fun o q => (sb.2 _ D.i1z).trans q
    · exact n2.1.keep fun o q => (sb.2 _ D.i2z).trans q
    · have lt : k < s.heap.objs.size := by
        have cs : k = z ∨ k = TI ∨ k = TO ∨ k = i1 ∨ k = i2 := by simpa using hkm
        rcases cs with rfl | rfl | rfl | rfl | rfl
        · exact hzl
        · exact Heap.lt_size hTI
        · exact Heap.lt_size hTO
        · obtain ⟨_, q, _⟩ := h1.obj
          exact Heap.lt_size q
        · obtain ⟨_, q, _⟩ := h2.obj
          exact Heap.lt_size q
      rw [upd_ne (Nat.ne_of_lt lt)]
      exact (hf k hkm).1
  done := by
    intro X hP hw hK hc i pins s σ H E I hf st hg
    subst hP hw hK
    obtain ⟨hz, hTI, ⟨x0, y0, hTO⟩, h1, h2⟩ := st
    obtain ⟨xs, ys, hqx, hqy, l1, l2, hend⟩ := hg
    obtain ⟨its, rv, p, _⟩ := hasX I hqx
    obtain ⟨jts, rv2, p2, _⟩ := hasX I hqy
    have hh : X.A.in1.handled = none := I.ok.hd hc
    have m1 : its.toArray.size = xs.length := by rw [List.size_toArray, rv.length]
    have m2 : jts.toArray.size = ys.length := by rw [List.size_toArray, rv2.length]
    exact wpAny_pyNext_zipD2_end (sep D D.l2i1 D.l1i2) (drawsX hh c i1 a D.l1i1 its.toArray) (drawsX hh e i2 b D.l2i2 jts.toArray) hz hTI hTO ⟨h1, p⟩ ⟨h2, p2⟩ (by omega) (by omega) (by omega)
      fun h' tk hk => ⟨rfl, I.turnedL (t' := tk) (ch := [z, TI, TO, i1, i2]) (fun k o hb q => hk k o (fun n => hb (by simp [n])) (fun n => hb (by simp [n])) (fun n => hb (by simp [n])) (fun n => hb (by simp [n])) q) hf⟩
  self := fun A i s Q E st h => wpAny_pyIter_zip st.1 h
def iZipX (K : PySem.W.Frag) (ta : TA) : TI := fun σ H R => ta σ H fun vs H1 => ∃ c e a b xs ys, vs = [.ref a, .ref b] ∧ SqX K c H1 a xs ∧ SqX K e H1 b ys ∧ R (ItX K c e a b) H1
theorem pi_zipX {X : Cx} {e e2 : Expr} {ta : TA} {p pos tpos : Pos} {elts : List Expr} {kk : Nat} (hg : Gl X "zip") (hm : X.mg "zip" = none) (ha : PA X [e, e2] ta)
    (hs : starEach [e, e2] X.env = (false, eval e X.env) :: starEach [e2] X.env := by rfl) (hpl : (backTo pos (starEach [e2] X.env)).any (·.1) = false := by rfl) :
    PI X (.Tuple elts kk tpos) (.Call (.Name "zip" p) [e, e2] [] pos) (iZipX X.K ta) := by
  refine ⟨fun pins s σ H R I h => ?_⟩
  refine Call_ (ld_blt I hg hm PyProof.Rows.boot_zip (PyProof.Rows.callWith_type1 (thn (ha.run pos pins s σ H _ I h) fun us s1 ⟨vs, H1, I1, r1, q1⟩ => ?_) hs hpl))
  obtain ⟨c, d, a, b, xs, ys, rfl, hqx, hqy, q⟩ := q1
  obtain ⟨u1, u2, rfl, r1, r2⟩ := vals2 r1
  cases (show u1 = Value.ref a from r1)
  cases (show u2 = Value.ref b from r2)
  obtain ⟨its, rv, p1, la⟩ := hasX I1 hqx
  obtain ⟨jts, rv2, p2, lb⟩ := hasX I1 hqy
  refine callX p1 p2 fun h' hz hTI hTO h1 h2 hk => wpAny_pyIter_zip hz ?_
  have I2 : Inv X pins σ H1 { s1 with heap := h' } := I1.kept (t' := s1.toks) hk
  refine ⟨s1.heap.objs.size + 4, [s1.heap.objs.size + 4, s1.heap.objs.size + 2, s1.heap.objs.size + 3, s1.heap.objs.size, s1.heap.objs.size + 1], _, _, H1, rfl, I2, turnX (PySem.W.ktu_apart s1.heap.objs.size a b la lb), ⟨hz, hTI, ⟨_, _, hTO⟩, h1, h2⟩, fun k hkm => ?_, q⟩
  have cs : k = s1.heap.objs.size + 4 ∨ k = s1.heap.objs.size + 2 ∨ k = s1.heap.objs.size + 3 ∨ k = s1.heap.objs.size ∨ k = s1.heap.objs.size + 1 := by simpa using hkm
  have hle : s1.heap.objs.size ≤ k := by
    rcases cs with z | z | z | z | z
    · rw [z]; exact Nat.le_add_right _ _
    · rw [z]; exact Nat.le_add_right _ _
    · rw [z]; exact Nat.le_add_right _ _
    · rw [z]; exact Nat.le_refl _
    · rw [z]; exact Nat.le_add_right _ _
  exact I1.fpOk hle (I1.hok.fresh hle)
theorem walkX {K : PySem.W.Frag} {c e : Bool} {a b : Addr} {xs ys : List V} {n : Nat} (hn : n = min xs.length ys.length) : Walk (ItX K c e a b) n (fun H => SqX K c H a xs ∧ SqX K e H b ys) (YPair (fun i => xs[i]?) (fun i => ys[i]?)) := by
  subst hn
  refine ⟨fun i _ hi q => ?_, fun _ q => ⟨xs, ys, q.1, q.2, by omega, by omega, by omega⟩, fun i H v H' _ q y => ?_⟩
  · have h1 : i < xs.length := by omega
    have h2 : i < ys.length := by omega
    exact ⟨xs, ys, xs[i], ys[i], q.1, q.2, List.getElem?_eq_getElem h1, List.getElem?_eq_getElem h2⟩
  · obtain ⟨T, x, z, h1, h2, h3, h4, h5⟩ := y
    exact ⟨T, x, z, h1, h2, h3, h4 xs q.1, h5 ys q.2⟩
end ZX


namespace ZX
open PySem PySem.Spec PyProof.Rows L2
theorem mulOne (l : Addr) (its : Array Value) (n : Nat) (dd : Option Addr) (sl : Array (Option Value)) (u : Tok) :
    Meets (Builtin.«tuple.__mul__» ⟨[.ref l, .int 1 u], []⟩) (fun _ R s => s.heap.get? l = some { cls := .type "tuple", dict := dd, data := .seq its n, slots := sl } ∧ R (.ok (.ret (Value.ref l))) s) :=
  .of_wp fun prog w A R s hy => by
    obtain ⟨hp, g, d, tk, os⟩ := s
    obtain ⟨hl, hy⟩ := hy
    have f1 := AutoSeq1.idx_int
    have c1 : (its.isEmpty || (1 : Int) == 1) = true := by simp
    wp_walk using wpAny_loadPart' hl
    all_goals first
      | exact ⟨_, rfl, hy⟩
      | (refine wpAny_ite_true (decide_eq_true c1) ?_; wp_walk using wpAny_loadPart' hl; exact ⟨_, rfl, hy⟩)
def rRepX (K : PySem.W.Frag) : R2 := fun x y H Q => ∃ l k xs, x = .ref l ∧ y = .int k ∧ SqT K H l xs ∧ xs ≠ [] ∧ 1 ≤ k ∧ k ≤ 1000 ∧ xs.length ≤ 1000 ∧ (k = 1 → Q (.ref l) H) ∧ (2 ≤ k → ∀ p, H p = none → Q (.ref p) (upd H p (.tup (List.replicate k.toNat xs).flatten)))
theorem op_repX {X : Cx} : OpR X (binaryOp .Mult) (rRepX X.K) := by
  intro pins s σ H x y v u Q I rx ry h
  obtain ⟨l, k, xs, rfl, rfl, hT, hne, h1, h2, hz, q1, q2⟩ := h
  by_cases hk : k = 1
  · subst hk
    cases rx
    obtain ⟨t, rfl⟩ := ry
    obtain ⟨its, r, ⟨⟨cls, dd, data, sl⟩, ho, hc, n, hd⟩, hs⟩ := I.tuple hT
    simp only at hc hd
    subst hc hd
    refine wpAny_binaryOp_repeat_ref (T := "tuple") (U := "int") (by decide) ⟨_, ho, rfl⟩ (fun s' => typeIs_int s' 1 t) noFill_tuple_mul F.fills_int_mul F.slot_int_rmul repeat_tuple F.slot_int_index.lookup
      (call_meets F.slot_int_rmul (typeIs_int s 1 t) F.entry_int_rmul (F.args_int_rmul_2 _ _) (int_rmul_tuple 1 t l its.toArray n dd sl)
        ⟨ho, rfl, ⟨_, ho, rfl⟩, call_meets F.slot_tuple_mul ⟨_, ho, rfl⟩ F.entry_tuple_mul (F.args_tuple_mul_2 _ _) (mulOne l its.toArray n dd sl t) ⟨ho, ?_⟩⟩)
    exact ⟨.ref l, H, I, rfl, q1 rfl⟩
  · exact op_repT pins s σ H _ _ v u Q I rx ry ⟨l, k, xs, rfl, rfl, hT, hne, by omega, h2, hz, q2 (by omega)⟩
end ZX

namespace ZX
open PySem PySem.Spec PyProof.Rows L2
/-! text[::-1]: some text, no longer -/
def tRevS (te : TE) : TE := fun σ H Q => te σ H fun x H1 => ∃ z : Str, x = .str z ∧ z.length ≤ sizeLine ∧ ∀ y : Str, y.length ≤ z.length → Q (.str y) H1
theorem fm_len {α β : Type} (f : α → Option β) : ∀ l : List α, (l.filterMap f).length ≤ l.length
  | [] => Nat.le_refl _
  | a :: l => by
    rw [List.filterMap_cons]
    cases f a with
    | none => exact Nat.le_succ_of_le (fm_len f l)
    | some b => exact Nat.succ_le_succ (fm_len f l)
theorem pe_revS {X : Cx} {e : Expr} {te : TE} {k : Nat} {p1 p2 p3 pos : Pos} (he : PE X e te) : PE X (.Subscript e (.Slice none none (some (.UnaryOp .USub (.Constant (.int 1) k p1) p2)) p3) pos) (tRevS te) := by
  refine ⟨fun pins s σ H Q I h => ?_⟩
  refine Subscript_ (thn (he.run pins s σ H _ I h) fun v s1 ⟨x, H1, I1, r1, q1⟩ => ?_)
  obtain ⟨z, rfl, hz, q⟩ := q1
  obtain ⟨t, rfl⟩ := r1
  have hst : PO X (some (.UnaryOp .USub (.Constant (.int 1) k p1) p2)) (tPart (tUn (rU fun i => .int (-i)) (tC (.int 1)))) := po_some (pe_un un_neg pe_int)
  refine wpAny_Slice (thn (po_none.run pins s1 σ H1 (fun o H2 => o = none ∧ H2 = H1) I1 ⟨rfl, rfl⟩) fun vl s2 ⟨l, H2, I2, pl, el, e2⟩ => ?_)
  subst el e2
  refine thn (po_none.run pins s2 σ H2 (fun o H3 => o = none ∧ H3 = H2) I2 ⟨rfl, rfl⟩) fun vu s3 ⟨u, H3, I3, pu, eu, e3⟩ => ?_
  subst eu e3
  refine thn (hst.run pins s3 σ H3 (fun o H4 => o = some (-1) ∧ H4 = H3) I3 ⟨1, rfl, -1, rfl, rfl, rfl⟩) fun vs s4 ⟨o, H4, I4, ps, eo, e4⟩ => ?_
  subst eo e4
  have I5 : Inv X pins σ H4 { s4 with heap := s4.heap.push { cls := .type "slice", data := .fields #[vl, vu, vs] } } := I4.kept (t' := s4.toks) fun b ob q => Heap.get?_push_of_some _ q
  obtain ⟨l', rfl, hl'⟩ := IsPart.raw pl
  obtain ⟨u', rfl, hu'⟩ := IsPart.raw pu
  obtain ⟨w', rfl, hw'⟩ := IsPart.raw ps
  show wpAny (model X.prog X.w) X.A (subscriptTail e (.Slice none none (some (.UnaryOp .USub (.Constant (.int 1) k p1) p2)) p3) (.str z t) (.ref s4.heap.objs.size)) (EP X pins σ Q) X.xe { s4 with heap := s4.heap.push { cls := .type "slice", data := .fields #[partValue l', partValue u', partValue w'] } }
  refine tail_any (ops := [.str z t, .ref s4.heap.objs.size]) (typeIs_str _ _ _) F.slot_str_getitem.lookup ?_ (by with_unfolding_all rfl)
  have h1 : (w'.map (·.1)).getD 1 = -1 := by rw [hw']; rfl
  refine wpAny_getItem_str_slice (l := l') (u := u') (st := w') ⟨_, Heap.get?_push_size _ rfl, rfl, rfl⟩ (by rw [h1]; rfl) ?_
  unfold sliceMade
  rw [if_neg (by rw [h1]; simp)]
  have hlen : (((slicePicked z l' u' w').filterMap (z.cps[·]?)).toArray).size ≤ z.length := by
    rw [List.size_toArray]
    refine Nat.le_trans (fm_len _ _) ?_
    unfold slicePicked
    rw [h1, hl', hu']
    exact sliceRange_length_le _ _ _ _ (fun h => absurd h (by decide)) fun _ => ⟨by simp, by simp⟩
  exact ⟨Nat.le_trans hlen hz, .str _, H4, I5.tok _, ⟨_, rfl⟩, q _ hlen⟩
end ZX

namespace DL
open PySem PySem.Spec PyProof.Rows L2 ZX
section
variable {K : PySem.W.Frag} {S : MS} {te ta tb : TE} {δ : List SD} {k k' : Nat} {Φ Ψ : SD → Prop} {d : PyData}
/-! ### isinstance -/
theorem e_isi {n : String} {r : Bool} (h : Dt K S te δ (.dat d)) (hk : kitB (tyD d) n = some r) : Dt K S (tCB (rIsi K) (tCons te (tCons (tC (.ty n)) tNil))) δ (.b r) := fun q σ G H hq w Q hQ => h q σ G H hq w _ fun v s G2 H2 m w2 hv hs => by
  subst hs
  exact ⟨v, .ty n, _, _, r, rfl, .ty n, tyX (show DD K G2 v d from hv) w2.sub, kit_ty hk, hQ _ (.b r) G2 H2 m w2 (DD.bl r) rfl⟩
theorem e_isiT {n1 n2 : String} {r1 r2 : Bool} (h : Dt K S te δ (.dat d)) (h1 : kitB (tyD d) n1 = some r1) (h2 : kitB (tyD d) n2 = some r2) :
    Dt K S (tCB (rIsiT K) (tCons te (tCons (tTup (tCons (tC (.ty n1)) (tCons (tC (.ty n2)) tNil))) tNil))) δ (.b (r1 || r2)) := fun q σ G H hq w Q hQ => h q σ G H hq w _ fun v s G2 H2 m w2 hv hs => by
  subst hs
  refine ⟨by show 2 ≤ sizeLine; decide, fun p np => ?_⟩
  have nG : G2 p = none := by
    cases e : G2 p with
    | none => rfl
    | some o =>
      rw [w2.sub p o e] at np
      cases np
  have nM : ¬ S.M p := fun z => by
    obtain ⟨o, e⟩ := S.dom w2.inv z
    rw [e] at np
    cases np
  have w3 := Wd.loc (o := .tup [V.ty n1, V.ty n2]) w2 nG nM
  refine ⟨v, p, [.ty n1, .ty n2], _, [.type n1, .type n2], r1 || r2, rfl, upd_same, .cons (.ty n1) (.cons (.ty n2) .nil), tyX (show DD K G2 v d from hv) w3.sub, ?_, hQ _ (.b _) G2 _ (m.trans (w2.refl.loc np nG)) w3 (DD.bl _) rfl⟩
  refine kitAny_cons (kit_ty h1) (fun e => ?_) fun e => by rw [e]; rfl
  subst e
  refine kitAny_cons (r := false || r2) (kit_ty h2) (fun e => ?_) fun e => by rw [e]; rfl
  subst e
  rfl
def isI : PyData → Bool
  | .int _ => true
  | .bool _ => true
  | _ => false
def isB : PyData → Bool
  | .bool _ => true
  | _ => false
def isT : PyData → Bool
  | .tuple _ => true
  | _ => false
def isL : PyData → Bool
  | .list _ => true
  | _ => false
def isS : PyData → Bool
  | .str _ => true
  | _ => false
theorem kb_int : ∀ d : PyData, kitB (tyD d) "int" = some (isI d)
  | .none  => show kitB "NoneType" "int" = some false by decide +kernel
  | .bool _ => show kitB "bool" "int" = some true by decide +kernel
  | .int _ => show kitB "int" "int" = some true by decide +kernel
  | .str _ => show kitB "str" "int" = some false by decide +kernel
  | .list _ => show kitB "list" "int" = some false by decide +kernel
  | .tuple _ => show kitB "tuple" "int" = some false by decide +kernel
  | .dict _ => show kitB "dict" "int" = some false by decide +kernel
theorem kb_bool : ∀ d : PyData, kitB (tyD d) "bool" = some (isB d)
  | .none  => show kitB "NoneType" "bool" = some false by decide +kernel
  | .bool _ => show kitB "bool" "bool" = some true by decide +kernel
  | .int _ => show kitB "int" "bool" = some false by decide +kernel
  | .str _ => show kitB "str" "bool" = some false by decide +kernel
  | .list _ => show kitB "list" "bool" = some false by decide +kernel
  | .tuple _ => show kitB "tuple" "bool" = some false by decide +kernel
  | .dict _ => show kitB "dict" "bool" = some false by decide +kernel
theorem kb_tup : ∀ d : PyData, kitB (tyD d) "tuple" = some (isT d)
  | .none  => show kitB "NoneType" "tuple" = some false by decide +kernel
  | .bool _ => show kitB "bool" "tuple" = some false by decide +kernel
  | .int _ => show kitB "int" "tuple" = some false by decide +kernel
  | .str _ => show kitB "str" "tuple" = some false by decide +kernel
  | .list _ => show kitB "list" "tuple" = some false by decide +kernel
  | .tuple _ => show kitB "tuple" "tuple" = some true by decide +kernel
  | .dict _ => show kitB "dict" "tuple" = some false by decide +kernel
theorem kb_list : ∀ d : PyData, kitB (tyD d) "list" = some (isL d)
  | .none  => show kitB "NoneType" "list" = some false by decide +kernel
  | .bool _ => show kitB "bool" "list" = some false by decide +kernel
  | .int _ => show kitB "int" "list" = some false by decide +kernel
  | .str _ => show kitB "str" "list" = some false by decide +kernel
  | .list _ => show kitB "list" "list" = some true by decide +kernel
  | .tuple _ => show kitB "tuple" "list" = some false by decide +kernel
  | .dict _ => show kitB "dict" "list" = some false by decide +kernel
theorem kb_str : ∀ d : PyData, kitB (tyD d) "str" = some (isS d)
  | .none  => show kitB "NoneType" "str" = some false by decide +kernel
  | .bool _ => show kitB "bool" "str" = some false by decide +kernel
  | .int _ => show kitB "int" "str" = some false by decide +kernel
  | .str _ => show kitB "str" "str" = some true by decide +kernel
  | .list _ => show kitB "list" "str" = some false by decide +kernel
  | .tuple _ => show kitB "tuple" "str" = some false by decide +kernel
  | .dict _ => show kitB "dict" "str" = some false by decide +kernel
/-! ### is None -/
theorem rv_isN {s : SD} {dd : PyData} : RV K (fun x y H Q => y = .non ∧ Q (.bl (decide (x = .non))) H) (.dat dd) (.dat .none) (fun z => z = .b (match dd with | .none => true | _ => false)) := fun x y G H hx hy hs Q hQ => by
  cases hy
  refine ⟨rfl, hQ _ (.b _) G H (Mv.refl hs) ?_ rfl⟩
  cases hx <;> exact DD.bl _
/-! ### defs without an effect -/
def spP (K : PySem.W.Frag) (P : List PyData → PyData → Prop) : Sp := fun vs H Q _ => ∃ G ds d, (∀ a o, G a = some o → H a = some o) ∧ DDs K G vs ds ∧ P ds d ∧ ∀ v G2 H2, Mv (fun _ => False) G H G2 H2 → DD K G2 v d → Q v H2
theorem dats_map : ∀ ds : List PyData, dats (ds.map SD.dat) ds
  | [] => trivial
  | _ :: l => ⟨rfl, dats_map l⟩
theorem e_call {P : List PyData → PyData → Prop} {t : TA} {Φ : List SD → Prop} {E : XK} (ha : EvA K S t δ k Φ) (h : ∀ ss, Φ ss → ∃ ds d, dats ss ds ∧ P ds d ∧ Ψ (.dat d)) : Ev K S (tCall (spP K P) [] E t) δ k Ψ :=
  fun r σ G H q w Q hQ => ha r σ G H q w _ fun vs ss G2 H2 m w2 hv hs => by
    obtain ⟨ds, d, hd, hp, hy⟩ := h ss hs
    rw [List.append_nil]
    exact ⟨G2, ds, d, w2.sub, dats_dd hv hd, hp, fun v G3 H3 m3 dv => hQ v (.dat d) G3 H3 (m.trans (m3.weak fun _ f => f.elim)) (w2.pure m3) dv hy⟩
theorem d_call {P : List PyData → PyData → Prop} {t : TA} {ds : List PyData} {E : XK} (ha : EvA K S t δ 0 (fun l => l = ds.map SD.dat)) (h : P ds d) : Dt K S (tCall (spP K P) [] E t) δ (.dat d) :=
  e_call ha fun ss e => ⟨ds, d, e ▸ dats_map ds, h, rfl⟩
theorem VDs.len {G : Hp} : ∀ {vs : List V} {ss : List SD}, VDs K G vs ss → vs.length = ss.length
  | _, _, .nil => rfl
  | _, _, .cons _ b => congrArg Nat.succ (VDs.len b)
theorem dats_len : ∀ {ss : List SD} {ds : List PyData}, dats ss ds → ss.length = ds.length
  | [], [], _ => rfl
  | .dat _ :: r, _ :: l, h => congrArg Nat.succ (dats_len h.2)
  | [], _ :: _, h => h.elim
  | .dat _ :: _, [], h => h.elim
  | .unk :: _, [], h => h.elim
  | .unk :: _, _ :: _, h => h.elim
  | .ref _ :: _, [], h => h.elim
  | .ref _ :: _, _ :: _, h => h.elim
/-- with keywords: gV puts positional and keyword values in order, gD the same of data -/
theorem d_callN {P : List PyData → PyData → Prop} {t tk : TA} {ds es : List PyData} {E : XK} {gV : List V → List V → List V} {gD : List PyData} (ha : EvA K S t δ 0 (fun l => l = ds.map SD.dat)) (hk : EvA K S tk δ 0 (fun l => l = es.map SD.dat))
    (hg : ∀ G vs us, DDs K G vs ds → DDs K G us es → DDs K G (gV vs us) gD) (h : P gD d) : Dt K S (tCallN ds.length es.length (spP K P) gV E t tk) δ (.dat d) :=
  fun r σ G H q w Q hQ => ha r σ G H q w _ fun vs ss G2 H2 m w2 hv hs => hk r σ G2 H2 (q.mono m.gr) w2 _ fun us s2 G3 H3 m3 w3 hu hs2 => by
    subst hs hs2
    have d1 := dats_dd (hv.mono m3.gr) (dats_map ds)
    have d2 := dats_dd hu (dats_map es)
    exact ⟨d1.len, d2.len, G3, gD, d, w3.sub, hg G3 _ _ d1 d2, h, fun v G4 H4 m4 dv => hQ v (.dat d) G4 H4 ((m.trans m3).trans (m4.weak fun _ f => f.elim)) (w3.pure m4) dv rfl⟩
/-! ### zip -/
def zipD (ds es : List PyData) : List PyData := List.zipWith (fun a b => .tuple [a, b]) ds es
def IsSeq (d : PyData) (ds : List PyData) : Prop := d = .list ds ∨ d = .tuple ds
theorem sqX_of {G H : Hp} {v : V} {ds : List PyData} (h : DD K G v d) (hs : IsSeq d ds) : ∃ c a xs, v = .ref a ∧ DDs K G xs ds ∧ ∀ H : Hp, (∀ a o, G a = some o → H a = some o) → SqX K c H a xs := by
  rcases hs with rfl | rfl
  · cases h with
    | @lst a xs _ hl t => exact ⟨false, a, xs, rfl, t, fun H hs => .inl (.inl (hs _ _ hl))⟩
  · cases h with
    | @tup a xs _ hl t => exact ⟨true, a, xs, rfl, t, fun H hs => .inl (.inl (hs _ _ hl))⟩
theorem i_zip {t : TA} {d1 d2 : PyData} {ds es : List PyData} (ha : EvA K S t δ 0 (fun l => l = [.dat d1, .dat d2])) (h1 : IsSeq d1 ds) (h2 : IsSeq d2 es) : EvI K S (iZipX K t) δ 0 (zipD ds es) := fun r σ G H q w R hR => ha r σ G H q w _ fun vs ss G2 H2 m w2 hv hs => by
  subst hs
  obtain ⟨v, u, rfl, hx, hy⟩ := vds2 hv
  obtain ⟨c, a, xs, rfl, t1, q1⟩ := sqX_of (H := H2) (show DD K G2 v d1 from hx) h1
  obtain ⟨e, b, ys, rfl, t2, q2⟩ := sqX_of (H := H2) (show DD K G2 u d2 from hy) h2
  refine ⟨c, e, a, b, xs, ys, rfl, q1 H2 w2.sub, q2 H2 w2.sub, hR _ G2 H2 m w2 ⟨fun H => SqX K c H a xs ∧ SqX K e H b ys, _, walkX (by rw [t1.len, t2.len]; simp [zipD]), fun G3 H3 m3 => ⟨q1 H3 fun a o z => m3.sub _ _ (m3.gr _ _ z), q2 H3 fun a o z => m3.sub _ _ (m3.gr _ _ z)⟩, fun i d' n G3 H3 x H4 hd m3 w3 y => ?_⟩⟩
  obtain ⟨T, x1, x2, rfl, nT, rfl, e1, e2⟩ := y
  obtain ⟨f1, g1, k1⟩ := t1.get e1
  obtain ⟨f2, g2, k2⟩ := t2.get e2
  have ed : d' = .tuple [f1, f2] := by
    unfold zipD at hd
    rw [List.getElem?_zipWith, g1, g2] at hd
    exact (Option.some.inj hd).symm
  subst ed
  have mm : Mv S.M G3 H3 (upd G3 T (.tup [x1, x2])) (upd H3 T (.tup [x1, x2])) := Mv.new w3.sub nT
  exact ⟨_, mm, w3.new nT, DD.tup upd_same (.cons (k1.mono fun a o z => mm.gr _ _ (m3.gr _ _ z)) (.cons (k2.mono fun a o z => mm.gr _ _ (m3.gr _ _ z)) .nil))⟩
end
/-! ## from a body to a promise -/
def startD (N : List Str) (ds : List PyData) : List SD := ds.map SD.dat ++ List.replicate (N.length - ds.length) SD.unk
theorem start_slots {K : PySem.W.Frag} {G : Hp} {N : List Str} {ds : List PyData} {vs : List V} (h : DDs K G vs ds) : SlD K G (L2.start N vs) (startD N ds) := by
  have e := h.len
  refine ⟨by simp [L2.start, startD, e], fun i s hs => ?_⟩
  by_cases hi : i < ds.length
  · unfold startD at hs
    rw [List.getElem?_append_left (by simpa using hi), List.getElem?_map] at hs
    obtain ⟨d, hd, rfl⟩ := Option.map_eq_some_iff.mp hs
    obtain ⟨v, hv, dv⟩ := h.got hd
    refine .inr ⟨v, ?_, dv⟩
    unfold L2.start
    rw [List.getElem?_append_left (by rw [List.length_map]; omega), List.getElem?_map, hv]
    rfl
  · unfold startD at hs
    rw [List.getElem?_append_right (by simpa using Nat.not_lt.mp hi)] at hs
    rw [List.getElem?_replicate] at hs
    split at hs
    · exact .inl (Option.some.inj hs).symm
    · cases hs
theorem wd_pu {G H : Hp} (h : ∀ a o, G a = some o → H a = some o) : Wd pu 0 G H := ⟨h, fun _ z => z.elim, trivial⟩
section
variable {P : Program} {w : World} {K : PySem.W.Frag} {mg : Str → Option Value} {base : Heap}
theorem fn_pure {x qual : Str} {st : Stmt} {f : Addr} {fd : FuncData} {N ps : List Str} {k : Nat} {R : List PyData → PyData → Prop} (F : Fun K x qual st f fd) (Sc : FnScope N ps (defScope st)) (len : ∀ ds d, R ds d → ds.length = ps.length)
    (body : ∀ (cdv : Value) (A : Around) (outer : List Env) (s : Shared) (H : Hp) (E : XK), Room k (A.deeper (envOfC qual (defScope st) s.heap.objs.size f cdv)) →
      ∃ t, PSs (cxOf CX0 P w K mg base N qual (defScope st) f cdv A outer s H E).nox (defBody st) t ∧ ∀ ds d, R ds d → EvS K pu t (startD N ds) 0 { rt := fun z => z = .dat d }) : FnOk P w K mg base CX0 (k + 1) f fd ps (spP K R) := by
  refine F.ok Sc (fun vs H Q E h => ?_) (fun cdv A outer s H vs Q E hr h => ?_)
  · obtain ⟨G, ds, d, _, dd, hp, _⟩ := h
    rw [dd.len]
    exact len ds d hp
  · obtain ⟨G, ds, d, hs, dd, hp, q⟩ := h
    obtain ⟨t, ht, hb⟩ := body cdv A outer s H E hr
    refine ⟨t, ht, hb ds d hp 0 _ G H (start_slots dd) (wd_pu hs) _ (fun _ _ _ _ _ _ _ z => z.elim) (fun v z G2 H2 m _ hv hz => ?_) (fun _ _ _ _ _ _ _ z => z.elim) (fun _ _ _ _ _ _ _ z => z.elim)⟩
    subst hz
    exact q v G2 H2 m hv
end
/-! ## calls by keywords alone -/
section
variable {X : Cx} {CX : CXT} {k n : Nat} {f : Addr} {fd : FuncData} {ps ks : List Str} {sp : Sp} {E : XK} {x : Str} {p pos : Pos} {kws : List Keyword} {tk : TA} {g : List Value → List Value → List Value} {gV : List V → List V → List V}
theorem pe_callN0 (F : FnOk X.prog X.w X.K X.mg X.base CX k f fd ps sp) (hr : Room k X.A) (hg : Gl X x) (hm : X.mg x = some (.ref f)) (hk : PySem.W.keepIn X.K (.ref f) = true) (hb : KBn X.K fd ps 0 ks g gV) (hx : Passes CX X E)
    (hkw : PK X kws tk) (hall : (backToKw pos (keywordEach kws X.env)).all (·.1.isSome) = true := by rfl) (hks : (backToKw pos (keywordEach kws X.env)).filterMap (·.1) = ks := by rfl)
    (hdb : (x == ("__debug__" : Str)) = false := by decide) (hpl : ((backTo pos (starEach [] X.env)).any (·.1) || (backToKw pos (keywordEach kws X.env)).any (·.1.isNone)) = false := by rfl) :
    PE X (.Call (.Name x p) [] kws pos) (tCallN 0 ks.length sp gV E tNil tk) := by
  refine ⟨fun pins s σ H Q I h => ?_⟩
  refine wpAny_Call_Name_kw (ld_glob I hg hm ?_ hdb)
  refine PySem.W.callWith_KW0 (h₀ := X.base) I.ok.mod.kin hk hall (thn (hkw.run pos pins s σ H _ I h) fun ws s2 ⟨zs, H2, I2, rz, l1, l2, q2⟩ => ⟨I2.kIn, ?_⟩) hpl
  rw [hks]
  exact run_fnN (us := []) F hr hb hx I2 .nil rz l1 l2 q2
end
section
variable {K : PySem.W.Frag}
theorem kb_of {x qual : Str} {st : Stmt} {f : Addr} {fd : FuncData} {ps ks : List Str} {n : Nat} {g : List Value → List Value → List Value} {gV : List V → List V → List V} (F : Fun K x qual st f fd)
    (h : ∀ (kV doc pm : Value) (an : Option Addr) (cdv ct : Value) (us ws : List Value), us.length = n → ws.length = ks.length → bindArgs (PySem.W.fnOf x qual (defArgs st) (defBody st) (defScope st) .none kV doc pm an cdv ct) ⟨us, ks.zip ws⟩ = pure (ps.zip (g us ws)))
    (hr : ∀ {vs : List V} {us : List Value} {zs : List V} {ws : List Value}, Vals vs us → Vals zs ws → Vals (gV vs zs) (g us ws)) : KBn K fd ps n ks g gV := by
  obtain ⟨oc, od, kV, doc, pm, an, cdv, ct, osl, rfl, lk, hcd⟩ := F.ex
  exact ⟨fun s us ws _ l1 l2 => .of_eq (h kV doc pm an cdv ct us ws l1 l2), hr⟩
end
end DL

namespace DL
open PySem PySem.Spec PyProof.Rows L2 ZX
/-! ## a def that may be called by its name -/
structure Cl (P : Program) (w : World) (K : PySem.W.Frag) (mg : Str → Option Value) (base : Heap) (k : Nat) (x : Str) (st : Stmt) (ps : List Str) (sp : Sp) : Prop where
  ex : ∃ (f : Addr) (fd : FuncData), Fun K x x st f fd ∧ FnOk P w K mg base CX0 k f fd ps sp ∧ mg x = some (.ref f) ∧ Binds K fd ps []
section
variable {X : Cx} {k j n : Nat} {x : Str} {st : Stmt} {ps ks : List Str} {sp : Sp} {p pos : Pos} {e : Expr} {es : List Expr} {kws : List Keyword} {t tk : TA} {g : List Value → List Value → List Value} {gV : List V → List V → List V}
theorem pe_cl (c : Cl X.prog X.w X.K X.mg X.base k x st ps sp) (hr : Room j X.A) (hk : k ≤ j) (hg : Gl X x) (ha : PA X (e :: es) t)
    (hdb : (x == ("__debug__" : Str)) = false := by decide) (he : starEach (e :: es) X.env = (false, eval e X.env) :: starEach es X.env := by rfl) (hpl : (backTo pos (starEach es X.env)).any (·.1) = false := by rfl) :
    PE X (.Call (.Name x p) (e :: es) [] pos) (tCall sp [] E0 t) := by
  obtain ⟨f, fd, F, G, hm, b⟩ := c.ex
  exact pe_call G (hr.mono hk) hg hm F.kp b .nil pass0 ha hdb he hpl
theorem pe_clk (c : Cl X.prog X.w X.K X.mg X.base k x st ps sp) (hr : Room j X.A) (hk : k ≤ j) (hg : Gl X x) (hb : ∀ f fd, Fun X.K x x st f fd → KBn X.K fd ps n ks g gV) (ha : PA X (e :: es) t) (hkw : PK X kws tk)
    (hall : (backToKw pos (keywordEach kws X.env)).all (·.1.isSome) = true := by rfl) (hks : (backToKw pos (keywordEach kws X.env)).filterMap (·.1) = ks := by rfl)
    (hdb : (x == ("__debug__" : Str)) = false := by decide) (he : starEach (e :: es) X.env = (false, eval e X.env) :: starEach es X.env := by rfl)
    (hpl : ((backTo pos (starEach (e :: es) X.env)).any (·.1) || (backToKw pos (keywordEach kws X.env)).any (·.1.isNone)) = false := by rfl) :
    PE X (.Call (.Name x p) (e :: es) kws pos) (tCallN n ks.length sp gV E0 t tk) := by
  obtain ⟨f, fd, F, G, hm, b⟩ := c.ex
  exact pe_callN G (hr.mono hk) hg hm F.kp (hb f fd F) pass0 ha hkw hall hks hdb he hpl
theorem pe_clk0 (c : Cl X.prog X.w X.K X.mg X.base k x st ps sp) (hr : Room j X.A) (hk : k ≤ j) (hg : Gl X x) (hb : ∀ f fd, Fun X.K x x st f fd → KBn X.K fd ps 0 ks g gV) (hkw : PK X kws tk)
    (hall : (backToKw pos (keywordEach kws X.env)).all (·.1.isSome) = true := by rfl) (hks : (backToKw pos (keywordEach kws X.env)).filterMap (·.1) = ks := by rfl)
    (hdb : (x == ("__debug__" : Str)) = false := by decide) (hpl : ((backTo pos (starEach [] X.env)).any (·.1) || (backToKw pos (keywordEach kws X.env)).any (·.1.isNone)) = false := by rfl) :
    PE X (.Call (.Name x p) [] kws pos) (tCallN 0 ks.length sp gV E0 tNil tk) := by
  obtain ⟨f, fd, F, G, hm, b⟩ := c.ex
  exact pe_callN0 G (hr.mono hk) hg hm F.kp (hb f fd F) pass0 hkw hall hks hdb hpl
end
section
variable {K : PySem.W.Frag} {S : MS} {δ : List SD} {k : Nat}
/-- all([..]) -/
theorem e_all {te : TE} {its : List PyData} {g : PyData → Bool} (h : Dt K S te δ (.dat (.list (its.map fun d => .bool (g d))))) : Dt K S (tCB (rAll K) (tCons te tNil)) δ (.b (its.all g)) := by
  have e : its.map (fun d => PyData.bool (g d)) = (its.map g).map PyData.bool := by rw [List.map_map]; rfl
  rw [e] at h
  refine (d_cb (da_cons h a_nil) rc_all).mono fun s hs => ?_
  rw [hs, List.all_map]
  rfl
theorem e_chain {r r' : R2} {ta tb tc : TE} {s1 s2 s3 : SD} {c d : Bool} (h1 : Dt K S ta δ s1) (h2 : Dt K S tb δ s2) (hr : RV K r s1 s2 (fun z => z = .b c)) (h3 : c = true → Dt K S tc δ s3) (hr' : c = true → RV K r' s2 s3 (fun z => z = .b d)) : Dt K S (tChain r r' ta tb tc) δ (.b (c && d)) :=
  fun q σ G H hq w Q hQ => h1 q σ G H hq w _ fun v s G2 H2 m2 w2 hv hs => h2 q σ G2 H2 (hq.mono m2.gr) w2 _ fun u s' G3 H3 m3 w3 hu hs' => by
    subst hs hs'
    refine hr v u G3 H3 (hv.mono m3.gr) hu w3.sub _ fun y z G4 H4 m4 hy hz => ?_
    subst hz
    cases hy
    have w4 := w3.pure m4
    have m04 := (m2.trans m3).trans (m4.weak (M' := S.M) fun _ f => f.elim)
    refine ⟨c, rfl, ?_⟩
    cases c with
    | false => exact iteF (hQ _ (.b false) G4 H4 m04 w4 (DD.bl _) rfl)
    | true =>
      refine iteT (h3 rfl q σ G4 H4 (hq.mono m04.gr) w4 _ fun x5 s5 G5 H5 m5 w5 h5 e5 => ?_)
      subst e5
      refine hr' rfl u x5 G5 H5 ((hu.mono m4.gr).mono m5.gr) h5 w5.sub Q fun y6 z6 G6 H6 m6 h6 e6 => ?_
      exact hQ y6 z6 G6 H6 ((m04.trans m5).trans (m6.weak fun _ f => f.elim)) (w5.pure m6) h6 e6
theorem e_repX {ta tb : TE} {ds : List PyData} {n : Int} (h1 : Dt K S ta δ (.dat (.tuple ds))) (h2 : Dt K S tb δ (.i n)) (hn : ds ≠ []) (h : 1 ≤ n ∧ n ≤ 1000) (hl : ds.length ≤ 1000) : Dt K S (tOp (rRepX K) ta tb) δ (.dat (.tuple (List.replicate n.toNat ds).flatten)) :=
  d_op h1 h2 fun x y G H hx hy hs Q hQ => by
    cases hy
    cases hx with
    | @tup a xs _ hh t =>
      have rep : ∀ m : Nat, DDs K G (List.replicate m xs).flatten (List.replicate m ds).flatten := fun m => by
        induction m with
        | zero => exact .nil
        | succ m ih =>
          rw [List.replicate_succ, List.replicate_succ, List.flatten_cons, List.flatten_cons]
          exact t.append ih
      refine ⟨a, n, xs, rfl, rfl, .inl (.inl (hs _ _ hh)), fun z => ?_, h.1, h.2, by rw [t.len]; exact hl, fun e => ?_, fun _ p np => hQ _ (.dat (.tuple _)) _ _ (Mv.new hs np) (DD.tup upd_same ((rep _).mono (Mv.new (M := fun _ => False) hs np).gr)) rfl⟩
      · subst z
        exact hn (List.eq_nil_of_length_eq_zero t.len.symm)
      · subst e
        refine hQ _ (.dat (.tuple ds)) G H (Mv.refl hs) (DD.tup hh t) ?_
        show _ = SD.dat (.tuple (ds ++ []))
        rw [List.append_nil]
theorem e_rep {ta tb : TE} {ds : List PyData} {n : Int} (h1 : Dt K S ta δ (.dat (.list ds))) (h2 : Dt K S tb δ (.i n)) (h : 0 ≤ n ∧ n ≤ 1000) (hl : ds.length ≤ 1000) : Dt K S (tOp rRep ta tb) δ (.dat (.list (List.replicate n.toNat ds).flatten)) :=
  d_op h1 h2 fun x y G H hx hy hs Q hQ => by
    cases hy
    cases hx with
    | @lst a xs _ hh t =>
      have rep : ∀ m : Nat, DDs K G (List.replicate m xs).flatten (List.replicate m ds).flatten := fun m => by
        induction m with
        | zero => exact .nil
        | succ m ih =>
          rw [List.replicate_succ, List.replicate_succ, List.flatten_cons, List.flatten_cons]
          exact t.append ih
      refine ⟨a, n, xs, rfl, rfl, hs _ _ hh, by omega, by omega, ?_, fun p np => hQ _ (.dat (.list _)) _ _ (Mv.new hs np) (DD.lst upd_same ((rep _).mono (Mv.new (M := fun _ => False) hs np).gr)) rfl⟩
      rw [t.len]
      exact Nat.le_trans (Nat.mul_le_mul hl (show n.toNat ≤ 1000 by omega)) (by decide)
end
/-! x == () -/
def rEqE (K : PySem.W.Frag) : R2 := fun x y H Q => ∃ a b xs, x = .ref a ∧ y = .ref b ∧ SqT K H a xs ∧ SqT K H b [] ∧ Q (.bl xs.isEmpty) H
theorem op_eqE {X : Cx} (hu : X.A.units + 64 < cLine) : OpR X (compareOp .Eq) (rEqE X.K) := by
  intro pins s σ H x y v u Q I rx ry h
  obtain ⟨a, b, xs, rfl, rfl, h1, h2, q⟩ := h
  cases rx
  cases ry
  obtain ⟨its, r, p, _⟩ := I.tuple h1
  obtain ⟨jts, r2, p2, _⟩ := I.tuple h2
  cases r2
  refine SeqAt.eq_tupleAt (e := fun _ => true) p p2 (by omega) (fun j h1 h2 => absurd h2 (by simp)) ⟨.bl xs.isEmpty, H, I, ?_, q⟩
  have e := r.length
  show Value.bool _ = Value.bool xs.isEmpty
  congr 1
  cases its with
  | nil =>
    cases xs with
    | nil => rfl
    | cons c l => cases e
  | cons i l =>
    cases xs with
    | nil => cases e
    | cons c m => simp
theorem e_eqE {K : PySem.W.Frag} {S : MS} {δ : List SD} {ta tb : TE} {ds : List PyData} (h1 : Dt K S ta δ (.dat (.tuple ds))) (h2 : Dt K S tb δ (.dat (.tuple []))) : Dt K S (tOp (rEqE K) ta tb) δ (.b ds.isEmpty) :=
  d_op h1 h2 fun x y G H hx hy hs Q hQ => by
    cases hx with
    | @tup a xs _ hh t =>
      cases hy with
      | @tup b ys _ hh2 t2 =>
        cases t2
        refine ⟨a, b, xs, rfl, rfl, .inl (.inl (hs _ _ hh)), .inl (.inl (hs _ _ hh2)), hQ _ (.b ds.isEmpty) G H (Mv.refl hs) ?_ rfl⟩
        have e : xs.isEmpty = ds.isEmpty := by
          have := t.len
          cases xs with
          | nil =>
            cases ds with
            | nil => rfl
            | cons c l => cases this
          | cons c l =>
            cases ds with
            | nil => cases this
            | cons c m => rfl
        rw [e]
        exact DD.bl _
/-! ## the box that draws -/
def bx (b : Addr) : MS where
  M := fun a => a = b
  inv := fun r H => ∃ c0 c1 c2 : Int, H b = some (.lst [.int c0, .int c1, .int c2]) ∧ 0 ≤ c0 ∧ 0 ≤ c1 ∧ c1 < 2 ^ 33 ∧ 0 ≤ c2 ∧ c2 + r ≤ 2 ^ 40
  dom := fun ⟨_, _, _, h, _⟩ e => by
    subst e
    exact ⟨_, h⟩
  fr := fun ⟨c0, c1, c2, h, q⟩ k => ⟨c0, c1, c2, k _ _ rfl h, q⟩
  dn := fun ⟨c0, c1, c2, h, a, b, c, d, e⟩ => ⟨c0, c1, c2, h, a, b, c, d, by omega⟩
/-- a def whose first argument is a box: P ds c Φ: with ds beside it, c draws at most, something of Φ -/
def spB (K : PySem.W.Frag) (P : List PyData → Nat → (PyData → Prop) → Prop) : Sp := fun vs H Q _ => ∃ b vs' G ds r c Φ, vs = .ref b :: vs' ∧ DDs K G vs' ds ∧ Wd (bx b) (r + c) G H ∧ P ds c Φ ∧ ∀ v d G2 H2, Mv (bx b).M G H G2 H2 → Wd (bx b) r G2 H2 → DD K G2 v d → Φ d → Q v H2
section
variable {K : PySem.W.Frag} {b : Addr} {δ : List SD} {k c : Nat} {Ψ : SD → Prop}
theorem e_callB {P : List PyData → Nat → (PyData → Prop) → Prop} {t : TA} {Φ : List SD → Prop} {E : XK} {i : Nat} (hi : δ[i]? = some (.ref b)) (ha : EvA K (bx b) t δ k Φ) (h : ∀ ss, Φ ss → ∃ ds Φ', dats ss ds ∧ P ds c Φ' ∧ ∀ d, Φ' d → Ψ (.dat d)) :
    Ev K (bx b) (tCall (spB K P) [] E (tCons (tVar i) t)) δ (k + c) Ψ := fun r σ G H q w Q hQ => by
  rcases q.2 i _ hi with z | ⟨v, e, hv⟩
  · cases z
  · cases (show v = V.ref b from hv)
    refine ⟨_, e, ha (r + c) σ G H q (w.eq (by omega)) _ fun vs ss G2 H2 m w2 hvs hs => ?_⟩
    obtain ⟨ds, Φ', hd, hp, hy⟩ := h ss hs
    rw [List.append_nil]
    exact ⟨b, vs, G2, ds, r, c, Φ', rfl, dats_dd hvs hd, w2, hp, fun v d G3 H3 m3 w3 dv hd => hQ v (.dat d) G3 H3 (m.trans m3) w3 dv (hy d hd)⟩
end
def startB (N : List Str) (b : Addr) (ds : List PyData) : List SD := .ref b :: (ds.map SD.dat ++ List.replicate (N.length - (ds.length + 1)) SD.unk)
theorem start_box {K : PySem.W.Frag} {G : Hp} {N : List Str} {b : Addr} {ds : List PyData} {vs : List V} (h : DDs K G vs ds) : SlD K G (L2.start N (.ref b :: vs)) (startB N b ds) := by
  have e := h.len
  refine ⟨by simp [L2.start, startB, e], fun i s hs => ?_⟩
  cases i with
  | zero =>
    cases hs
    exact .inr ⟨_, rfl, rfl⟩
  | succ i =>
    by_cases hi : i < ds.length
    · unfold startB at hs
      rw [List.getElem?_cons_succ, List.getElem?_append_left (by simpa using hi), List.getElem?_map] at hs
      obtain ⟨d, hd, rfl⟩ := Option.map_eq_some_iff.mp hs
      obtain ⟨v, hv, dv⟩ := h.got hd
      refine .inr ⟨v, ?_, dv⟩
      unfold L2.start
      rw [List.map_cons, List.cons_append, List.getElem?_cons_succ, List.getElem?_append_left (by rw [List.length_map]; omega), List.getElem?_map, hv]
      rfl
    · unfold startB at hs
      rw [List.getElem?_cons_succ, List.getElem?_append_right (by simpa using Nat.not_lt.mp hi), List.getElem?_replicate] at hs
      split at hs
      · exact .inl (Option.some.inj hs).symm
      · cases hs
section
variable {P : Program} {w : World} {K : PySem.W.Frag} {mg : Str → Option Value} {base : Heap}
theorem fn_box {x qual : Str} {st : Stmt} {f : Addr} {fd : FuncData} {N ps : List Str} {k : Nat} {R : List PyData → Nat → (PyData → Prop) → Prop} (F : Fun K x qual st f fd) (Sc : FnScope N ps (defScope st)) (len : ∀ ds c Φ, R ds c Φ → ds.length + 1 = ps.length)
    (body : ∀ (cdv : Value) (A : Around) (outer : List Env) (s : Shared) (H : Hp) (E : XK), Room k (A.deeper (envOfC qual (defScope st) s.heap.objs.size f cdv)) →
      ∃ t, PSs (cxOf CX0 P w K mg base N qual (defScope st) f cdv A outer s H E).nox (defBody st) t ∧ ∀ b ds c Φ, R ds c Φ → EvS K (bx b) t (startB N b ds) c { rt := fun z => ∃ d, z = .dat d ∧ Φ d }) : FnOk P w K mg base CX0 (k + 1) f fd ps (spB K R) := by
  refine F.ok Sc (fun vs H Q E h => ?_) (fun cdv A outer s H vs Q E hr h => ?_)
  · obtain ⟨b, vs', G, ds, r, c, Φ, rfl, dd, _, hp, _⟩ := h
    rw [List.length_cons, dd.len]
    exact len ds c Φ hp
  · obtain ⟨b, vs', G, ds, r, c, Φ, rfl, dd, hw, hp, q⟩ := h
    obtain ⟨t, ht, hb⟩ := body cdv A outer s H E hr
    refine ⟨t, ht, hb b ds c Φ hp r _ G H (start_box dd) hw _ (fun _ _ _ _ _ _ _ z => z.elim) (fun v z G2 H2 m w2 hv hz => ?_) (fun _ _ _ _ _ _ _ z => z.elim) (fun _ _ _ _ _ _ _ z => z.elim)⟩
    obtain ⟨d, rfl, hd⟩ := hz
    exact q v d G2 H2 m w2 hv hd
end
/-- what take promises -/
def Rtake : List PyData → Nat → (PyData → Prop) → Prop := fun ds c Φ => ∃ m : Int, ds = [.int m] ∧ 1 ≤ m ∧ m < 2 ^ 30 ∧ c = 1 ∧ Φ = fun d => ∃ i, d = .int i ∧ 0 ≤ i ∧ i < m
section
variable {K : PySem.W.Frag} {S : MS} {b : Addr} {δ : List SD} {k : Nat} {te : TE} {E : XK} {i : Nat}
theorem e_take {m : Int} (hi : δ[i]? = some (.ref b)) (h : Dt K (bx b) te δ (.i m)) (h1 : 1 ≤ m) (h2 : m < 2 ^ 30) : Ev K (bx b) (tCall (spB K Rtake) [] E (tCons (tVar i) (tCons te tNil))) δ 1 (fun s => ∃ j, s = .i j ∧ 0 ≤ j ∧ j < m) :=
  (e_callB (c := 1) hi (da_cons h a_nil) fun ss e => ⟨[.int m], _, e ▸ ⟨rfl, trivial⟩, ⟨m, rfl, h1, h2, rfl, rfl⟩, fun d ⟨j, e, h0, h1⟩ => ⟨j, by rw [e], h0, h1⟩⟩).up (by omega)
theorem e_takeE {lo hi' : Int} (hi : δ[i]? = some (.ref b)) (h : Ev K (bx b) te δ k (fun s => ∃ m, s = .i m ∧ lo ≤ m ∧ m ≤ hi')) (h1 : 1 ≤ lo) (h2 : hi' < 2 ^ 30) : Ev K (bx b) (tCall (spB K Rtake) [] E (tCons (tVar i) (tCons te tNil))) δ (k + 1) (fun s => ∃ j, s = .i j ∧ 0 ≤ j ∧ j < hi') :=
  (e_callB (c := 1) hi (a_cons (k' := 0) (Φ' := fun _ l => l = []) h fun _ _ => a_nil) fun ss ⟨s, l, e, ⟨m, em, m1, m2⟩, el⟩ => by
    subst e em el
    exact ⟨[.int m], _, ⟨rfl, trivial⟩, ⟨m, rfl, by omega, by omega, rfl, rfl⟩, fun d ⟨j, e, h0, h1⟩ => ⟨j, by rw [e], h0, by omega⟩⟩).up (by omega)
theorem s_end {t u : TS} {O : Out} (h : EvS K S t δ k { O with nx := fun _ => False }) : EvS K S (tSeq t u) δ k O := (s_seq (N := fun _ => False) (k' := 0) h fun _ z => z.elim).up (by omega)
theorem ints_of {p : Int → Prop} : ∀ {ds : List PyData}, (∀ d ∈ ds, ∃ i, d = .int i ∧ p i) → ∃ ns : List Int, ds = ns.map .int ∧ ∀ n ∈ ns, p n
  | [], _ => ⟨[], rfl, fun n h => by cases h⟩
  | d :: ds, h => by
    obtain ⟨i, rfl, hp⟩ := h d (List.mem_cons_self ..)
    obtain ⟨ns, rfl, hn⟩ := ints_of fun e he => h e (List.mem_cons_of_mem _ he)
    refine ⟨i :: ns, rfl, fun n hm => ?_⟩
    rcases List.mem_cons.mp hm with rfl | hm
    · exact hp
    · exact hn n hm
theorem idx_mem {p : PyData → Prop} {ds : List PyData} (h : ∀ (j : Nat) (d : PyData), ds[j]? = some d → p d) : ∀ d ∈ ds, p d := fun d hd => by
  obtain ⟨j, hj⟩ := List.mem_iff_getElem?.mp hd
  exact h j d hj
end
/-! the rules with K told (within a comprehension the place's own K hides it) -/
section
variable {X : Cx} {K : PySem.W.Frag}
theorem ki_isi (h : X.K = K) : CallR X (.builtin "isinstance") (rIsi K) := by
  subst h
  exact call_isi
theorem ki_isiT (h : X.K = K) : CallR X (.builtin "isinstance") (rIsiT K) := by
  subst h
  exact call_isiT
theorem ki_len (h : X.K = K) : CallR X (.builtin "len") (fun xs H Q => ∃ p ys, xs = [.ref p] ∧ (SqL K H p ys ∨ SqT K H p ys) ∧ Q (.int ys.length) H) := by
  subst h
  exact call_len_seq
theorem ki_list (h : X.K = K) : CallR X (.type "list") (fun xs H Q => ∃ p ys, xs = [.ref p] ∧ (SqL K H p ys ∨ SqT K H p ys) ∧ ∀ l, H l = none → Q (.ref l) (upd H l (.lst ys))) := by
  subst h
  exact call_list_of
theorem ki_tuple (h : X.K = K) : CallR X (.type "tuple") (fun xs H Q => ∃ p ys, xs = [.ref p] ∧ ((SqL K H p ys ∧ ∀ l, H l = none → Q (.ref l) (upd H l (.tup ys))) ∨ (SqT K H p ys ∧ Q (.ref p) H))) := by
  subst h
  exact call_tuple_of
theorem ki_all (h : X.K = K) (hc : X.calm = true) : CallR X (.builtin "all") (rAll K) := by
  subst h
  exact cr_all hc
theorem ki_ixL (h : X.K = K) : IxR X (rIxL K) := by
  subst h
  exact ix_list
theorem ki_ixT (h : X.K = K) : IxR X (rIxT K) := by
  subst h
  exact ix_tup
theorem ki_catT (h : X.K = K) : OpR X (binaryOp .Add) (rCatT K) := by
  subst h
  exact op_catT
theorem ki_repX (h : X.K = K) : OpR X (binaryOp .Mult) (rRepX K) := by
  subst h
  exact op_repX
theorem ki_eqD (h : X.K = K) (hu : X.A.units + 64 < cLine) : OpR X (compareOp .Eq) (rEqD K) := by
  subst h
  exact op_eqD hu
theorem ki_neD (h : X.K = K) (hu : X.A.units + 64 < cLine) : OpR X (compareOp .NotEq) (rNeD K) := by
  subst h
  exact op_neD hu
end
theorem d_un {K : PySem.W.Frag} {S : MS} {δ : List SD} {ta : TE} {g : Int → V} {i : Int} {d : PyData} (h : Dt K S ta δ (.i i)) (hd : ∀ G, DD K G (g i) d) : Dt K S (tUn (rU g) ta) δ (.dat d) := fun r σ G H q w Q hQ => h r σ G H q w _ fun v s G2 H2 m w2 hv hs => by
  subst hs
  cases hv
  exact ⟨i, rfl, hQ _ (.dat d) G2 H2 m w2 (hd G2) rfl⟩
theorem atI_in {α : Type} {ds : List α} {j : Int} (h0 : 0 ≤ j) (h1 : j < ds.length) : ∃ d, atI ds j = some d ∧ d ∈ ds := by
  obtain ⟨n, rfl⟩ := Int.eq_ofNat_of_zero_le h0
  have hn : n < ds.length := by omega
  exact ⟨ds[n], atI_nat (List.getElem?_eq_getElem hn), List.getElem_mem hn⟩
theorem RV.mono {K : PySem.W.Frag} {r : R2} {s s' : SD} {Ψ Ψ' : SD → Prop} (h : RV K r s s' Ψ) (i : ∀ z, Ψ z → Ψ' z) : RV K r s s' Ψ' := fun x y G H hx hy hs Q hQ => h x y G H hx hy hs Q fun v z G2 H2 m hv hz => hQ v z G2 H2 m hv (i z hz)
theorem RC.mono {K : PySem.W.Frag} {r : List V → Hp → VK → Prop} {ss : List SD} {Ψ Ψ' : SD → Prop} (h : RC K r ss Ψ) (i : ∀ z, Ψ z → Ψ' z) : RC K r ss Ψ' := fun vs G H hv hs Q hQ => h vs G H hv hs Q fun v z G2 H2 m hv hz => hQ v z G2 H2 m hv (i z hz)
section
variable {K : PySem.W.Frag} {S : MS} {δ : List SD} {k k' : Nat} {tt tu : TT} {t u : TS} {O : Out}
theorem t_andE {Φ1 Φ2 : Bool → Prop} (h1 : EvT K S tt δ k Φ1) (h2 : Φ1 true → EvT K S tu δ k' Φ2) : EvT K S (tAnd tt tu) δ (k + k') (fun x => (x = false ∧ Φ1 false) ∨ (Φ1 true ∧ Φ2 x)) :=
  fun r σ G H q w Q hQ => h1 (r + k') σ G H q (w.eq (by omega)) _ fun e G2 H2 m w2 hs => by
    cases e with
    | true => exact iteT (h2 hs r σ G2 H2 (q.mono m.gr) w2 Q fun f G3 H3 m3 w3 hf => hQ f G3 H3 (m.trans m3) w3 (.inr ⟨hs, hf⟩))
    | false => exact iteF (hQ false G2 H2 m (Wd.dn (j := k') w2) (.inl ⟨rfl, hs⟩))
theorem s_ifE0 {Φ : Bool → Prop} (h : EvT K S tt δ k Φ) (h1 : Φ true → EvS K S (tSeq t u) δ k' O) (h2 : Φ false → EvS K S u δ k' O) : EvS K S (tSeq (tIfS tt t tNext) u) δ (k + k') O :=
  fun r σ G H q w D a b e f => h (r + k') σ G H q (w.eq (by omega)) _ fun x G2 H2 m w2 hs => by
    cases x with
    | true => exact iteT (h1 hs r σ G2 H2 (q.mono m.gr) w2 D (fun x y z f m3 => a x y z f (m.trans m3)) (fun x y z f m3 => b x y z f (m.trans m3)) (fun x y z f m3 => e x y z f (m.trans m3)) (fun x y z g m3 => f x y z g (m.trans m3)))
    | false => exact iteF (h2 hs r σ G2 H2 (q.mono m.gr) w2 D (fun x y z f m3 => a x y z f (m.trans m3)) (fun x y z f m3 => b x y z f (m.trans m3)) (fun x y z f m3 => e x y z f (m.trans m3)) (fun x y z g m3 => f x y z g (m.trans m3)))
/-- a test of a drawn number against a written one -/
theorem t_draw {ta tb : TE} {g : Int → Int → Bool} {c : Int} {m : Int} (h : Ev K S ta δ k (fun s => ∃ j, s = .i j ∧ 0 ≤ j ∧ j < m)) (hb : Dt K S tb δ (.i c)) : EvT K S (tTest (tOp (rI0 fun i j => .bl (g i j)) ta tb)) δ k (fun x => ∃ j, 0 ≤ j ∧ j < m ∧ x = g j c) :=
  t_testE ((e_op (k' := 0) (Φ' := fun _ s => s = .i c) h (fun _ _ => hb) fun s s' ⟨j, e, h0, h1⟩ e' => by
    subst e e'
    exact (rv_I0 fun _ => DD.bl _).mono fun z e => ⟨_, e, j, h0, h1, rfl⟩).up (by omega))
end
section
variable {K : PySem.W.Frag} {S : MS} {δ : List SD} {k k' : Nat}
/-- a, b, c = e, f, list(x): the list is one's own, not known yet -/
theorem par3_own {ta tb tx : TE} {u : TS} {Φ : SD → Prop} {Φ' : SD → SD → Prop} {d : PyData} {xs : List PyData} {i j m r : Nat} {σ : L2.St} {G H : Hp} {D : Ends} (ha : Ev K S ta δ k Φ) (hb : ∀ s, Φ s → Ev K S tb δ k' (Φ' s)) (hx : Dt K S tx δ (.dat d)) (hs : IsSeq d xs) (q : SlD K G σ δ) (w : Wd S (r + (k + k')) G H)
    (hu : ∀ s s' G2 H2 l ys σ2, Φ s → Φ' s s' → Mv S.M G H G2 H2 → Wd S r G2 H2 → H2 l = some (.lst ys) → G2 l = none → H l = none → ¬ S.M l → DDs K G2 ys xs → SlD K G2 σ2 (((δ.set i s).set j s').set m (.ref l)) → u D σ2 H2) :
    tSeq (tPar3 i j m (tCons ta (tCons tb (tCons (tCB (fun xs H Q => ∃ p ys, xs = [.ref p] ∧ (SqL K H p ys ∨ SqT K H p ys) ∧ ∀ l, H l = none → Q (.ref l) (upd H l (.lst ys))) (tCons tx tNil)) tNil)))) u D σ H := by
  refine ha (r + k') σ G H q (w.eq (by omega)) _ fun v1 s1 G1 H1 m1 w1 hv1 h1 => ?_
  refine hb s1 h1 r σ G1 H1 (q.mono m1.gr) w1 _ fun v2 s2 G2 H2 m2 w2 hv2 h2 => ?_
  refine hx r σ G2 H2 ((q.mono m1.gr).mono m2.gr) w2 _ fun v3 s3 G3 H3 m3 w3 hv3 h3 => ?_
  subst h3
  have sq : ∃ a ys, v3 = .ref a ∧ (SqL K H3 a ys ∨ SqT K H3 a ys) ∧ DDs K G3 ys xs := by
    rcases hs with rfl | rfl
    · cases hv3 with
      | @lst a ys _ hh t => exact ⟨a, ys, rfl, .inl (.inl (.inl (w3.sub _ _ hh))), t⟩
    · cases hv3 with
      | @tup a ys _ hh t => exact ⟨a, ys, rfl, .inr (.inl (.inl (w3.sub _ _ hh))), t⟩
  obtain ⟨a, ys, rfl, hq, dd⟩ := sq
  refine ⟨a, ys, rfl, hq, fun l nl => ⟨v1, v2, .ref l, rfl, ?_⟩⟩
  have nG : G3 l = none := by
    cases e : G3 l with
    | none => rfl
    | some o =>
      rw [w3.sub l o e] at nl
      cases nl
  have nM : ¬ S.M l := fun z => by
    obtain ⟨o, e⟩ := S.dom w3.inv z
    rw [e] at nl
    cases nl
  have mm := (m1.trans m2).trans m3
  have n0 : H l = none := by
    cases e : H l with
    | none => rfl
    | some o =>
      obtain ⟨o', e'⟩ := mm.dom l o e
      rw [e'] at nl
      cases nl
  exact hu s1 s2 G3 (upd H3 l (.lst ys)) l ys _ h1 h2 (mm.loc n0 nG) (w3.loc nG nM) upd_same nG n0 nM dd ((((q.mono mm.gr).set ((hv1.mono m2.gr).mono m3.gr) i).set (hv2.mono m3.gr) j).set (s := .ref l) rfl m)
theorem SlD.ref {G : Hp} {σ : L2.St} {i : Nat} {b : Addr} (q : SlD K G σ δ) (h : δ[i]? = some (.ref b)) : σ[i]? = some (some (.ref b)) := by
  rcases q.2 i _ h with z | ⟨v, e, hv⟩
  · cases z
  · cases (show v = V.ref b from hv)
    exact e
theorem SlD.int {G : Hp} {σ : L2.St} {i : Nat} {n : Int} (q : SlD K G σ δ) (h : δ[i]? = some (.i n)) : σ[i]? = some (some (.int n)) := by
  rcases q.2 i _ h with z | ⟨v, e, hv⟩
  · cases z
  · cases hv
    exact e
theorem SlD.dat {G : Hp} {σ : L2.St} {i : Nat} {d : PyData} (q : SlD K G σ δ) (h : δ[i]? = some (.dat d)) : ∃ v, σ[i]? = some (some v) ∧ DD K G v d := by
  rcases q.2 i _ h with z | ⟨v, e, hv⟩
  · cases z
  · exact ⟨v, e, hv⟩
end
section
variable {K : PySem.W.Frag} {S : MS} {δ : List SD} {k : Nat} {te : TE}
theorem rc_str {i : Int} (h : i.natAbs.log2 < 1920) : RC K (fun xs H Q => ∃ i : Int, xs = [.int i] ∧ i.natAbs.log2 < 1920 ∧ Q (.str (toString i)) H) [.i i] (fun z => z = .dat (.str (toString i))) := fun vs G H hv hs Q hQ => by
  obtain ⟨v, rfl, hx⟩ := vds1 hv
  cases hx
  exact ⟨i, rfl, h, hQ _ (.dat (.str _)) G H (Mv.refl hs) (DD.str _) rfl⟩
theorem ofString_len (s : String) : (Str.ofString s).length ≤ s.length := by
  rw [PySem.ofString_length]
  exact Nat.le_refl _
theorem rc_strE {i : Int} (h : i.natAbs < 10 ^ 40) : RC K (fun xs H Q => ∃ i : Int, xs = [.int i] ∧ i.natAbs.log2 < 1920 ∧ Q (.str (toString i)) H) [.i i] (fun z => ∃ y : Str, z = .dat (.str y) ∧ y.length ≤ 50) :=
  (rc_str (Nat.lt_of_lt_of_le (PySem.Flt.log2_lt_of (by decide) (show i.natAbs < 2 ^ 140 by omega)) (by decide))).mono fun z e => ⟨_, e, by
    have h1 : (toString i).length ≤ 40 + 1 := int_text_length_le10 (by decide) h
    exact Nat.le_trans (ofString_len _) (by omega)⟩
theorem rv_addS {x y : Str} (h : x.length + y.length ≤ 1000000) : RV K (fun x y H Q => ∃ i j, x = .str i ∧ y = .str j ∧ i.length + j.length ≤ sizeLine ∧ Q (.str (i ++ j)) H) (.dat (.str x)) (.dat (.str y)) (fun z => z = .dat (.str (x ++ y))) := fun u v G H hu hv hs Q hQ => by
  cases hu
  cases hv
  exact ⟨x, y, rfl, rfl, Nat.le_trans h (by decide), hQ _ (.dat (.str _)) G H (Mv.refl hs) (DD.str _) rfl⟩
theorem d_slS {z : Str} {n : Int} {ti : TE} (h : Dt K S te δ (.dat (.str z))) (hi : Dt K S ti δ (.i n)) (hz : z.length ≤ 1000000) : Dt K S (tSl rSlS te (tPart ti) tNoPart) δ (.dat (.str (cutS z (some n) none))) := fun r σ G H q w Q hQ => h r σ G H q w _ fun v s G2 H2 m w2 hv hs => hi r σ G2 H2 (q.mono m.gr) w2 _ fun u s' G3 H3 m3 w3 hu hs' => by
  subst hs hs'
  cases hv
  cases hu
  exact ⟨n, rfl, z, rfl, Nat.le_trans hz (by decide), hQ _ (.dat (.str _)) G3 H3 (m.trans m3) w3 (DD.str _) rfl⟩
theorem d_lower {z : Str} (h : Dt K S te δ (.dat (.str z))) (hz : z.length ≤ 1000000) : Dt K S (tBM0 K "str" (fun x xs H Q => ∃ a, x = .str a ∧ xs = [] ∧ a.length ≤ 5592405 ∧ Q (.str (Txt.lower a)) H) te) δ (.dat (.str (Txt.lower z))) := fun r σ G H q w Q hQ => h r σ G H q w _ fun v s G2 H2 m w2 hv hs => by
  subst hs
  cases hv
  exact ⟨rfl, z, rfl, rfl, by omega, hQ _ (.dat (.str _)) G2 H2 m w2 (DD.str _) rfl⟩
theorem e_revS {z : Str} (h : Dt K S te δ (.dat (.str z))) (hz : z.length ≤ 1000000) : Ev K S (tRevS te) δ 0 (fun s => ∃ y : Str, s = .dat (.str y) ∧ y.length ≤ z.length) := fun r σ G H q w Q hQ => h r σ G H q w _ fun v s G2 H2 m w2 hv hs => by
  subst hs
  cases hv
  exact ⟨z, rfl, Nat.le_trans hz (by decide), fun y hy => hQ _ (.dat (.str y)) G2 H2 m w2 (DD.str _) ⟨y, rfl, hy⟩⟩
theorem str_add_len (x y : Str) : (x ++ y).length = x.length + y.length := by
  show (x.cps ++ y.cps).size = _
  rw [Array.size_append]
  rfl
end
section
variable {K : PySem.W.Frag} {S : MS} {δ : List SD} {k : Nat} {ta : TE} {tr : TA} {s : SD} {Φ : List SD → Prop}
/-- one that is known, then the rest -/
theorem ak_cons (ha : Dt K S ta δ s) (hr : EvA K S tr δ k Φ) : EvA K S (tCons ta tr) δ k (fun ss => ∃ l, ss = s :: l ∧ Φ l) := fun r σ G H q w Q hQ => ha (r + k) σ G H q w _ fun v z G2 H2 m w2 hv hz => hr r σ G2 H2 (q.mono m.gr) w2 _ fun vs ss G3 H3 m3 w3 hvs hss => by
  subst hz
  exact hQ _ (z :: ss) G3 H3 (m.trans m3) w3 (.cons (hv.mono m3.gr) hvs) ⟨ss, rfl, hss⟩
/-- one that is drawn, the last one -/
theorem a_last {Ψ : SD → Prop} (ha : Ev K S ta δ k Ψ) : EvA K S (tCons ta tNil) δ k (fun ss => ∃ z, ss = [z] ∧ Ψ z) := fun r σ G H q w Q hQ => ha r σ G H q w _ fun v z G2 H2 m w2 hv hz => hQ _ [z] G2 H2 m w2 (.cons hv .nil) ⟨z, rfl, hz⟩
end
section
variable {K : PySem.W.Frag} {S : MS} {δ : List SD} {k : Nat} {O : Out}
theorem s_par {ta : TA} {i j : Nat} {Φ : List SD → Prop} (h : EvA K S ta δ k Φ) (hn : ∀ ss, Φ ss → ∃ s s', ss = [s, s'] ∧ O.nx ((δ.set i s).set j s')) : EvS K S (tPar i j ta) δ k O :=
  fun r σ G H q w D a _ _ _ => h r σ G H q w _ fun vs ss G2 H2 m w2 hv hs => by
    obtain ⟨s, s', rfl, hx⟩ := hn ss hs
    obtain ⟨v, u, rfl, h1, h2⟩ := vds2 hv
    exact ⟨v, u, rfl, a _ _ G2 H2 m w2 (((q.mono m.gr).set h1 i).set h2 j) hx⟩
end
end DL

namespace DL
open PySem PySem.Spec PyProof.Rows L2 ZX RT
theorem ip_mul {X : Cx} : PIp X .Mult (rI CMul fun i j => .int (i * j)) := iop_mul
section
variable {K : PySem.W.Frag} {S : MS} {te ta tb : TE} {δ : List SD} {k k' : Nat} {O : Out} {d : PyData}
theorem s_aug {i : Nat} {r : R2} {s s' s2 : SD} (hx : δ[i]? = some s) (hu : s ≠ .unk) (h : Dt K S te δ s') (hr : RV K r s s' (fun z => z = s2)) (hn : O.nx (δ.set i s2)) : EvS K S (tAug i te r) δ 0 O := fun q σ G H hq w D a _ _ _ => by
  rcases hq.2 i s hx with z | ⟨v, e, hv⟩
  · exact absurd z hu
  · refine ⟨v, e, h q σ G H hq w _ fun u s3 G2 H2 m w2 hu2 hs => ?_⟩
    subst hs
    refine hr v u G2 H2 (hv.mono m.gr) hu2 w2.sub _ fun y z G3 H3 m3 hy hz => ?_
    subst hz
    have mm := m.trans (m3.weak (M' := S.M) fun _ f => f.elim)
    exact a _ _ G3 H3 mm (w2.pure m3) ((hq.mono mm.gr).set hy i) hn
theorem walk_revT {a : Addr} {xs : List V} : Walk (ItvT K a xs.length) xs.length (fun H => SqT K H a xs) (fun i H x H' => H' = H ∧ xs[xs.length - 1 - i]? = some x) :=
  ⟨fun i _ hi q => ⟨hi, xs, xs[xs.length - 1 - i]'(by omega), q, by simp [show xs.length - 1 - i < xs.length by omega]⟩, fun _ _ => Nat.le_refl _, fun _ _ _ _ _ q y => ⟨y.1, y.2 xs q⟩⟩
theorem i_rev {ds : List PyData} (h : Dt K S te δ (.dat d)) (hs : IsSeq d ds) : EvI K S (iRevA K te) δ 0 ds.reverse := fun r σ G H q w R hR => h r σ G H q w _ fun v s G2 H2 m w2 hv e => by
  subst e
  have fin : ∀ (xs : List V) (x : V) (i : Nat) (d' : PyData) (G3 : Hp), DDs K G2 xs ds → (∀ a o, G2 a = some o → G3 a = some o) → ds.reverse[i]? = some d' → xs[xs.length - 1 - i]? = some x → DD K G3 x d' := fun xs x i d' G3 t hk hd hy => by
    have hi : i < ds.length := by
      have := (List.getElem?_eq_some_iff.mp hd).1
      rwa [List.length_reverse] at this
    rw [List.getElem?_reverse hi, ← t.len] at hd
    obtain ⟨e, h1, h2⟩ := t.get hy
    cases h1.symm.trans hd
    exact h2.mono hk
  rcases hs with rfl | rfl
  · cases hv with
    | @lst a xs _ hx t =>
      refine ⟨a, xs, rfl, .inl ⟨.inl (.inl (w2.sub _ _ hx)), hR _ G2 H2 m w2 ⟨fun H => SqL K H a xs, _, by rw [List.length_reverse, ← t.len]; exact walk_rev, fun G3 H3 m3 => .inl (.inl (m3.sub _ _ (m3.gr _ _ hx))), fun i d' q' G3 H3 x H4 hd m3 w3 y => ?_⟩⟩⟩
      obtain ⟨rfl, hy⟩ := y
      exact ⟨G3, w3.refl, w3, fin xs x i d' G3 t m3.gr hd hy⟩
  · cases hv with
    | @tup a xs _ hx t =>
      refine ⟨a, xs, rfl, .inr ⟨.inl (.inl (w2.sub _ _ hx)), hR _ G2 H2 m w2 ⟨fun H => SqT K H a xs, _, by rw [List.length_reverse, ← t.len]; exact walk_revT, fun G3 H3 m3 => .inl (.inl (m3.sub _ _ (m3.gr _ _ hx))), fun i d' q' G3 H3 x H4 hd m3 w3 y => ?_⟩⟩⟩
      obtain ⟨rfl, hy⟩ := y
      exact ⟨G3, w3.refl, w3, fin xs x i d' G3 t m3.gr hd hy⟩
theorem rc_divmod {i j : Int} (h : CDivP i j) : RC K (fun xs H Q => ∃ i j, xs = [.int i, .int j] ∧ CDivP i j ∧ ∀ p, H p = none → Q (.ref p) (upd H p (.tup [.int (i / j), .int (i % j)]))) [.i i, .i j] (fun z => z = .dat (.tuple [.int (i / j), .int (i % j)])) := fun vs G H hv hs Q hQ => by
  obtain ⟨v, u, rfl, hx, hy⟩ := vds2 hv
  cases hx
  cases hy
  exact ⟨i, j, rfl, h, fun p np => hQ _ (.dat (.tuple _)) _ _ (Mv.new hs np) (DD.tup upd_same (.cons (.int _) (.cons (.int _) .nil))) rfl⟩
theorem divp_small {i j : Int} (hj : 0 < j) (h : i.natAbs < 2 ^ 4000) : CDivP i j := divp_ok hj (Nat.le_trans (PyProof.Rows.intBits_le h) (Nat.le_add_left _ _))
theorem d_revL {ds : List PyData} (h : Dt K S te δ (.dat (.list ds))) : Dt K S (tRevL K te) δ (.dat (.list ds.reverse)) := fun r σ G H q w Q hQ => h r σ G H q w _ fun v s G2 H2 m w2 hv e => by
  subst e
  cases hv with
  | @lst a xs _ hx t =>
    refine ⟨a, xs, rfl, .inl (.inl (w2.sub _ _ hx)), fun p np => hQ _ (.dat (.list _)) _ _ (m.trans (Mv.new w2.sub np)) (w2.new np) (DD.lst upd_same (t.reverse.mono (Mv.new (M := S.M) w2.sub np).gr)) rfl⟩
theorem rv_catA {ds es : List PyData} (h : ds.length + es.length ≤ 100000) : RV K (rCatA K) (.dat (.tuple ds)) (.dat (.tuple es)) (fun z => z = .dat (.tuple (ds ++ es))) := fun x y G H hx hy hs Q hQ => by
  cases hx with
  | @tup a xs _ hl t =>
    cases hy with
    | @tup b ys _ hl2 t2 =>
      have e1 := t.len
      have e2 := t2.len
      refine ⟨a, b, xs, ys, rfl, rfl, .inl (.inl (hs _ _ hl)), .inl (.inl (hs _ _ hl2)), Nat.le_trans (by rw [e1, e2]; exact h) (by decide), fun z => ?_, fun _ z => ?_, fun _ _ p np => hQ _ (.dat (.tuple (ds ++ es))) _ _ (Mv.new hs np) (DD.tup upd_same ((t.append t2).mono (Mv.new (M := fun _ => False) hs np).gr)) rfl⟩
      · subst z
        have : ds = [] := List.eq_nil_of_length_eq_zero e1.symm
        subst this
        exact hQ _ (.dat (.tuple es)) G H (Mv.refl hs) (.tup hl2 t2) rfl
      · subst z
        have : es = [] := List.eq_nil_of_length_eq_zero e2.symm
        subst this
        exact hQ _ (.dat (.tuple ds)) G H (Mv.refl hs) (.tup hl t) (by rw [List.append_nil])
theorem ki_catA {X : Cx} (h : X.K = K) : OpR X (binaryOp .Add) (rCatA K) := by
  subst h
  exact op_catA
theorem dds_rg {G : Hp} : ∀ (n : Nat) (f : Nat → Int), DDs K G ((List.range n).map fun i => V.int (f i)) ((List.range n).map fun i => PyData.int (f i)) := fun n f => by
  have e1 : ((List.range n).map fun i => V.int (f i)) = ((List.range n).map f).map V.int := by rw [List.map_map]; rfl
  have e2 : ((List.range n).map fun i => PyData.int (f i)) = ((List.range n).map f).map PyData.int := by rw [List.map_map]; rfl
  rw [e1, e2]
  exact DDs.ofInts _
theorem d_listRg {n : Int} (h : Dt K S te δ (.i n)) (h0 : 0 ≤ n) (h1 : n ≤ 16777216) : Dt K S (tLstRg (tRg1 te)) δ (.dat (.list (rangeD 0 n.toNat))) := fun r σ G H q w Q hQ => h r σ G H q w _ fun v s G2 H2 m w2 hv e => by
  subst e
  cases hv
  refine ⟨n, rfl, RgOk.of_le (by omega) h1 (by omega) h0, fun p np => hQ _ (.dat (.list _)) _ _ (m.trans (Mv.new w2.sub np)) (w2.new np) (DD.lst upd_same ?_) rfl⟩
  show DDs K _ (rgV 0 n) _
  unfold rgV rangeD
  rw [Int.sub_zero]
  exact dds_rg _ _
theorem s_asgT {i j : Nat} {d e : PyData} (h : Dt K S te δ (.dat (.tuple [d, e]))) (hn : O.nx ((δ.set i (.dat d)).set j (.dat e))) : EvS K S (tAsg te (gTup K 2 (gCons (gName i) (gCons (gName j) gNil)))) δ 0 O := fun r σ G H q w D a _ _ _ => h r σ G H q w _ fun v s G2 H2 m w2 hv hs => by
  subst hs
  exact tg_pair v σ G2 H2 (q.mono m.gr) hv w2.sub _ fun σ2 q2 _ => a σ2 _ G2 H2 m w2 q2 hn
end
/-! a list or a tuple, walked -/
def iSeqX (K : PySem.W.Frag) (tl : TE) : TI := fun σ H R => tl σ H fun x H1 => ∃ a xs, x = .ref a ∧ ((SqL K H1 a xs ∧ R (Itl K a) H1) ∨ (SqT K H1 a xs ∧ R (Itt K a) H1))
theorem pi_seqX {X : Cx} {tg l : Expr} {tl : TE} (hl : PE X l tl) : PI X tg l (iSeqX X.K tl) := by
  refine ⟨fun pins s σ H R I h => ?_⟩
  refine thn (hl.run pins s σ H _ I h) fun v s1 ⟨x, H1, I1, r1, q1⟩ => ?_
  obtain ⟨a, xs, e, q | q⟩ := q1
  · obtain ⟨hq, q⟩ := q
    subst e
    cases r1
    obtain ⟨its, rv, p, hz⟩ := I1.list hq
    refine wpAny_pyIter_list p.isList ?_
    refine ⟨s1.heap.objs.size, [s1.heap.objs.size], _, _, H1, rfl, I1.kept (t' := s1.toks) fun b o e => Heap.get?_push_of_some _ e, turn_list a _, ⟨_, Heap.get?_push_size _ rfl, rfl, rfl⟩, fun b hb => ?_, q⟩
    have e : b = s1.heap.objs.size := by simpa using hb
    subst e
    exact I1.fpOk (Nat.le_refl _) (I1.hok.fresh (Nat.le_refl _))
  · obtain ⟨hq, q⟩ := q
    subst e
    cases r1
    obtain ⟨its, rv, p, hz⟩ := I1.tuple hq
    refine wpAny_pyIter_tuple (show s1.heap.IsTuple a its.toArray from p) ?_
    refine ⟨s1.heap.objs.size, [s1.heap.objs.size], _, _, H1, rfl, I1.kept (t' := s1.toks) fun b o e => Heap.get?_push_of_some _ e, turn_tuple a _, ⟨_, Heap.get?_push_size _ rfl, rfl, rfl⟩, fun b hb => ?_, q⟩
    have e : b = s1.heap.objs.size := by simpa using hb
    subst e
    exact I1.fpOk (Nat.le_refl _) (I1.hok.fresh (Nat.le_refl _))
theorem i_seq {K : PySem.W.Frag} {S : MS} {tl : TE} {δ : List SD} {d : PyData} {ds : List PyData} (h : Dt K S tl δ (.dat d)) (hs : IsSeq d ds) : EvI K S (iSeqX K tl) δ 0 ds := fun r σ G H q w R hR => h r σ G H q w _ fun v s G2 H2 m w2 hv e => by
  subst e
  rcases hs with rfl | rfl
  · cases hv with
    | @lst a xs _ hx ht =>
      refine ⟨a, xs, rfl, .inl ⟨.inl (.inl (w2.sub _ _ hx)), hR _ G2 H2 m w2 ⟨fun H => SqL K H a xs, _, by rw [← ht.len]; exact walk_list (xs := xs), fun G3 H3 m3 => .inl (.inl (m3.sub _ _ (m3.gr _ _ hx))), fun i d q G3 H3 x H4 hd m3 w3 y => ?_⟩⟩⟩
      obtain ⟨rfl, hy⟩ := y
      obtain ⟨d', h1, h2⟩ := ht.get hy
      cases h1.symm.trans hd
      exact ⟨G3, w3.refl, w3, h2.mono m3.gr⟩
  · cases hv with
    | @tup a xs _ hx ht =>
      refine ⟨a, xs, rfl, .inr ⟨.inl (.inl (w2.sub _ _ hx)), hR _ G2 H2 m w2 ⟨fun H => SqT K H a xs, _, by rw [← ht.len]; exact walk_tup (xs := xs), fun G3 H3 m3 => .inl (.inl (m3.sub _ _ (m3.gr _ _ hx))), fun i d q G3 H3 x H4 hd m3 w3 y => ?_⟩⟩⟩
      obtain ⟨rfl, hy⟩ := y
      obtain ⟨d', h1, h2⟩ := ht.get hy
      cases h1.symm.trans hd
      exact ⟨G3, w3.refl, w3, h2.mono m3.gr⟩
theorem d_lcI {K : PySem.W.Frag} {S : MS} {te : TE} {δ : List SD} {wi : TI} {g : TG} {vs : List Nat} {its : List PyData} {δg : PyData → List SD} {f : Nat → PyData} (hi : EvI K S wi δ 0 its) (hg : ∀ (j : Nat) (d : PyData), its[j]? = some d → Tg K g d (wipeD δ vs) (δg d) vs)
    (he : ∀ (j : Nat) (d : PyData), its[j]? = some d → Dt K S te (δg d) (.dat (f j))) (hn : its.length ≤ 100000) : Dt K S (tLc wi g tYes te vs) δ (.dat (.list ((List.range its.length).map f))) :=
  ((e_lc (k' := 0) (Ψ := fun j e => e = f j) hi hg (fun j d hd => (he j d hd).mono fun s hs => ⟨f j, hs, rfl⟩) hn).mono fun s ⟨ds, e, el, hp⟩ => by
    rw [e]
    congr 2
    refine List.ext_getElem? fun j => ?_
    rw [List.getElem?_map]
    by_cases hj : j < ds.length
    · rw [List.getElem?_eq_getElem hj, List.getElem?_range (by omega), hp j _ (List.getElem?_eq_getElem hj)]
      rfl
    · rw [List.getElem?_eq_none (by omega), List.getElem?_eq_none (by rw [List.length_range]; omega)]
      rfl).up (by omega)
theorem e_tupE {K : PySem.W.Frag} {S : MS} {te : TE} {δ : List SD} {k : Nat} {Ψ : List PyData → Prop} (h : Ev K S te δ k (fun s => ∃ l, s = .dat (.list l) ∧ Ψ l)) : Ev K S (tCB (fun xs H Q => ∃ p ys, xs = [.ref p] ∧ ((SqL K H p ys ∧ ∀ l, H l = none → Q (.ref l) (upd H l (.tup ys))) ∨ (SqT K H p ys ∧ Q (.ref p) H))) (tCons te tNil)) δ k (fun s => ∃ l, s = .dat (.tuple l) ∧ Ψ l) :=
  e_cb (a_last h) fun ss ⟨z, e, l, ez, hp⟩ => by
    subst e ez
    exact rc_tupL.mono fun z e => ⟨l, e, hp⟩
theorem e_pow {K : PySem.W.Frag} {S : MS} {δ : List SD} {C : Int → Int → Prop} {a n z : Int} (h : C a n) (e : a ^ n.toNat = z) : Dt K S (tOp (rI C fun i j => .int (i ^ j.toNat)) (tC (.int a)) (tC (.int n))) δ (.i z) := by
  subst e
  exact d_op e_int e_int (rv_I h fun _ => DD.int _)
theorem ak_consE {K : PySem.W.Frag} {S : MS} {δ : List SD} {k : Nat} {ta : TE} {tr : TA} {s : SD} {Φ Ψ : List SD → Prop} (ha : Dt K S ta δ s) (hr : EvA K S tr δ k Φ) (h : ∀ l, Φ l → Ψ (s :: l)) : EvA K S (tCons ta tr) δ k Ψ := fun r σ G H q w Q hQ => ak_cons ha hr r σ G H q w Q fun vs ss G2 H2 m w2 hv ⟨l, e, hl⟩ => hQ vs ss G2 H2 m w2 hv (by rw [e]; exact h l hl)
theorem a_consE {K : PySem.W.Frag} {S : MS} {δ : List SD} {k k' : Nat} {ta : TE} {tr : TA} {Φ : SD → Prop} {Φ' Ψ : List SD → Prop} (ha : Ev K S ta δ k Φ) (hr : EvA K S tr δ k' Φ') (h : ∀ s l, Φ s → Φ' l → Ψ (s :: l)) : EvA K S (tCons ta tr) δ (k + k') Ψ := fun r σ G H q w Q hQ => a_cons ha (fun _ _ => hr) r σ G H q w Q fun vs ss G2 H2 m w2 hv ⟨s, l, e, hs, hl⟩ => hQ vs ss G2 H2 m w2 hv (by rw [e]; exact h s l hs hl)
/-- an own list, that grows -/
def ow (l : Addr) : MS where
  M := fun a => a = l
  inv := fun _ H => ∃ xs, H l = some (.lst xs)
  dom := fun ⟨xs, h⟩ e => by
    subst e
    exact ⟨_, h⟩
  fr := fun ⟨xs, h⟩ k => ⟨xs, k _ _ rfl h⟩
  dn := fun h => h
end DL

set_option maxHeartbeats 2000000
/-! own errors with one field, over any built-in error -/
namespace XG
section
open PySem PySem.W PySem.Calls PyProof.Rows PySem.HandSPX Builtin Builtin.ObjectAttr
variable {prog : Program} {w : World} {A : Around} {E : Value → Shared → Prop} {R : Result → Shared → Prop} {h0 : Heap} {g : Array GenState} {d : Drawn} {t : Nat} {os : OsState}
/-- the first field of a fresh error -/
theorem osaG {K : Frag} {name : Str} {tk : Tok} {v : Value} {x C : Addr} {fv : Array Value} {cd : ClassData} (X : K.In h0) (gx : h0.get? x = some { cls := .ref C, data := .fields fv }) (hcd : clsIn K C = some cd)
    (pass : ∀ self, refuseLoop self "__setattr__" cd.mro = pure ()) (hob : cd.mro.contains (.type "object") = true) (ne : cd.mro.isEmpty = false) (hh : cd.hasDict = true) (ha : findIn K (.ref C) name = some none)
    (kq : ∀ h1 tk1 dx, (∀ b o, b ≠ x → h0.get? b = some o → h1.get? b = some o) → h0.objs.size ≤ dx → dx ≠ x → h1.get? x = some { cls := .ref C, dict := some dx, data := .fields fv } → h1.Ns1 dx (fun y => if y = name then some v else none) → R (.ok (.ret .none)) ⟨h1, g, d, tk1, os⟩) :
    codeAny (model prog w) A (.call (.builtin "object.__setattr__") ⟨[.ref x, .str name tk, v], []⟩) R ⟨h0, g, d, t, os⟩ := by
  have J : InstAt h0 x { cls := .ref C, data := .fields fv } C none := ⟨gx, rfl, rfl, trivial⟩
  have SO := PySem.F.store_object
  have xs : x ≠ h0.objs.size := Nat.ne_of_lt (Heap.lt_size gx)
  have sb : Looks (model prog w) h0 (isInstance (.ref x) (.type "object")) true := J.type.andThen (looks_mroIn X (by unfold mroIn; rw [hcd, Option.bind_some, if_neg (by rw [ne]; decide), hob]))
  refine codeAny_call_builtin SO.slot.plain SO.entry (@check_slot (model prog w) _ _ ⟨h0, g, d, t, os⟩ "object.__setattr__" "object" "__setattr__" (.ref x) [.str name tk, v] [] _ SO.kind SO.split sb (SO.args (.ref x) (.str name tk) v) ?_)
  have mr : Looks (model prog w) h0 (mroOf (.ref C)) cd.mro := (looks_clsIn X hcd).andThen .now
  have no3 : Looks (model prog w) h0 (storeTaker? none) none := .now
  have cl : Looks (model prog w) h0 (classData C) cd := looks_clsIn X hcd
  rw [osa_eq, refuse_eq]
  refine wpAny_bind (wpAny_bind (J.type.at (wpAny_bind (mr.at ?_))))
  rw [pass]
  refine wpAny_pure (wpAny_bind (J.type.at (wpAny_bind ((looks_findIn X ha).at (wpAny_bind (no3.at ?_))))))
  show wpAny _ _ (storeInOwnDict (.ref x) (.ref C) (.str name tk) name v false) _ _ _
  obtain ⟨c1, c2, c3, c4, c5, hd, c7, c8, c9, c10, c11⟩ := cd
  dsimp only at hh
  subst hh
  unfold storeInOwnDict ownDictForStores
  repeat (first | with_reducible refine store_in_new ?_ ?_ | with_reducible refine wpAny_loadPart_at gx ?_ | with_reducible refine cl.at ?_ | wp_step)
  · exact ⟨_, #[], _, (Heap.get?_update_ne _ _ _ _ xs.symm).trans (Heap.get?_push_at rfl rfl), rfl, fun e he => absurd he (by simp), fun _ => rfl⟩
  · intro h1 tk1 hn1 hs1
    have gx1 : (h0.push { cls := .type "dict", data := .dict #[] }).get? x = some { cls := .ref C, data := .fields fv } := Heap.get?_push_of_some _ gx
    refine kq h1 tk1 h0.objs.size (fun b o hb ho => ?_) (Nat.le_refl _) xs.symm ?_ hn1
    · exact (hs1.2 b (Nat.ne_of_lt (Heap.lt_size ho))).trans ((Heap.get?_update_ne _ _ _ _ hb).trans (Heap.get?_push_of_some _ ho))
    · exact (hs1.2 x xs).trans (Heap.get?_update_self _ gx1 rfl)
end
open PySem PySem.W PySem.Calls PyProof.Rows PySem.HandSPX
/-- what a base's mro must give -/
structure XBase (B newId initId : String) (bmB : List Value) : Prop where
  eb : ExcBaseFacts B newId initId bmB
  ps : ∀ self : Value, refuseLoop self "__setattr__" bmB = pure ()
  ob : bmB.contains (.type "object") = true
  ne : bmB ≠ []
theorem base_LookupError : XBase "LookupError" "LookupError.__new__" "LookupError.__init__" [.type "LookupError", .type "Exception", .type "BaseException", .type "object"] := ⟨PySem.F.excBase_LookupError, PySem.F.store_LookupError.passes, by decide +kernel, by simp⟩
theorem base_ValueError : XBase "ValueError" "ValueError.__new__" "ValueError.__init__" [.type "ValueError", .type "Exception", .type "BaseException", .type "object"] := ⟨PySem.F.excBase_ValueError, PySem.F.store_ValueError.passes, by decide +kernel, by simp⟩
/-- a made error whose field f is v -/
structure XMade (f : Str) (h h' : Heap) (e C dd : Addr) (v : Value) : Prop where
  keep : ∀ b o, h.get? b = some o → h'.get? b = some o
  new : h.objs.size ≤ e
  obj : ∃ oe vs, h'.get? e = some oe ∧ oe.cls = .ref C ∧ oe.dict = some dd ∧ oe.data = .fields vs ∧ vs[1]? = some .none
  dbig : h.objs.size ≤ dd
  dne : dd ≠ e
  ns : h'.Ns1 dd (fun y => if y = f then some v else none)
theorem ldXg {M : Model} {s : Shared} {name : Str} {scope : Scope} {L a : Addr} {cd : Value} {m : Str → Option Value} {x : Str} {pos : Pos} {v : Value} {Q : Value → Shared → Prop} {A : Around} {E : Value → Shared → Prop} (hn : s.heap.Ns L m) (hv : m x = some v) (q : Q v s)
    (hk : scope.kind = .function := by rfl) (hl : (envOfC name scope L a cd).kindOf x = some .local := by rfl) (hd : (x == ("__debug__" : Str)) = false := by decide) : wpAny M A (eval (.Name x pos) (envOfC name scope L a cd)) Q E s := wpAny_Name (wpAny_loadName_local hk hl hn hv q) hd
theorem one_ok (v : Value) : [v].length ≤ sizeLine := by
  show 1 ≤ sizeLine
  decide
end XG

set_option maxHeartbeats 2000000
namespace X_NoPlace
open PySem PySem.W PySem.Calls PyProof.Rows PySem.HandSPX XG
/-! the text of __init__(self, place): self.place = place -/
def iA (p1 p2 : Pos) : Arguments := { posonlyargs := [], args := [{ arg := "self", annotation := none, pos := p1 }, { arg := "place", annotation := none, pos := p2 }], vararg := none, kwonlyargs := [], kw_defaults := [], kwarg := none, defaults := [] }
def iB (q1 q2 q3 q4 : Pos) : List Stmt := [.Assign [.Attribute (.Name "self" q1) "place" q2] (.Name "place" q3) q4]
def iS : Scope := { kind := .function, names := [(PySem.Str.ofString "self", .local), (PySem.Str.ofString "place", .local)], isGenerator := false, isCoroutine := false, more := [] }
abbrev bmB : List Value := [.type "LookupError", .type "Exception", .type "BaseException", .type "object"]
/-- what the written part says of the class, at C, and of its __init__, at fI -/
structure Txt (K : Frag) (mg : Str → Option Value) (C fI : Addr) : Prop where
  gC : mg "NoPlace" = some (.ref C)
  cls : ∃ nm q N bs bm sn sub ab col dd k0 k1 k2 k3 k5, K.lookup C = some (excClassObj nm q C N bs bm true sn sub ab col dd k0 k1 k2 k3 k5 "LookupError.__new__") ∧ excTail bmB bm = true
  sa : findIn K (.ref C) "__setattr__" = some (some (.builtin "object.__setattr__"))
  noN : findIn K (.ref C) "place" = some none
  iC : findIn K (.ref C) "__init__" = some (some (.ref fI))
  tC : typeIn K (.ref fI) = some (.type "function")
  kC : keepIn K (.ref C) = true
  exC : subIn K (.ref C) (.type "BaseException") = some true
  tyC : typeIn K (.ref C) = some (.type "type")
  fn : ∃ (oc : Value) (od : Option Addr) (doc pm : Value) (an : Option Addr) (cdv ct : Value) (osl : Array (Option Value)) (p1 p2 q1 q2 q3 q4 : Pos),
    K.lookup fI = some ⟨oc, od, .func (fnOf "__init__" "NoPlace.__init__" (iA p1 p2) (iB q1 q2 q3 q4) iS .none .none doc pm an cdv ct), osl⟩ ∧ codeIn K cdv "NoPlace.__init__" = true
section
variable {prog : Program} {w : World} {A : Around} {R : Result → Shared → Prop} {s : Shared} {K : Frag} {mg : Str → Option Value} {C fI : Addr}
theorem init_runs (T : Txt K mg C fI) {x t0 : Addr} {v : Value} (X : K.In s.heap) (lim : s.heap.NoLimit) (gx : s.heap.get? x = some (excO C t0)) (nx : K.lookup x = none) (room : A.depth < recursionLimit)
    (kq : ∀ h' tk dx, (∀ b o, b ≠ x → s.heap.get? b = some o → h'.get? b = some o) → h'.get? x = some { cls := .ref C, dict := some dx, data := .fields #[.ref t0, .none, .none, .none, .bool false, .none] } → s.heap.objs.size ≤ dx → dx ≠ x → h'.Ns1 dx (fun y => if y = "place" then some v else none) → R (.ok (.ret .none)) { s with heap := h', toks := tk }) :
    codeAny (model prog w) A (.call (.ref fI) ⟨[.ref x, v], []⟩) R s := by
  obtain ⟨oc, od, doc, pm, an, cdv, ct, osl, p1, p2, q1, q2, q3, q4, ho, hcd⟩ := T.fn
  obtain ⟨nm, q, N, bs, bm, sn, sub, ab, col, dd, k0, k1, k2, k3, k5, hC, hbm⟩ := T.cls
  have XB := base_LookupError
  have hcl : clsIn K C = some { name := nm, bases := bs, mro := .ref C :: bm, ns := N, qualname := q, hasDict := true, slotNames := sn, subclasses := sub, abstract := ab, collection := col, hasDel := false } := by
    unfold clsIn
    rw [hC] <;> rfl
  refine Att.call_fn (binds := [("self", .ref x), ("place", v)]) X lim ho hcd room (BindsTo.of_eq (by first | rfl | with_unfolding_all rfl)) (by first | rfl | decide | with_unfolding_all rfl) (fun s1 IC => ?_) rfl rfl rfl
  obtain ⟨h1, tk1, rfl⟩ := IC.toInCall.same
  have kp : ∀ b o, s.heap.get? b = some o → h1.get? b = some o := IC.toInCall.keep
  have hn := IC.toInCall.ns
  have X1 : K.In h1 := X.keeps kp
  show wpAny _ _ (execs _ _) _ _ _
  refine wpAny_execs_cons (plainObj_wpAny_Assign_Attribute ?_)
  refine ldXg (v := v) hn (by first | rfl | with_unfolding_all rfl | kernel_rfl) (ldXg (v := .ref x) hn (by first | rfl | with_unfolding_all rfl | kernel_rfl) ?_)
  refine set_plain X1 (ox := excO C t0) (od := none) ⟨kp _ _ gx, rfl, rfl, trivial⟩ T.sa ?_
  refine osaG X1 (kp _ _ gx) hcl (fun self => ?_) ?_ rfl rfl T.noN (fun h3 tk3 dx k3 dn dne hx3 hn3 => ?_)
  · show refuseLoop self "__setattr__" (.ref C :: bm) = pure ()
    rw [refuseLoop_ref]
    exact excTail_pass self (XB.ps self) bm hbm
  · show (Value.ref C :: bm).contains (.type "object") = true
    rw [List.contains_cons, excTail_contains "object" bm hbm, XB.ob, Bool.or_true]
  · show wpAny _ _ (execs _ _) _ _ _
    have z : s.heap.objs.size < h1.objs.size := hn.lt
    exact wpAny_execs_nil (kq h3 tk3 dx (fun b o hb e => k3 b o hb (kp b o e)) hx3 (Nat.le_of_lt (Nat.lt_of_lt_of_le z dn)) dne hn3)
theorem made (T : Txt K mg C fI) {v : Value} (X : K.In s.heap) (lim : s.heap.NoLimit) (room : A.depth + 1 < recursionLimit)
    (kq : ∀ h' tk e dd, XMade "place" s.heap h' e C dd v → R (.ok (.ret (.ref e))) { s with heap := h', toks := tk }) :
    codeAny (model prog w) A (.call (.ref C) ⟨[v], []⟩) R s := by
  obtain ⟨nm, q, N, bs, bm, sn, sub, ab, col, dd, k0, k1, k2, k3, k5, hC, hbm⟩ := T.cls
  have XB := base_LookupError
  obtain ⟨hp, g, dr, tk, os⟩ := s
  have kp : ∀ b o, hp.get? b = some o → ((hp.push (kdv_tup [v])).push (excO C hp.objs.size)).get? b = some o := fun b o e => Heap.get?_push_of_some _ (Heap.get?_push_of_some _ e)
  have hget : ((hp.push (kdv_tup [v])).push (excO C hp.objs.size)).get? (hp.objs.size + 1) = some (excO C hp.objs.size) := by heap_get
  have hnx : K.lookup (hp.objs.size + 1) = none := by
    cases e : K.lookup (hp.objs.size + 1) with
    | none => rfl
    | some o => exact absurd (Nat.lt_of_succ_lt (Heap.lt_size (X _ _ e))) (Nat.lt_irrefl _)
  refine call_own XB.eb (fun Y => excTail_contains Y bm hbm) (X _ _ hC) (looks_findIn X T.iC) (fun self => bind_fn X self T.tC) (one_ok v) ?_
  refine init_runs (s := ⟨(hp.push (kdv_tup [v])).push (excO C hp.objs.size), g, dr, tk, os⟩) T (X.keeps kp) (lim.keeps kp) hget hnx ?_ fun h' tk' dx k' hx dn dne hns => ?_
  · show A.depth + 1 < recursionLimit
    exact room
  · have old : ∀ b o, hp.get? b = some o → h'.get? b = some o := fun b o e => k' b o (Nat.ne_of_lt (Nat.lt_succ_of_lt (Heap.lt_size e))) (kp b o e)
    have z : hp.objs.size + 1 + 1 ≤ dx := by
      first
        | (simpa only [Heap.size_push] using dn)
        | exact dn
    exact ⟨rfl, kq h' tk' (hp.objs.size + 1) dx ⟨old, Nat.le_succ _, ⟨_, _, hx, rfl, rfl, rfl, rfl⟩, Nat.le_trans (Nat.le_trans (Nat.le_succ _) (Nat.le_succ _)) z, dne, hns⟩⟩
end
end X_NoPlace
namespace X_NoPlace
open PySem PySem.Spec PyProof.Rows L2 XG
theorem fld_rel {v : V} {v' : Value} (r : RelV v v') (n : Str) : RelO (List.lookup n [(("place" : Str), v)]) (if n = "place" then some v' else none) := by
  by_cases hw : n = "place"
  · subst hw
    rw [if_pos rfl]
    have q : List.lookup ("place" : Str) [(("place" : Str), v)] = some v := by simp [List.lookup]
    rw [q]
    exact r
  · rw [if_neg hw]
    have qw : (n == ("place" : Str)) = false := by simpa using hw
    have q2 : List.lookup n [(("place" : Str), v)] = none := by simp [List.lookup, qw]
    rw [q2]
    trivial
/-- NoPlace(e) -/
def tMk (C : Addr) (ta : TA) : L2.St → Hp → XK → Prop := fun σ H Q => ta σ H fun vs H1 => ∃ v, vs = [v] ∧ ∀ dd, H1 dd = none → Q (.ref C) (some dd) (upd H1 dd (.xd [(("place" : Str), v)]))
theorem pmk {X : Cx} {C fI : Addr} {a : Expr} {ta : TA} {p pos : Pos} {k : Nat} (T : Txt X.K X.mg C fI) (hr : Room k X.A) (ha : PA X [a] ta) (hg : Gl X "NoPlace" := by rfl)
    (he : starEach (a :: []) X.env = (false, eval a X.env) :: starEach [] X.env := by rfl) (hpl : (backTo pos (starEach [] X.env)).any (·.1) = false := by rfl) :
    PMk X (.Call (.Name "NoPlace" p) [a] [] pos) (tMk C ta) := by
  intro pins s σ H Q I h
  refine wpAny_Call_Name_kw (ld_glob I hg T.gC ?_)
  refine PySem.W.callWith_K (h₀ := X.base) I.ok.mod.kin T.kC (thn (ha.run pos pins s σ H _ I h) fun us s1 hh => ?_) he hpl
  obtain ⟨vs, H1, I1, r1, v, rfl, q1⟩ := hh
  refine ⟨I1.kIn, ?_⟩
  cases r1 with
  | cons rv rn =>
    rename_i v' us'
    cases rn
    show wpAny _ _ (call (.ref C) [v']) _ _ _
    have lim := I1.nolimit
    obtain ⟨hp, g, dr, tk, os⟩ := s1
    refine wpAny_call (made T I1.kIn lim (by have := hr.dp; omega) fun h' tk' e dd M => ?_)
    show MkP X pins σ Q (.ref e) ⟨h', g, dr, tk', os⟩
    obtain ⟨oe, fv, hoe, hc, hd, hdat, h1⟩ := M.obj
    have hns := M.ns
    obtain ⟨G', g1, g2⟩ := restrict h' fun b => decide (b ≠ e)
    have gk : ∀ b, b ≠ e → G'.get? b = h'.get? b := fun b hb => g1 b (decide_eq_true hb)
    have ge : G'.get? e = none := g2 e (by simp)
    have old : ∀ b o, hp.get? b = some o → G'.get? b = some o := fun b o q => (gk b (Nat.ne_of_lt (Nat.lt_of_lt_of_le (Heap.lt_size q) M.new))).trans (M.keep b o q)
    have ob : ObjOk X.prog X.w (upd H1 dd (.xd [(("place" : Str), v)])) G' dd (.xd [(("place" : Str), v)]) := ⟨_, hns.at (fun o q => (gk dd M.dne).trans q), fun n => fld_rel rv n⟩
    have J : Inv X pins σ (upd H1 dd (.xd [(("place" : Str), v)])) ⟨G', g, dr, tk', os⟩ := I1.laid (t' := tk') old M.dbig ob
    refine ⟨e, oe, fv, ⟨G', g, dr, tk', os⟩, _, .ref C, some dd, rfl, J, fun b o q => ?_, ge, hoe, ⟨hc, hd⟩, hdat, h1, ?_, rfl, I1.bare, raises_own T.exC T.tyC, q1 dd (I1.hok.fresh M.dbig)⟩
    · by_cases hb : b = e
      · have q' : G'.get? b = some o := q
        rw [hb, ge] at q'
        cases q'
      · exact (gk b hb).symm.trans q
    · rw [upd_ne (Ne.symm M.dne)]
      exact I1.hok.fresh M.new
end X_NoPlace

set_option maxHeartbeats 2000000
namespace XG
open PySem PySem.Spec PyProof.Rows L2
/-- an error that is kept as a value: its class, its own dict -/
def ExT (cls : Value) (dd : Option Addr) (a : Addr) : HO := .ext fun h => ∃ (oe : Obj) (vs : Array Value), h.get? a = some oe ∧ Zc cls dd oe ∧ oe.data = .fields vs
section
variable {X : Cx} {pins : List (Addr × Obj)} {σ : L2.St} {H : Hp} {s : Shared}
theorem track {ea : Addr} {oe : Obj} {vs : Array Value} {cls : Value} {dd : Option Addr} (I : Inv X pins σ H s) (ha : s.heap.get? ea = some oe) (hz : Zc cls dd oe) (hd : oe.data = .fields vs) (na : H ea = none) (n0 : X.s_0.heap.get? ea = none) (nL : ea ≠ X.env.locals) (nP : ∀ p ∈ X.pn ++ pins, p.1 ≠ ea) :
    Inv X pins σ (upd H ea (ExT cls dd ea)) s where
  ok := I.ok
  os := I.os
  bare := I.bare
  base := {
    keep := I.base.keep
    slot := I.base.slot
    free := fun b o q n x => by
      rw [upd_ne (show b ≠ ea from fun z => by rw [z, n0] at q; cases q)]
      exact I.base.free b o q n x
    there := I.base.there
    tups := fun b xs q => by
      have e := I.base.tups b xs q
      rw [upd_ne (ne_of_none e na)]
      exact e
    frzs := fun b o u q => by
      have e := I.base.frzs b o u q
      rw [upd_ne (ne_of_none e na)]
      exact e
    tbls := fun b ps q => by
      obtain ⟨m, e⟩ := I.base.tbls b ps q
      exact ⟨m, by rw [upd_ne (ne_of_none e na)]; exact e⟩ }
  loc := I.loc
  cell := I.cell
  free := by
    rw [upd_ne nL.symm]
    exact I.free
  freeC := fun x c e => by
    obtain ⟨v, o, ho, hc⟩ := I.cell x c e
    rw [upd_ne (show c ≠ ea from fun z => by rw [z, ha] at ho; cases ho; rw [hd] at hc; cases hc)]
    exact I.freeC x c e
  pin := fun p hp => by
    obtain ⟨q1, q2, q3⟩ := I.pin p hp
    exact ⟨q1, by rw [upd_ne (nP p hp)]; exact q2, q3⟩
  hok := fun b u e => by
    by_cases hb : b = ea
    · subst hb
      rw [upd_same] at e
      cases e
      exact ⟨⟨oe, vs, ha, hz, hd⟩, ⟨oe, ha⟩, fun h1 h2 ⟨o1, v1, g1, r1⟩ k => ⟨o1, v1, k o1 g1, r1⟩⟩
    · rw [upd_ne hb] at e
      exact (I.hok b u e).stay (fun _ _ _ q => q) (fun c q => by rw [upd_ne (ne_of_none q na)]; exact q) fun c xs q => by rw [upd_ne (ne_of_none q na)]; exact q
  len := I.len
end
theorem flying_push {gB h h' : Heap} {l : List Env} {ea : Addr} {Z : Obj → Prop} (fl : HandSPX.FlyingZ gB l ea Z h) (k : ∀ b o, h.get? b = some o → h'.get? b = some o) : HandSPX.FlyingZ gB l ea Z h' := by
  obtain ⟨f1, f2, f3, oe, vs, T, oT, ts, e1, e2, e3, e4, e5, e6, e7, e8⟩ := fl
  exact ⟨fun b o q => k b o (f1 b o q), f2, Heap.FunFrames.of_keeps (fun b o q _ => ⟨o, k b o q, rfl⟩) f3, oe, vs, T, oT, ts, k _ _ e1, e2, e3, e4, e5, e6, k _ _ e7, e8⟩
theorem up_push {h h' : Heap} (k : ∀ b o, h.get? b = some o → h'.get? b = some o) : h.UpToSlots h' := fun b o q _ => ⟨o.slots, k b o q⟩
/-- how the words behind except are asked: cs the classes -/
def Tst (X : Cx) (te : Expr) (cs : List Value) : Prop := ∀ (ea : Addr) (oe : Obj) (pn pins : List (Addr × Obj)) (s : Shared) (σ : L2.St) (H : Hp) (cls : Value) (b : Bool), Inv (X.suite ea ((ea, oe) :: pn)) pins σ H s → PySem.W.Looks (model X.prog X.w) s.heap (typeOf (.ref ea)) cls → PySem.W.exmAny X.K cls cs = some b →
  ∀ (Q : Bool → Shared → Prop) (E : Value → Shared → Prop), (∀ h', (∀ q o, s.heap.get? q = some o → h'.get? q = some o) → Q b { s with heap := h' }) → wpAny (model X.prog X.w) (X.A.mark (some (.ref ea))) (eval te X.env) (fun c s1 => wpAny (model X.prog X.w) (X.A.mark (some (.ref ea))) (excMatches (.ref ea) c) Q E s1) E s
theorem tst_name {X : Cx} {x : Str} {c : Value} {np : Pos} {ea : Addr} {oe : Obj} {pn pins : List (Addr × Obj)} {s : Shared} {σ : L2.St} {H : Hp} {Q : Value → Shared → Prop} {E : Value → Shared → Prop} (hc : Names X x c) (S : Inv (X.suite ea ((ea, oe) :: pn)) pins σ H s) (q : Q c s) : wpAny (model X.prog X.w) (X.A.mark (some (.ref ea))) (eval (.Name x np) X.env) Q E s := by
  obtain ⟨hg, hdbg, hm | ⟨hm, hv, hnn⟩⟩ := hc
  · exact ld_glob (X := X.suite ea ((ea, oe) :: pn)) S hg hm q hdbg
  · exact ld_blt (X := X.suite ea ((ea, oe) :: pn)) S hg hm hv q hnn hdbg
theorem tst3 {X : Cx} {x1 x2 x3 : Str} {c1 c2 c3 : Value} {p1 p2 p3 tpos : Pos} {kk : Nat} (n1 : Names X x1 c1) (n2 : Names X x2 c2) (n3 : Names X x3 c3) : Tst X (.Tuple [.Name x1 p1, .Name x2 p2, .Name x3 p3] kk tpos) [c1, c2, c3] := fun ea oe pn pins s σ H cls b S LT he Q E q => by
  refine wpAny_Tuple ?_
  refine wpAny_items_cons (tst_name n1 S ?_)
  refine wpAny_items_cons (tst_name n2 S ?_)
  refine wpAny_items_cons (tst_name n3 S ?_)
  refine wpAny_items_nil ⟨by size_fits, ?_⟩
  have kk2 : ∀ z o, s.heap.get? z = some o → (s.heap.push { cls := .type "tuple", data := .seq [c1, c2, c3].toArray }).get? z = some o := fun _ _ e => Heap.get?_push_of_some _ e
  have KI : X.K.In s.heap := S.kIn
  exact (PySem.W.exm_tup3 (KI.keeps kk2) (LT.keeps kk2) (Heap.get?_push_size s.heap rfl) he).here (q _ kk2)
theorem tst1 {X : Cx} {x : Str} {c : Value} {np : Pos} (n1 : Names X x c) : Tst X (.Name x np) [c] := fun ea oe pn pins s σ H cls b S LT he Q E q => by
  obtain ⟨b1, d1, h1, h2, h3⟩ := PySem.W.exmAny_cons he
  have w : some false = some d1 := h2
  cases w
  rw [Bool.or_false] at h3
  subst h3
  have KI : X.K.In s.heap := S.kIn
  exact tst_name n1 S ((PySem.W.exm_one KI LT h1).here (q s.heap fun _ _ z => z))
/-- the wish at a try whose except suite keeps the error -/
def wT (K : PySem.W.Frag) (cs : List Value) (i : Nat) (ts : Addr → TS) (Wout : WX) (D : Ends) : WX := fun cls d σ H =>
  ∃ b, PySem.W.exmAny K cls cs = some b ∧ (b = true → ∀ ea, H ea = none → ts ea { nx := fun σ' H' => D.nx (σ'.set i none) (upd H' ea (ExT cls d ea)), rt := fun _ _ => False } (σ.set i (some (.ref ea))) H) ∧ (b = false → Wout cls d σ H)
section
variable {X : Cx} {n : Str} {te : Expr} {cs : List Value} {i : Nat} {body suite : List Stmt} {b0 : Stmt} {pos pos' : Pos} {tb : WX → TS} {ts : Addr → TS} {Wout : WX}
theorem ps_tryT (hx0 : X.ex = []) (hs : X.stack = X.env :: X.outer) (hf : X.env.frame = some X.env.locals) (hN : X.N.Nodup) (hi : X.N[i]? = some n) (hln : X.env.kindOf n = some .local) (hT : Tst X te cs) (tk : Takes X Wout)
    (hb : ∀ (W : WX) (pn : List (Addr × Obj)) (xe : Value → Shared → Prop), Takes (X.tr pn xe) W → PassesOwn (model X.prog X.w) X.A X.env xe → PSs (X.tr pn xe) body (tb W))
    (hsu : ∀ (ea : Addr) (oe : Obj) (pn : List (Addr × Obj)), (∃ vs, oe.data = .fields vs) → PSs (X.suite ea ((ea, oe) :: pn)) (b0 :: suite) (ts ea)) :
    PS X (.Try body [.ExceptHandler (some te) (some n) (b0 :: suite) pos'] [] [] pos) (fun D σ H => tb (wT X.K cs i ts Wout D) D σ H) := by
  refine ⟨fun pins s σ H D I h => ?_⟩
  have ok := I.ok
  have hfr : X.A.frames = some (X.env :: X.outer) := by rw [ok.frames, hs]
  have hloc : Loc X.env.scope n := .inl hln
  refine wpAny_Try_except ?_
  refine wpAny_mono ((hb (wT X.K cs i ts Wout D) (X.pn ++ pins) (fun e s1 => wpAny (model X.prog X.w) X.A (noteFrame e X.env) (fun _ s2 => wpAny (model X.prog X.w) X.A (setFlight e none) (fun _ s3 =>
    wpAny (model X.prog X.w) X.A (handleBy e X.env [.ExceptHandler (some te) (some n) (b0 :: suite) pos']) (SP X pins D) X.xe s3) X.xe s2) X.xe s1) (fun u s' xx => ?_) PassesOwn.looking).run [] s σ H D (I.toTry _) h) (fun fl s1 hsp => ?_) (fun e s1 he => he)
  · obtain ⟨ea, gB, sI, pins', σ', H', cls, dd, rfl, J', nb, up, sky, na, os, ag, b, hb1, hyes, hno⟩ := xx
    have J : Inv X pins σ' H' sI := J'.ofTry ok
    have sky' : Sky gB (X.env :: X.outer) ea (Zc cls dd) X.env.locals s'.heap := by rw [← hs]; exact sky
    show wpAny (model X.prog X.w) X.A (noteFrame (.ref ea) X.env) _ _ _
    refine Sky.land Zc.steady hfr hf sky' fun h3 fl3 up3 => ?_
    have J3 : Inv X pins σ' H' { s' with heap := h3 } := J.landed nb fl3.1 (up.trans up3) os ag
    obtain ⟨oe3, vs3, he3, hz3, hd3⟩ := fl3.there
    have nfr : ea ∉ frs (X.env :: X.outer) := fun hm => by
      obtain ⟨_, o', e', hnf⟩ := fl3.2.2.1.mem hm
      rw [he3] at e'
      cases e'
      exact hnf _ hd3
    have nL : ea ≠ X.env.locals := fun z => nfr (List.mem_filterMap.mpr ⟨X.env, List.mem_cons_self, by rw [hf, z]⟩)
    have nF : ea ∉ X.fs := fun hm => by
      obtain ⟨e, he, q⟩ := List.mem_filterMap.mp hm
      exact nfr (List.mem_filterMap.mpr ⟨e, List.mem_cons_of_mem _ he, q⟩)
    have sI0 : sI.heap.get? ea = none := by
      cases e : sI.heap.get? ea with
      | none => rfl
      | some o =>
        have z := nb ea o e (by rw [hs]; exact nfr)
        rw [fl3.2.1] at z
        cases z
    have n0 : X.s_0.heap.get? ea = none := by
      cases e : X.s_0.heap.get? ea with
      | none => rfl
      | some o =>
        obtain ⟨o', e'⟩ := J.base.there ea o e (by rw [hx0]; exact fun z => nomatch z)
        rw [sI0] at e'
        cases e'
    have nP : ∀ p ∈ X.pn ++ pins, p.1 ≠ ea := fun p hp z => by
      have := (J.pin p hp).1
      rw [z, sI0] at this
      cases this
    have S3 := J3.suite he3 hd3 na nL nF
    refine wpAny_handleBy_cons (codeAny_handlers_test ?_) (by intro q; cases q)
    have LT : PySem.W.Looks (model X.prog X.w) h3 (typeOf (.ref ea)) cls := fun A Q E s k q => wpAny_typeOf_ref (k _ _ he3) (by rw [hz3.1]; exact q)
    refine hT ea oe3 (X.pn ++ pins) [] { s' with heap := h3 } σ' H' cls b S3 LT hb1 _ _ fun h3' kk => ?_
    have fl3' := flying_push fl3 kk
    have up3' : s'.heap.UpToSlots h3' := up3.trans (up_push kk)
    cases b with
    | true =>
      refine codeAny_handlers_suite_as ?_
      refine HandSPX.lands_againZ fl3' fun h4 fl4 up4 => ?_
      have J4 : Inv X pins σ' H' { s' with heap := h4 } := J.landed nb fl4.1 ((up.trans up3').trans up4) os ag
      obtain ⟨oe4, vs4, he4, hz4, hd4⟩ := fl4.there
      have S4 := J4.suite he4 hd4 na nL nF
      refine store_ok (X := X.suite ea ((ea, oe4) :: (X.pn ++ pins))) (v := .ref ea) S4 hN hi hloc rfl (fun s5 S5 => ?_) (.inr hln)
      refine wpAny_mono ((hsu ea oe4 (X.pn ++ pins) ⟨_, hd4⟩).run [] s5 _ H' _ S5 (hyes rfl ea na)) (fun fl s6 hsp => ?_) (fun _ _ z => False.elim z)
      cases fl with
      | next =>
        obtain ⟨σ6, H6, S6, q6⟩ := hsp
        obtain ⟨g6, n6, _⟩ := S6.pin (ea, oe4) (List.mem_append_left _ List.mem_cons_self)
        exact gone_ok (track (S6.unsuite ok) g6 hz4 hd4 n6 n0 nL nP) hN hi hln fun s7 J7 => ⟨_, _, J7, q6⟩
      | brk => exact False.elim hsp.choose_spec.choose_spec.2
      | cont => exact False.elim hsp.choose_spec.choose_spec.2
      | ret u =>
        obtain ⟨v6, σ6, H6, S6, r6, q6⟩ := hsp
        exact q6.elim
    | false =>
      show wpAny _ X.A (handleBy (.ref ea) X.env []) _ _ _
      refine wpAny_handleBy_nil ?_
      obtain ⟨k1, k2, k3, oe, vs, T, oT, ts', he, hz, hd, h1, hr⟩ := id fl3'
      unfold PySem.passOn
      refine wpAny_bind (wpAny_field he hd h1 ?_)
      rw [if_neg (show ¬ ((Value.ref T == Value.none) = true) from by simp)]
      have fin : wpAny (model X.prog X.w) X.A (setFlight (.ref ea) X.env.frame) (fun _ s4 => wpAny (model X.prog X.w) X.A (throw (.ref ea) : Sem Flow) (SP X pins D) X.xe s4) X.xe { s' with heap := h3' } := by
        rw [hf]
        refine HandSPX.setFlight_upZ fl3' fun h4 hh4 up4 => wpAny_throw (tk _ _ ?_)
        exact ⟨ea, gB, sI, pins, σ', H', cls, dd, rfl, J, nb, (up.trans up3').trans up4, .inr (.inr (by rw [hs]; exact hh4)), na, os, ag, hno rfl⟩
      first
        | exact wpAny_bind (wpAny_pure (wpAny_bind fin))
        | exact wpAny_bind fin
  · cases fl with
    | next =>
      obtain ⟨σ', H', J', q⟩ := hsp
      exact wpAny_execs_nil ⟨σ', H', J'.ofTry ok, q⟩
    | brk =>
      obtain ⟨σ', H', J', q⟩ := hsp
      exact ⟨σ', H', J'.ofTry ok, q⟩
    | cont =>
      obtain ⟨σ', H', J', q⟩ := hsp
      exact ⟨σ', H', J'.ofTry ok, q⟩
    | ret u =>
      obtain ⟨v, σ', H', J', r, q⟩ := hsp
      exact ⟨v, σ', H', J'.ofTry ok, r, q⟩
end
end XG

set_option maxHeartbeats 4000000
namespace XG
section
open PySem PySem.W PySem.Spec PySem.Calls PyProof.Rows
variable {prog : Program} {w : World} {A : Around} {E : Value → Shared → Prop} {s : Shared} {K : Frag} {x D : Addr} {ox : Obj} {od : Option Obj}
theorem dataG {C : Addr} {name : Str} {a g : Value} (hc : (clsIn K C).isSome = true) (ha : findIn K (.ref C) name = some (some a)) (hg : specialIn K a "__get__" = some (some g)) (ht : takesIn K a = some true) : findObj K C od name = some (.bind g a) := by
  obtain ⟨cd, hc⟩ := Option.isSome_iff_exists.mp hc
  unfold findObj
  rw [hc, Option.bind_some, ha, Option.bind_some]
  simp [hg, ht]
/-- what the class D must say -/
structure ExD (K : Frag) (D : Addr) : Prop where
  hg : findIn K (.ref D) "__getattribute__" = some (some (.builtin "BaseException.__getattribute__"))
  hk : findIn K (.ref D) "__getattr__" = some none
  hs : subIn K (.ref D) (.type "BaseException") = some true
  hd : hasDictIn K D = true
  ha : findIn K (.ref D) "__class__" = some (some (.builtin "object.__class__"))
  hn : specialIn K (.builtin "object.__class__") "__get__" = some (some (.builtin "getset_descriptor.__get__"))
  ht : takesIn K (.builtin "object.__class__") = some true
  hm : mroIn K D (.type "object") = some true
theorem class_of_exc {Q : Option Value → Shared → Prop} (T : ExD K D) (X : K.In s.heap) (I : InstAt s.heap x ox D od) (h : Q (some (.ref D)) { s with toks := s.toks + 1 }) : wpAny (model prog w) A (getAttr? (.ref x) "__class__") Q E s := by
  have hf : findObj K D od "__class__" = some (.bind (.builtin "getset_descriptor.__get__") (.builtin "object.__class__")) := dataG (by obtain ⟨cd, hc, _⟩ := any_some T.hd; rw [hc]; rfl) T.ha T.hn T.ht
  obtain ⟨h0, g, d, t, os⟩ := s
  have l0 := I.type (M := model prog w)
  have l1 := looks_findIn (M := model prog w) X T.hg
  have l2 := looks_findIn (M := model prog w) X T.hk
  have l3 := looks_find (M := model prog w) X I hf
  have sb : Looks (model prog w) h0 (isInstance (.ref x) (.type "BaseException")) true := l0.andThen (looks_subIn X T.hs)
  have z0 : (false && onTheHeap (Value.builtin "BaseException.__getattribute__")) = false := rfl
  have z2 : (Value.builtin "BaseException.__getattribute__" == Value.builtin "object.__getattribute__") = false := by decide +kernel
  have z1 : (onTheHeap (Value.ref D) && Value.builtin "BaseException.__getattribute__" == Value.builtin "object.__getattribute__") = false := by
    rw [z2]
    rfl
  unfold getAttr? getAttrBy? getAttrBy
  refine wpAny_bind (wpAny_mkText (wpAny_bind (wpAny_attempt (wpAny_holding (wpAny_bind (l0.at (wpAny_bind (l1.at ?_))))))))
  show wpAny _ _ (if (onTheHeap (Value.ref D) && Value.builtin "BaseException.__getattribute__" == Value.builtin "object.__getattribute__") = true then _ else _) _ _ _
  rw [z1, if_neg Bool.false_ne_true]
  unfold getAttrByItsOwn hookBefore
  refine wpAny_bind ?_
  rw [if_pos (show onTheHeap (Value.ref D) = true from rfl)]
  refine l2.at ?_
  refine wpAny_bind (wpAny_attempt (wpAny_holding ?_))
  unfold callGetattribute
  rw [z0, if_neg Bool.false_ne_true]
  unfold boundAndCalled
  rw [PySem.F.excAttr_ValueError.ga.bind (.ref x)]
  refine wpAny_bind (wpAny_pure ?_)
  show wpAny _ _ (call (.builtin "BaseException.__getattribute__") [.ref x, .str "__class__" t]) _ _ _
  refine wpAny_call (codeAny_call_builtin PySem.F.excAttr_ValueError.ga.plain PySem.F.entry_bexc_ga ?_)
  refine @check_slot (model prog w) _ _ ⟨h0, g, d, t + 1, os⟩ "BaseException.__getattribute__" "BaseException" "__getattribute__" (.ref x) [.str "__class__" t] [] _ (by decide +kernel) (by decide +kernel) sb (PySem.F.args_bexc_ga (.ref x) (.str "__class__" t)) ?_
  unfold Builtin.«object.__getattribute__»
  refine wpAny_bind (wpAny_of_eq (a := ((Value.ref x : Value), [Value.str "__class__" t])) (by first | rfl | (simp only [slotArgs]; rfl)) ?_)
  refine wpAny_bind (wpAny_pure (wpAny_bind (l0.at (wpAny_bind (l3.at ?_)))))
  show wpAny _ _ (holding [Value.builtin "object.__class__"] (call (.builtin "getset_descriptor.__get__") [.builtin "object.__class__", .ref x, .ref D]) >>= ret) _ _ _
  refine wpAny_bind (wpAny_holding (wpAny_call (class_get (s := ⟨h0, g, d, t + 1, os⟩) (ox := ox) (od := od) X I T.hm ?_)))
  refine wpAny_pure ?_
  show wpAny _ _ (handedOut (.ref D)) _ _ _
  rw [handedOut_of (v := .ref D) rfl]
  first
    | exact wpAny_pure (wpAny_pure h)
    | exact wpAny_pure h
    | exact wpAny_pure (wpAny_bind (wpAny_pure (wpAny_pure h)))
theorem kitG (T : ExD K D) : KitX K (.ref x) (.ref D) (fun h => ∃ ox od, InstAt h x ox D od) where
  ty := fun _ _ _ ⟨_, _, I⟩ => I.type
  it := fun _ _ X _ => by
    obtain ⟨cd, hc, _⟩ := any_some T.hd
    unfold clsIn at hc
    split at hc
    · rename_i c' d' cd' sl' ho
      intro A' Q' E' s' k q
      unfold isType loadHead
      exact wpAny_bind (wpAny_loadPart (k _ _ (X _ _ ho)) (wpAny_pure q))
    · cases hc
  ne := fun h tp dd its n sl X htp => by
    obtain ⟨cd, hc, _⟩ := any_some T.hd
    refine Bool.eq_false_iff.mpr fun q => ?_
    have e : D = tp := Value.ref.inj (beq_iff_eq.mp q)
    subst e
    unfold clsIn at hc
    split at hc
    · rename_i c' d' cd' sl' ho
      have z := (X _ _ ho).symm.trans htp
      cases z
    · cases hc
  ca := fun X ⟨_, _, I⟩ k => class_of_exc T X I k
end
open PySem PySem.Spec PyProof.Rows L2
/-- an error that is kept: its class, its own dict with the fields -/
def Kept (K : PySem.W.Frag) (H : Hp) (a D : Addr) (fs : List (Str × V)) : Prop := ∃ dd, H a = some (ExT (.ref D) (some dd) a) ∧ H dd = some (.xd fs)
theorem kept_inst {X : Cx} {pins : List (Addr × Obj)} {σ : L2.St} {H : Hp} {s : Shared} {a D dd : Addr} {fs : List (Str × V)} (I : Inv X pins σ H s) (h1 : H a = some (ExT (.ref D) (some dd) a)) (h2 : H dd = some (.xd fs)) :
    ∃ oe od mA, PySem.W.InstAt s.heap a oe D (some od) ∧ s.heap.Ns1 dd mA ∧ (∀ f, RelO (fs.lookup f) (mA f)) ∧ s.heap.get? dd = some od := by
  obtain ⟨⟨oe, vs, ga, hz, hd⟩, _, _⟩ := I.hok a _ h1
  obtain ⟨mA, hns, hr⟩ := (show ObjOk X.prog X.w H s.heap dd (.xd fs) from I.hok dd _ h2)
  obtain ⟨od, ho, hl⟩ := lookIn_ns hns
  exact ⟨oe, od, mA, ⟨ga, hz.1, by unfold PySem.W.notCls; rw [hd] <;> rfl, by rw [hz.2]; exact ho⟩, hns, hr, ho⟩
def rIsX (K : PySem.W.Frag) : List V → Hp → VK → Prop := fun xs H Q => ∃ (a D : Addr) (fs : List (Str × V)) (c : V) (u : Value) (b : Bool), xs = [.ref a, c] ∧ ClsV c u ∧ Kept K H a D fs ∧ ExD K D ∧ PySem.W.kitOne K (.ref D) u = some b ∧ Q (.bl b) H
def rIsXT (K : PySem.W.Frag) : List V → Hp → VK → Prop := fun xs H Q => ∃ (a D tp : Addr) (fs : List (Str × V)) (cs : List V) (us : List Value) (b : Bool), xs = [.ref a, .ref tp] ∧ H tp = some (.tup cs) ∧ Paired ClsV cs us ∧ Kept K H a D fs ∧ ExD K D ∧ PySem.W.kitAny K (.ref D) us = some b ∧ Q (.bl b) H
theorem call_isX {X : Cx} : CallR X (.builtin "isinstance") (rIsX X.K) := by
  intro pins s σ H xs us Q I r h
  obtain ⟨a, D, fs, c, u, b, rfl, k, ⟨dd, h1, h2⟩, T, e, q⟩ := h
  obtain ⟨u1, u2, rfl, r1, r2⟩ := vals2 r
  cases (show u1 = Value.ref a from r1)
  have e2 := k.eq r2
  subst e2
  obtain ⟨oe, od, mA, J, _⟩ := kept_inst I h1 h2
  exact PySem.W.kia_one (kitG T) I.kIn ⟨_, _, J⟩ e (fun z => nomatch z) fun tk => ⟨.bl b, H, I.tok tk, rfl, q⟩
theorem call_isXT {X : Cx} : CallR X (.builtin "isinstance") (rIsXT X.K) := by
  intro pins s σ H xs us Q I r h
  obtain ⟨a, D, tp, fs, cs, ws, b, rfl, hT, k, ⟨dd, h1, h2⟩, T, e, q⟩ := h
  obtain ⟨u1, u2, rfl, r1, r2⟩ := vals2 r
  cases (show u1 = Value.ref a from r1)
  cases (show u2 = Value.ref tp from r2)
  obtain ⟨_, its, rv, o, g1, g2, n, g3⟩ := (show ObjOk X.prog X.w H s.heap tp (.tup cs) from I.hok tp _ hT)
  have e3 := ClsV.all k rv
  subst e3
  obtain ⟨oc, od', dt, sl⟩ := o
  simp only at g2 g3
  subst g2 g3
  obtain ⟨oe, od, mA, J, _⟩ := kept_inst I h1 h2
  exact PySem.W.kia_tup (kitG T) I.kIn ⟨_, _, J⟩ g1 e (fun z => nomatch z) fun tk => ⟨.bl b, H, I.tok tk, rfl, q⟩
/-- e.f, e a kept error -/
def tFldX (K : PySem.W.Frag) (f : Str) (te : TE) : TE := fun σ H Q => te σ H fun x H1 => ∃ (a D : Addr) (fs : List (Str × V)) (v : V), x = .ref a ∧ Kept K H1 a D fs ∧ ExD K D ∧ PySem.W.findIn K (.ref D) f = some none ∧ fs.lookup f = some v ∧ Q v H1
theorem pe_fldX {X : Cx} {e : Expr} {te : TE} {pos : Pos} {n : Str} (he : PE X e te) (hb : attributeBase e n X.env (eval e X.env) = eval e X.env := by rfl) : PE X (.Attribute e n pos) (tFldX X.K n te) := by
  refine ⟨fun pins s σ H Q I h => ?_⟩
  refine attr_of hb (thn (he.run pins s σ H _ I h) fun u s1 hh => ?_)
  obtain ⟨x, H1, I1, rx, a, D, fs, v, rfl, ⟨dd, h1, h2⟩, T, hno, l, q⟩ := hh
  obtain rfl : u = Value.ref a := rx
  obtain ⟨⟨oe, vs, ga, hz, hd⟩, _, _⟩ := I1.hok a _ h1
  obtain ⟨mA, hns, hr⟩ := (show ObjOk X.prog X.w H1 s1.heap dd (.xd fs) from I1.hok dd _ h2)
  obtain ⟨od, ho, hl⟩ := lookIn_ns hns
  obtain ⟨u, hu, ru⟩ := RelO.some_of (v := v) (o := mA n) (by rw [← l]; exact hr n)
  have J : PySem.W.InstAt s1.heap a oe D (some od) := ⟨ga, hz.1, by unfold PySem.W.notCls; rw [hd] <;> rfl, by rw [hz.2]; exact ho⟩
  exact HandSPX.exc_get I1.kIn J T.hg T.hk T.hs (PySem.W.findObj_own T.hd hno rfl (by rw [hl, hu])) (handed_of ru) ⟨v, H1, I1.tok _, ru, q⟩
end XG

namespace K01
open PySem PySem.Spec PyProof.Rows L2 ZX DL RT
def topS (i : Nat) : Stmt := PySem.Challenge.pw_breathrows_k01_standings_numbered.main.body.getD i (.Pass ⟨0, 0, 0, 0⟩)
abbrev s_how_many : Stmt := topS 5
abbrev N_how_many : List Str := ["rooms", "product", "room"]
theorem c_how_many : FnScope N_how_many ["rooms"] (defScope s_how_many) := ⟨rfl, rfl, rfl, by decide +kernel, rfl, by decide +kernel, by decide +kernel⟩
abbrev s_place_of : Stmt := topS 6
abbrev N_place_of : List Str := ["rooms", "standing", "place", "room", "many"]
theorem c_place_of : FnScope N_place_of ["rooms", "standing"] (defScope s_place_of) := ⟨rfl, rfl, rfl, by decide +kernel, rfl, by decide +kernel, by decide +kernel⟩
abbrev s_standing_at : Stmt := topS 7
abbrev N_standing_at : List Str := ["rooms", "place", "from_right", "rest", "room", "many"]
theorem c_standing_at : FnScope N_standing_at ["rooms", "place"] (defScope s_standing_at) := ⟨rfl, rfl, rfl, by decide +kernel, rfl, by decide +kernel, by decide +kernel⟩
abbrev s_L_box : Stmt := topS 9
abbrev N_L_box : List Str := ["_law_script", "_law_k", "_law_cell"]
theorem c_L_box : FnScope N_L_box ["_law_script", "_law_k"] (defScope s_L_box) := ⟨rfl, rfl, rfl, by decide +kernel, rfl, by decide +kernel, by decide +kernel⟩
abbrev s_L_take : Stmt := topS 10
abbrev N_L_take : List Str := ["_law_box_here", "_law_bound", "_law_found", "_law_once"]
theorem c_L_take : FnScope N_L_take ["_law_box_here", "_law_bound"] (defScope s_L_take) := ⟨rfl, rfl, rfl, by decide +kernel, rfl, by decide +kernel, by decide +kernel⟩
abbrev s_L_same : Stmt := topS 11
abbrev N_L_same : List Str := ["_law_found", "_law_due", "_law_one", "_law_two"]
theorem c_L_same : FnScope N_L_same ["_law_found", "_law_due"] (defScope s_L_same) := ⟨rfl, rfl, rfl, by decide +kernel, rfl, by decide +kernel, by decide +kernel⟩
abbrev s_L_rooms : Stmt := topS 12
abbrev N_L_rooms : List Str := ["_law_box_here", "_law_most", "_law_many", "_law_spot"]
theorem c_L_rooms : FnScope N_L_rooms ["_law_box_here", "_law_most"] (defScope s_L_rooms) := ⟨rfl, rfl, rfl, by decide +kernel, rfl, by decide +kernel, by decide +kernel⟩
abbrev s_L_standing : Stmt := topS 13
abbrev N_L_standing : List Str := ["_law_box_here", "_law_homes", "_law_room"]
theorem c_L_standing : FnScope N_L_standing ["_law_box_here", "_law_homes"] (defScope s_L_standing) := ⟨rfl, rfl, rfl, by decide +kernel, rfl, by decide +kernel, by decide +kernel⟩
abbrev s_L_no_place : Stmt := topS 14
abbrev N_L_no_place : List Str := ["_law_place_rooms", "_law_number", "_law_caught", "error"]
theorem c_L_no_place : FnScope N_L_no_place ["_law_place_rooms", "_law_number"] (defScope s_L_no_place) := ⟨rfl, rfl, rfl, by decide +kernel, rfl, by decide +kernel, by decide +kernel⟩
abbrev s_L_all : Stmt := topS 15
abbrev N_L_all : List Str := ["_law_some", "_law_found", "_law_room", "_law_longer", "_law_one", "_law_many"]
theorem c_L_all : FnScope N_L_all ["_law_some"] (defScope s_L_all) := ⟨rfl, rfl, rfl, by decide +kernel, rfl, by decide +kernel, by decide +kernel⟩
abbrev s_L_count : Stmt := topS 16
abbrev N_L_count : List Str := ["_law_some", "_law_found", "_law_room"]
theorem c_L_count : FnScope N_L_count ["_law_some"] (defScope s_L_count) := ⟨rfl, rfl, rfl, by decide +kernel, rfl, by decide +kernel, by decide +kernel⟩
abbrev s_L_right : Stmt := topS 17
abbrev N_L_right : List Str := ["_law_box_here", "_law_some", "_law_count_here", "_law_due", "_law_told", "_law_great", "_law_one", "_law_whole", "_law_at", "_law_last", "_law_bad", "_law_bellows", "_law_number"]
theorem c_L_right : FnScope N_L_right ["_law_box_here"] (defScope s_L_right) := ⟨rfl, rfl, rfl, by decide +kernel, rfl, by decide +kernel, by decide +kernel⟩
abbrev s_law : Stmt := topS 18
abbrev N_law : List Str := ["_law_script", "_law_k"]
theorem c_law : FnScope N_law ["_law_script"] (defScope s_law) := ⟨rfl, rfl, rfl, by decide +kernel, rfl, by decide +kernel, by decide +kernel⟩

def Pl : Nat → PyData → Prop
  | _, .none => True
  | _, .bool _ => True
  | _, .int _ => True
  | _, .str x => PyData.strOk x = true
  | 0, .list _ => False
  | 0, .tuple _ => False
  | n + 1, .list xs => xs.length ≤ 100000 ∧ ∀ y ∈ xs, Pl n y
  | n + 1, .tuple xs => xs.length ≤ 100000 ∧ ∀ y ∈ xs, Pl n y
  | _, .dict _ => False
def Rsame (n : Nat) : List PyData → PyData → Prop := fun ds d => ∃ x, ds = [x, x] ∧ Pl n x ∧ d = .bool true
theorem zip_fst {ns : List Int} {ds : List PyData} {j : Nat} {d : PyData} (h : (zipD (ns.map .int) ds)[j]? = some d) : ∃ (n : Int) (e : PyData), d = .tuple [.int n, e] ∧ ds[j]? = some e ∧ ns[j]? = some n := by
  unfold zipD at h
  rw [List.getElem?_zipWith, List.getElem?_map] at h
  cases h1 : ns[j]? with
  | none =>
    rw [h1] at h
    cases h
  | some n =>
    cases h2 : ds[j]? with
    | none =>
      rw [h1, h2] at h
      cases h
    | some e =>
      rw [h1, h2] at h
      exact ⟨n, e, (Option.some.inj h).symm, rfl, rfl⟩

structure Bi (mg : Str → Option Value) : Prop where
  n_len : mg "len" = none
  n_isinstance : mg "isinstance" = none
  n_all : mg "all" = none
  n_zip : mg "zip" = none
  n_range : mg "range" = none
  n_min : mg "min" = none
  n_max : mg "max" = none
  n_abs : mg "abs" = none
  n_int : mg "int" = none
  n_bool : mg "bool" = none
  n_str : mg "str" = none
  n_list : mg "list" = none
  n_tuple : mg "tuple" = none
  n_reversed : mg "reversed" = none
  n_divmod : mg "divmod" = none
  n_LookupError : mg "LookupError" = none

section
variable {P : Program} {w : World} {K : PySem.W.Frag} {mg : Str → Option Value} {base : Heap} {f : Addr} {fd : FuncData}
theorem ok_take (B : Bi mg) (F : Fun K "_law_take" "_law_take" s_L_take f fd) : FnOk P w K mg base CX0 1 f fd ["_law_box_here", "_law_bound"] (spB K Rtake) := by
  refine F.ok c_L_take (fun vs H Q E h => ?_) (fun cdv A outer s H vs Q E hr h => ?_)
  · obtain ⟨b, vs', G, ds, r, c, Φ, rfl, dd, _, ⟨m, rfl, _⟩, _⟩ := h
    rw [List.length_cons, dd.len]
    rfl
  · obtain ⟨b, vs', G, ds, r, c, Φ, rfl, dd, hw, ⟨m, rfl, m1, m2, rfl, rfl⟩, q⟩ := h
    cases dd with
    | cons d0 dn =>
    cases dn
    cases d0
    obtain ⟨c0, c1, c2, hb, p0, p1, p2, p3, p4⟩ := hw.inv
    have nG : G b = none := hw.no b rfl
    have fin : ∀ (d0 d2 i : Int), 0 ≤ d0 → 0 ≤ d2 → d2 + r ≤ 2 ^ 40 → 0 ≤ i → i < m → Q (.int i) (upd H b (.lst [.int d0, .int c1, .int d2])) := fun d0 d2 i a1 a2 a3 a4 a5 => by
      refine q _ (.int i) G _ ⟨fun _ _ e => e, fun a o e => ?_, fun _ _ _ => rfl, fun a o e n => ?_, fun a o e => ?_⟩ ⟨fun a o e => ?_, hw.no, ⟨d0, c1, d2, upd_same, a1, p1, p2, a2, a3⟩⟩ (.int i) ⟨i, rfl, a4, a5⟩
      · rw [upd_ne (ne_of_none e nG)]
        exact hw.sub a o e
      · rw [upd_ne n]
        exact e
      · by_cases ea : a = b
        · exact ⟨_, by rw [ea]; exact upd_same⟩
        · exact ⟨o, by rw [upd_ne ea]; exact e⟩
      · rw [upd_ne (ne_of_none e nG)]
        exact hw.sub a o e
    refine ⟨_, (pss_cons (ps_if (pt_cmpR op_gt (pe_ix ix_list (pv 0) pe_int (fun _ _ => rfl)) pe_int (nomark _)) (pss_cons (ps_set (i := 2) c_L_take.nd rfl (.inl rfl) (pe_op op_modN (pe_ix ix_list (pv 0) pe_int (fun _ _ => rfl)) (pv 1)))
      (pss_cons (ps_asg (pe_op op_fdivW (pe_ix ix_list (pv 0) pe_int (fun _ _ => rfl)) (pv 1)) (pg_sub (pv 0) pe_int set_list))
      (pss_one (ps_ret (pv 2))))) pss_nil)
      (pss_cons (ps_asg (pe_op op_add (pe_ix ix_list (pv 0) pe_int (fun _ _ => rfl)) pe_int) (pg_sub (pv 0) pe_int set_list))
      (pss_cons (ps_set (i := 3) c_L_take.nd rfl (.inl rfl) (pe_op op_modN (pe_op op_pow (pe_op op_add (pe_ix ix_list (pv 0) pe_int (fun _ _ => rfl)) (pe_op op_mul pe_int (pe_ix ix_list (pv 0) pe_int (fun _ _ => rfl)))) pe_int) pe_int))
      (pss_one (ps_ret (pe_op op_modN (pe_op op_fdivW (pe_op op_modN (pe_op op_add (pe_op op_mul (pv 3) (pe_op op_add (pe_op op_modN (pv 3) pe_int) pe_int)) (pe_op op_mul (pe_ix ix_list (pv 0) pe_int (fun _ _ => rfl)) pe_int)) pe_int) pe_int) (pv 1))))))), ?_⟩
    have hS : SqL K H b [.int c0, .int c1, .int c2] := .inl (.inl hb)
    refine ⟨.ref b, rfl, b, _, 0, .int c0, rfl, rfl, hS, rfl, c0, 0, rfl, rfl, _, rfl, ite2 (fun e => ?_) (fun e => ?_)⟩
    · have e0 : 0 < c0 := of_decide_eq_true e
      refine ⟨.ref b, rfl, b, _, 0, .int c0, rfl, rfl, hS, rfl, .int m, rfl, c0, m, rfl, rfl, by omega, ?_⟩
      refine ⟨.ref b, rfl, b, _, 0, .int c0, rfl, rfl, hS, rfl, .int m, rfl, c0, m, rfl, rfl, wide_div (b := 30) (by omega) (by omega) (by omega) (by omega), ?_⟩
      refine ⟨.ref b, rfl, b, _, 0, 0, rfl, rfl, hb, rfl, ?_⟩
      refine ⟨.int (c0.fmod m), rfl, ?_⟩
      refine fin (c0 / m) c2 (c0.fmod m) (Int.ediv_nonneg p0 (by omega)) p3 (by omega) ?_ ?_
      · rw [Int.fmod_eq_emod_of_nonneg _ (by omega)]
        exact Int.emod_nonneg _ (by omega)
      · rw [Int.fmod_eq_emod_of_nonneg _ (by omega)]
        exact Int.emod_lt_of_pos _ (by omega)
    · refine ⟨.ref b, rfl, b, _, 2, .int c2, rfl, rfl, hS, rfl, c2, 1, rfl, rfl, ?_⟩
      refine ⟨.ref b, rfl, b, _, 2, 2, rfl, rfl, hb, rfl, ?_⟩
      have hS2 : SqL K (upd H b (.lst [.int c0, .int c1, .int (c2 + 1)])) b [.int c0, .int c1, .int (c2 + 1)] := .inl (.inl upd_same)
      refine ⟨.ref b, rfl, b, _, 1, .int c1, rfl, rfl, hS2, rfl, .ref b, rfl, b, _, 2, .int (c2 + 1), rfl, rfl, hS2, rfl, 39373, c2 + 1, rfl, rfl, .inl ⟨by decide, by decide⟩, c1, 39373 * (c2 + 1), rfl, rfl, _, 5, rfl, rfl, ⟨by decide, by decide, ?_⟩, _, 2147483647, rfl, rfl, (show (2147483647 : Int) ≠ 0 by decide), ?_⟩
      · omega
      obtain ⟨z, hz⟩ : ∃ z, ((c1 + 39373 * (c2 + 1)) ^ (Int.toNat 5)).fmod 2147483647 = z := ⟨_, rfl⟩
      have z0 : 0 ≤ z := by
        rw [← hz, Int.fmod_eq_emod_of_nonneg _ (by decide)]
        exact Int.emod_nonneg _ (by decide)
      have z1 : z < 2147483647 := by
        rw [← hz, Int.fmod_eq_emod_of_nonneg _ (by decide)]
        exact Int.emod_lt_of_pos _ (by decide)
      refine ⟨.int z, by rw [← hz]; rfl, .int z, by rw [← hz]; rfl, z, 40009, rfl, rfl, (show (40009 : Int) ≠ 0 by decide), _, 7, rfl, rfl, z, _, rfl, rfl, .inl ⟨by omega, by omega⟩, .ref b, rfl, b, _, 2, .int (c2 + 1), rfl, rfl, hS2, rfl, c2 + 1, 7919, rfl, rfl, .inr ⟨by decide, by decide⟩, _, _, rfl, rfl, _, 2147483629, rfl, rfl, (show (2147483629 : Int) ≠ 0 by decide), _, 64, rfl, rfl, wide_div (b := 7) (by decide) (by decide) (by decide) (by decide), .int m, rfl, _, m, rfl, rfl, by omega, ?_⟩
      refine fin c0 (c2 + 1) _ p0 (by omega) (by omega) ?_ ?_
      · rw [Int.fmod_eq_emod_of_nonneg _ (by omega : 0 ≤ m)]
        exact Int.emod_nonneg _ (by omega)
      · rw [Int.fmod_eq_emod_of_nonneg _ (by omega : 0 ≤ m)]
        exact Int.emod_lt_of_pos _ (by omega)
theorem e_lenS {S : MS} {δ : List SD} {te : TE} {d : PyData} {l : List PyData} (h : Dt K S te δ (.dat d)) (hs : IsSeq d l) : Dt K S (tCB (fun xs H Q => ∃ p ys, xs = [.ref p] ∧ (SqL K H p ys ∨ SqT K H p ys) ∧ Q (.int ys.length) H) (tCons te tNil)) δ (.i l.length) := by
  rcases hs with rfl | rfl
  · exact d_cb (da_cons h a_nil) rc_lenL
  · exact d_cb (da_cons h a_nil) rc_lenT
def RsameN : Nat → List PyData → PyData → Prop
  | 0 => fun _ _ => False
  | n + 1 => Rsame n
structure Cs (P : Program) (w : World) (K : PySem.W.Frag) (mg : Str → Option Value) (base : Heap) (n : Nat) : Prop where
  L_same : Cl P w K mg base n "_law_same" s_L_same ["_law_found", "_law_due"] (spP K (RsameN n))
theorem zip_same {xs : List PyData} {j : Nat} {d : PyData} (h : (zipD xs xs)[j]? = some d) : ∃ e, d = .tuple [e, e] ∧ e ∈ xs := by
  unfold zipD at h
  rw [List.getElem?_zipWith] at h
  cases h1 : xs[j]? with
  | none =>
    rw [h1] at h
    cases h
  | some e =>
    rw [h1] at h
    exact ⟨e, (Option.some.inj h).symm, List.mem_of_getElem? h1⟩
theorem ok_same_step (B : Bi mg) {n : Nat} (C : Cs P w K mg base n) (F : Fun K "_law_same" "_law_same" s_L_same f fd) : FnOk P w K mg base CX0 (n + 1) f fd ["_law_found", "_law_due"] (spP K (RsameN (n + 1))) := by
  refine fn_pure F c_L_same (fun ds d ⟨x, e, _⟩ => by rw [e]; rfl) fun cdv A outer s H E hr => ⟨_, (pss_cons (ps_if (pt_val (pe_callB call_isiT (by rfl) B.n_isinstance (by decide +kernel) (pa_cons (pv 1) (pa_cons (pe_tup (pa_cons (pe_bltn (v := .ty "list") (by rfl) B.n_list (by decide +kernel) rfl) (pa_cons (pe_bltn (v := .ty "tuple") (by rfl) B.n_tuple (by decide +kernel) rfl) pa_nil))) pa_nil)))) (pss_cons (ps_if (PW.pt (pw_or (pt_cmpR op_ne (pe_callB call_isi (by rfl) B.n_isinstance (by decide +kernel) (pa_cons (pv 0) (pa_cons (pe_bltn (v := .ty "list") (by rfl) B.n_list (by decide +kernel) rfl) pa_nil))) (pe_callB call_isi (by rfl) B.n_isinstance (by decide +kernel) (pa_cons (pv 1) (pa_cons (pe_bltn (v := .ty "list") (by rfl) B.n_list (by decide +kernel) rfl) pa_nil))) (nomark _)) (pw_or1 (pt_cmpR op_ne (pe_callB call_isi (by rfl) B.n_isinstance (by decide +kernel) (pa_cons (pv 0) (pa_cons (pe_bltn (v := .ty "tuple") (by rfl) B.n_tuple (by decide +kernel) rfl) pa_nil))) (pe_callB call_isi (by rfl) B.n_isinstance (by decide +kernel) (pa_cons (pv 1) (pa_cons (pe_bltn (v := .ty "tuple") (by rfl) B.n_tuple (by decide +kernel) rfl) pa_nil))) (nomark _))))) (pss_one (ps_ret pe_bl)) pss_nil)
      (pss_cons (ps_if (pt_cmpR op_ne (pe_callB call_len_seq (by rfl) B.n_len (by decide +kernel) (pa_cons (pv 0) pa_nil)) (pe_callB call_len_seq (by rfl) B.n_len (by decide +kernel) (pa_cons (pv 1) pa_nil)) (nomark _)) (pss_one (ps_ret pe_bl)) pss_nil)
      (pss_one (ps_ret (pe_callB (cr_all rfl) (by rfl) B.n_all (by decide +kernel) (pa_cons (pe_lc (own := [("_law_one", 2), ("_law_two", 3)]) (g := gTup K 2 (gCons (gName 2) (gCons (gName 3) gNil))) (tt := tYes) rfl c_L_same.nd (pi_zipX (by rfl) B.n_zip (pa_cons (pv 0) (pa_cons (pv 1) pa_nil))) (blkOk_by (N := N_L_same) (sc := defScope s_L_same) (by decide +kernel)) (fun _ _ _ _ _ => (pg_tup rfl (pgs_cons (pg_name (i := 2) c_L_same.nd rfl (.inl rfl)) (pgs_cons (pg_name (i := 3) c_L_same.nd rfl (.inl rfl)) pgs_nil)))) (fun _ _ _ _ _ => pts_nil) (fun _ _ _ _ _ => (pe_cl C.L_same hr (Nat.le_refl _) (by rfl) (pa_cons (pv 2) (pa_cons (pv 3) pa_nil))))) pa_nil)))))) pss_nil)
      (pss_cons (ps_if (PW.pt (pw_or (pt_cmpR op_isN (pv 1) pe_non (nomark _)) (pw_or1 (pt_val (pe_callB call_isi (by rfl) B.n_isinstance (by decide +kernel) (pa_cons (pv 1) (pa_cons (pe_bltn (v := .ty "str") (by rfl) B.n_str (by decide +kernel) rfl) pa_nil))))))) (pss_one (ps_ret (pe_and (pe_cmpR (op_eqD hr.units) (pv 0) (pv 1) (nomark _)) (pe_one (pe_cmpR op_eq (pe_callB call_isi (by rfl) B.n_isinstance (by decide +kernel) (pa_cons (pv 0) (pa_cons (pe_bltn (v := .ty "str") (by rfl) B.n_str (by decide +kernel) rfl) pa_nil))) (pe_callB call_isi (by rfl) B.n_isinstance (by decide +kernel) (pa_cons (pv 1) (pa_cons (pe_bltn (v := .ty "str") (by rfl) B.n_str (by decide +kernel) rfl) pa_nil))) (nomark _)))))) pss_nil)
      (pss_one (ps_ret (pe_and (pe_callB call_isi (by rfl) B.n_isinstance (by decide +kernel) (pa_cons (pv 0) (pa_cons (pe_bltn (v := .ty "int") (by rfl) B.n_int (by decide +kernel) rfl) pa_nil))) (pe_and (pe_cmpR op_eq (pe_callB call_isi (by rfl) B.n_isinstance (by decide +kernel) (pa_cons (pv 0) (pa_cons (pe_bltn (v := .ty "bool") (by rfl) B.n_bool (by decide +kernel) rfl) pa_nil))) (pe_callB call_isi (by rfl) B.n_isinstance (by decide +kernel) (pa_cons (pv 1) (pa_cons (pe_bltn (v := .ty "bool") (by rfl) B.n_bool (by decide +kernel) rfl) pa_nil))) (nomark _)) (pe_one (pe_cmpR (op_eqD hr.units) (pv 0) (pv 1) (nomark _))))))))), ?_⟩
  rintro ds d ⟨x, rfl, hp, rfl⟩
  have seq : ∀ (m : Nat) (xs : List PyData), n = m + 1 → IsSeq x xs → xs.length ≤ 100000 → (∀ y ∈ xs, Pl m y) →
      Dt K pu (tCB (rAll K) (tCons (tLc (iZipX K (tCons (tVar 0) (tCons (tVar 1) tNil))) (gTup K 2 (gCons (gName 2) (gCons (gName 3) gNil))) tYes (tCall (spP K (RsameN n)) [] E0 (tCons (tVar 2) (tCons (tVar 3) tNil))) [2, 3]) tNil)) (startD N_L_same [x, x]) (.b true) := fun m xs em hs hl hy => by
    subst em
    refine (e_all (g := fun _ => true) (d_lc (δg := fun d => match d with | .tuple [a, b] => [.dat x, .dat x, .dat a, .dat b] | _ => []) (i_zip (da_cons (e_vd rfl) (da_cons (e_vd rfl) a_nil)) hs hs) (fun j d hd => ?_) (fun j d hd => ?_) ?_)).mono fun s e => ?_
    · obtain ⟨e, rfl, _⟩ := zip_same hd
      exact tg_pair
    · obtain ⟨e, rfl, he⟩ := zip_same hd
      exact d_call (ds := [e, e]) (da_cons (e_vd rfl) (da_cons (e_vd rfl) a_nil)) ⟨e, rfl, hy e he, rfl⟩
    · unfold zipD
      rw [List.length_zipWith]
      omega
    · rw [e]
      simp
  have isq : isL x = true ∨ isT x = true → ∃ (m : Nat) (xs : List PyData), n = m + 1 ∧ IsSeq x xs ∧ xs.length ≤ 100000 ∧ ∀ y ∈ xs, Pl m y := fun h => by
    cases n with
    | zero => cases x <;> first | exact hp.elim | (rcases h with h | h <;> cases h)
    | succ m =>
      cases x with
      | list xs => exact ⟨m, xs, rfl, .inl rfl, hp.1, hp.2⟩
      | tuple xs => exact ⟨m, xs, rfl, .inr rfl, hp.1, hp.2⟩
      | none => rcases h with h | h <;> cases h
      | bool b => rcases h with h | h <;> cases h
      | int b => rcases h with h | h <;> cases h
      | str b => rcases h with h | h <;> cases h
      | dict b => rcases h with h | h <;> cases h
  have shp : isL x = false → isT x = false → SeqAt.shaped x = true := fun h1 h2 => by
    cases x with
    | none => rfl
    | bool b => rfl
    | int b => rfl
    | str b =>
      have hq : PyData.strOk b = true := by
        cases n <;> exact hp
      show (PyData.strOk b && true) = true
      rw [hq]
      rfl
    | list l => cases h1
    | tuple l => cases h2
    | dict l => cases n <;> exact hp.elim
  refine s_if0 (c := isL x || isT x) (t_val (e_isiT (e_vd rfl) (kb_list _) (kb_tup _))) (fun h => s_end ?_) (fun h => ?_)
  · obtain ⟨m, xs, em, hs, hl, hy⟩ := isq (by simpa using h)
    refine s_if0 (c := false) ((t_or (t_test (d_op (e_isi (e_vd rfl) (kb_list _)) (e_isi (e_vd rfl) (kb_list _)) rv_neB)) fun _ => t_test (d_op (e_isi (e_vd rfl) (kb_tup _)) (e_isi (e_vd rfl) (kb_tup _)) rv_neB)).mono fun c h => by rw [h]; simp) (fun h => nomatch h) fun _ => ?_
    refine s_if0 (c := false) ((t_test (d_op (e_lenS (e_vd rfl) hs) (e_lenS (e_vd rfl) hs) rv_neI)).mono fun c h => by rw [h]; simp) (fun h => nomatch h) fun _ => ?_
    exact s_ret (seq m xs em hs hl hy)
  · have hL : isL x = false := by
      cases hq : isL x with
      | false => rfl
      | true =>
        rw [hq] at h
        cases h
    have hT : isT x = false := by
      cases hq : isT x with
      | false => rfl
      | true =>
        rw [hq, hL] at h
        cases h
    have hsh := shp hL hT
    have hev : PyData.eqv x x = true := SeqAt.eqv_refl x (SeqAt.canLay_of_shaped hsh)
    refine s_if0 (t_or (t_test (d_op (e_vd rfl) e_non (rv_isN (s := .unk)))) fun _ => t_val (e_isi (e_vd rfl) (kb_str _))) (fun _ => s_retSeq ?_) (fun h2 => s_ret ?_)
    · exact (e_andV (d_op (e_vd rfl) (e_vd rfl) (rv_eqD hsh hsh)) fun _ => d_op (e_isi (e_vd rfl) (kb_str _)) (e_isi (e_vd rfl) (kb_str _)) rv_eqB).mono fun s e => by
        rw [e, hev]
        simp
    · refine (e_andV (e_isi (e_vd rfl) (kb_int _)) fun _ => e_andV (d_op (e_isi (e_vd rfl) (kb_bool _)) (e_isi (e_vd rfl) (kb_bool _)) rv_eqB) fun _ => d_op (e_vd rfl) (e_vd rfl) (rv_eqD hsh hsh)).mono fun s e => ?_
      rw [e, hev]
      cases x with
      | int b => rfl
      | bool b => simp [isI, isB]
      | none => cases h2
      | str b => cases h2
      | list b => cases hL
      | tuple b => cases hT
      | dict b => cases n <;> exact hp.elim
theorem cl_same (B : Bi mg) (F : Fun K "_law_same" "_law_same" s_L_same f fd) (hm : mg "_law_same" = some (.ref f)) (b : Binds K fd ["_law_found", "_law_due"] []) : ∀ n, Cs P w K mg base n
  | 0 => ⟨⟨f, fd, F, ⟨fun vs H Q E ⟨_, _, _, _, _, h, _⟩ => h.elim, fun _ _ _ _ _ _ _ _ _ _ _ _ _ ⟨_, _, _, _, _, h, _⟩ => h.elim⟩, hm, b⟩⟩
  | n + 1 => ⟨⟨f, fd, F, ok_same_step B (cl_same B F hm b n) F, hm, b⟩⟩
structure C2 (P : Program) (w : World) (K : PySem.W.Frag) (mg : Str → Option Value) (base : Heap) : Prop where
  L_take : Cl P w K mg base 1 "_law_take" s_L_take ["_law_box_here", "_law_bound"] (spB K Rtake)
theorem at4 {a b c d : PyData} {j : Int} (h : 0 ≤ j ∧ j < 4) : ∃ x, atI [a, b, c, d] j = some x ∧ (x = a ∨ x = b ∨ x = c ∨ x = d) := by
  have : j = 0 ∨ j = 1 ∨ j = 2 ∨ j = 3 := by omega
  rcases this with rfl | rfl | rfl | rfl
  · exact ⟨a, rfl, .inl rfl⟩
  · exact ⟨b, rfl, .inr (.inl rfl)⟩
  · exact ⟨c, rfl, .inr (.inr (.inl rfl))⟩
  · exact ⟨d, rfl, .inr (.inr (.inr rfl))⟩
theorem at3 {a b c : PyData} {j : Int} (h : 0 ≤ j ∧ j < 3) : ∃ x, atI [a, b, c] j = some x ∧ (x = a ∨ x = b ∨ x = c) := by
  have : j = 0 ∨ j = 1 ∨ j = 2 := by omega
  rcases this with rfl | rfl | rfl
  · exact ⟨a, rfl, .inl rfl⟩
  · exact ⟨b, rfl, .inr (.inl rfl)⟩
  · exact ⟨c, rfl, .inr (.inr rfl)⟩

def Rdraw : List PyData → Nat → (PyData → Prop) → Prop := fun ds c Φ => ∃ m : Int, ds = [.int m] ∧ 1 ≤ m ∧ m ≤ 12 ∧ c = 26 ∧ Φ = fun d => ∃ ns : List Int, d = .tuple (ns.map .int) ∧ ns ≠ [] ∧ (ns.length : Int) ≤ m ∧ ∀ n ∈ ns, 1 ≤ n ∧ n ≤ 9
theorem ok_draw (B : Bi mg) (C : C2 P w K mg base) (F : Fun K "_law_rooms" "_law_rooms" s_L_rooms f fd) : FnOk P w K mg base CX0 2 f fd ["_law_box_here", "_law_most"] (spB K Rdraw) := by
  refine fn_box F c_L_rooms (fun ds c Φ ⟨m, e, _⟩ => by rw [e]; rfl) fun cdv A outer s H E hr => ⟨_, (pss_cons (ps_set (i := 2) c_L_rooms.nd rfl (.inl rfl) (pe_op op_add pe_int (pe_cl C.L_take hr (by omega) (by rfl) (pa_cons (pv 0) (pa_cons (pe_ix ix_list (pe_lst (pa_cons (pe_callB (call_min2 rfl) (by rfl) B.n_min (by decide +kernel) (pa_cons pe_int (pa_cons (pv 1) pa_nil))) (pa_cons (pe_callB (call_min2 rfl) (by rfl) B.n_min (by decide +kernel) (pa_cons pe_int (pa_cons (pv 1) pa_nil))) (pa_cons (pv 1) pa_nil)))) (pe_cl C.L_take hr (by omega) (by rfl) (pa_cons (pv 0) (pa_cons pe_int pa_nil))) (fun _ _ => rfl)) pa_nil)))))
      (pss_one (ps_ret (pe_callTy call_tuple_of (by rfl) B.n_tuple (by decide +kernel) (pa_cons (pe_lc (own := [("_law_spot", 3)]) (g := gName 3) (tt := tYes) rfl c_L_rooms.nd (pi_range1 (by rfl) B.n_range (pa_cons (pv 2) pa_nil)) (blkOk_by (N := N_L_rooms) (sc := defScope s_L_rooms) (by decide +kernel)) (fun _ _ _ _ _ => (pg_name (i := 3) c_L_rooms.nd rfl (.inl rfl))) (fun _ _ _ _ _ => pts_nil) (fun _ _ _ _ _ => (pe_ix (ki_ixL (K := K) rfl) (pe_lst (pa_cons pe_int (pa_cons pe_int (pa_cons pe_int (pa_cons (pe_op op_add pe_int (pe_cl C.L_take hr (by omega) (by rfl) (pa_cons (pv 0) (pa_cons pe_int pa_nil)))) pa_nil))))) (pe_cl C.L_take hr (by omega) (by rfl) (pa_cons (pv 0) (pa_cons pe_int pa_nil))) (fun _ _ => rfl)))) pa_nil))))), ?_⟩
  rintro b ds c Φ ⟨m, rfl, m1, m2, rfl, rfl⟩
  refine (s_set (k := 0 + (0 + 1 + 1)) (k' := 24) (Φ := fun s => ∃ n, s = .i n ∧ 1 ≤ n ∧ n ≤ m) (e_op (Φ := fun s => s = .i 1) e_int (fun _ _ => e_takeE (lo := 1) (hi' := m) rfl (e_op (k := 0) (k' := 1) (Φ := fun s => ∃ p q : Int, s = .dat (.list [.int p, .int q, .int m]) ∧ (1 ≤ p ∧ p ≤ m) ∧ 1 ≤ q ∧ q ≤ m) (Φ' := fun _ s => ∃ j, s = .i j ∧ 0 ≤ j ∧ j < 3)
      ((d_lst (ds := [_, _, _]) (da_cons (d_cb (da_cons e_int (da_cons (e_vd rfl) a_nil)) rc_min) (da_cons (d_cb (da_cons e_int (da_cons (e_vd rfl) a_nil)) rc_min) (da_cons (e_vd rfl) a_nil)))).mono fun s e => ⟨_, _, e, ?_, ?_⟩) (fun _ _ => e_take rfl e_int (by decide) (by decide)) ?_) (by decide) (by omega)) ?_) ?_).up (by omega)
  · split <;> omega
  · split <;> omega
  · rintro s s' ⟨p, q, rfl, hp, hq⟩ ⟨j, rfl, hj⟩
    obtain ⟨x, hx, hc⟩ := at3 (a := .int p) (b := .int q) (c := .int m) hj
    refine fun u v G H hu hv hs Q hQ => rv_ixL hx u v G H hu hv hs Q fun y z G2 H2 mm hy hz => hQ y z G2 H2 mm hy ?_
    rw [hz]
    rcases hc with rfl | rfl | rfl
    · exact ⟨_, rfl, hp⟩
    · exact ⟨_, rfl, hq⟩
    · exact ⟨_, rfl, m1, Int.le_refl _⟩
  · rintro s s' rfl ⟨j, rfl, h0, h1⟩
    refine fun u v G H hu hv hs Q hQ => rv_I0 (d := .int (1 + j)) (fun _ => DD.int _) u v G H hu hv hs Q fun y z G2 H2 mm hy hz => hQ y z G2 H2 mm hy ⟨1 + j, hz, by omega, by omega⟩
  · rintro s ⟨n, rfl, n1, n2⟩
    have ln : (rangeD 0 n.toNat).length = n.toNat := rangeD_len _ _
    refine s_ret ((e_cb (Φ := fun ss => ∃ l : List PyData, ss = [.dat (.list l)] ∧ l.length = n.toNat ∧ ∀ (j : Nat) (d : PyData), l[j]? = some d → ∃ i, d = .int i ∧ 1 ≤ i ∧ i ≤ 9) (k := 0 + 2 * (rangeD 0 n.toNat).length + 0) (fun r σ G H q w Q hQ => a_cons (k' := 0) (Φ' := fun _ l => l = []) (e_lc (Ψ := fun _ d => ∃ i, d = .int i ∧ 1 ≤ i ∧ i ≤ 9) (i_rngE (da_cons (e_vd rfl) a_nil) (by omega) (by omega)) (fun j d _ => tg_name) (fun j d hd => ?_) (by omega)) (fun _ _ => a_nil) r σ G H q w Q fun vs ss G2 H2 m2 w2 hv ⟨s, l, e, ⟨ds, e2, e3, e4⟩, e5⟩ => hQ vs ss G2 H2 m2 w2 hv ⟨ds, by rw [e, e2, e5], by rw [e3, ln], e4⟩) ?_).up (by omega))
    · refine (e_op (k := 1) (k' := 1) (Φ := fun s => ∃ i : Int, s = .dat (.list [.int 1, .int 2, .int 3, .int i]) ∧ 1 ≤ i ∧ i ≤ 9) (Φ' := fun _ s => ∃ j, s = .i j ∧ 0 ≤ j ∧ j < 4) ?_ (fun _ _ => e_take rfl e_int (by decide) (by decide)) ?_)
      · refine (e_lst (k := 0 + (0 + (0 + (0 + 1 + 0)))) (a_cons e_int fun _ _ => a_cons e_int fun _ _ => a_cons e_int fun _ _ => a_cons (Φ := fun s => ∃ i, s = .i i ∧ 1 ≤ i ∧ i ≤ 9) (e_op (Φ := fun s => s = .i 1) e_int (fun _ _ => e_take rfl e_int (by decide) (by decide)) ?_) fun _ _ => a_nil) ?_).up (by omega)
        · rintro s s' rfl ⟨j, rfl, h0, h1⟩
          refine fun u v G H hu hv hs Q hQ => rv_I0 (d := .int (1 + j)) (fun _ => DD.int _) u v G H hu hv hs Q fun y z G2 H2 mm hy hz => hQ y z G2 H2 mm hy ⟨1 + j, hz, by omega, by omega⟩
        · rintro ss ⟨s1, l1, rfl, rfl, s2, l2, rfl, rfl, s3, l3, rfl, rfl, s4, l4, rfl, ⟨i, rfl, h1, h2⟩, rfl⟩
          exact ⟨[.int 1, .int 2, .int 3, .int i], ⟨rfl, rfl, rfl, rfl, trivial⟩, by simp, i, rfl, h1, h2⟩
      · rintro s s' ⟨i, rfl, h1, h2⟩ ⟨j, rfl, hj⟩
        obtain ⟨x, hx, hc⟩ := at4 (a := .int 1) (b := .int 2) (c := .int 3) (d := .int i) hj
        refine fun u v G H hu hv hs Q hQ => rv_ixL hx u v G H hu hv hs Q fun y z G2 H2 mm hy hz => hQ y z G2 H2 mm hy ?_
        rw [hz]
        rcases hc with rfl | rfl | rfl | rfl
        · exact ⟨_, rfl, 1, rfl, by omega, by omega⟩
        · exact ⟨_, rfl, 2, rfl, by omega, by omega⟩
        · exact ⟨_, rfl, 3, rfl, by omega, by omega⟩
        · exact ⟨_, rfl, i, rfl, by omega, by omega⟩
    · rintro ss ⟨l, rfl, el, hl⟩
      obtain ⟨ns, rfl, hn⟩ := ints_of (idx_mem hl)
      refine fun vs G H hv hs Q hQ => rc_tupL vs G H hv hs Q fun y z G2 H2 mm hy hz => hQ y z G2 H2 mm hy ⟨_, hz, ns, rfl, ?_, ?_, hn⟩
      · intro z
        subst z
        simp at el
        omega
      · rw [List.length_map] at el
        omega

def Fits (ns ms : List Int) : Prop := ms.length = ns.length ∧ ∀ (j : Nat) (n m : Int), ns[j]? = some n → ms[j]? = some m → 0 ≤ m ∧ m ≤ n
def Rlie : List PyData → Nat → (PyData → Prop) → Prop := fun ds c Φ => ∃ ns : List Int, ds = [.tuple (ns.map .int)] ∧ ns.length ≤ 12 ∧ (∀ n ∈ ns, 1 ≤ n ∧ n ≤ 99) ∧ c = 36 ∧ Φ = fun d => ∃ ms : List Int, d = .tuple (ms.map .int) ∧ Fits ns ms
theorem ok_lie (B : Bi mg) (C : C2 P w K mg base) (F : Fun K "_law_standing" "_law_standing" s_L_standing f fd) : FnOk P w K mg base CX0 2 f fd ["_law_box_here", "_law_homes"] (spB K Rlie) := by
  refine fn_box F c_L_standing (fun ds c Φ ⟨m, e, _⟩ => by rw [e]; rfl) fun cdv A outer s H E hr => ⟨_, (pss_one (ps_ret (pe_callTy call_tuple_of (by rfl) B.n_tuple (by decide +kernel) (pa_cons (pe_lc (own := [("_law_room", 2)]) (g := gName 2) (tt := tYes) rfl c_L_standing.nd (pi_tup (pv 1)) (blkOk_by (N := N_L_standing) (sc := defScope s_L_standing) (by decide +kernel)) (fun _ _ _ _ _ => (pg_name (i := 2) c_L_standing.nd rfl (.inl rfl))) (fun _ _ _ _ _ => pts_nil) (fun _ _ _ _ _ => (pe_ix (ki_ixL (K := K) rfl) (pe_lst (pa_cons pe_int (pa_cons (pv 2) (pa_cons (pe_cl C.L_take hr (by omega) (by rfl) (pa_cons (pv 0) (pa_cons (pe_op op_add (pv 2) pe_int) pa_nil))) (pa_cons (pe_cl C.L_take hr (by omega) (by rfl) (pa_cons (pv 0) (pa_cons (pe_op op_add (pv 2) pe_int) pa_nil))) pa_nil))))) (pe_cl C.L_take hr (by omega) (by rfl) (pa_cons (pv 0) (pa_cons pe_int pa_nil))) (fun _ _ => rfl)))) pa_nil)))), ?_⟩
  rintro b ds c Φ ⟨ns, rfl, hl, hn, rfl, rfl⟩
  refine s_ret ((e_cb (Φ := fun ss => ∃ l : List PyData, ss = [.dat (.list l)] ∧ l.length = ns.length ∧ ∀ (j : Nat) (d : PyData), l[j]? = some d → ∃ i n, d = .int i ∧ ns[j]? = some n ∧ 0 ≤ i ∧ i ≤ n) (k := 0 + 3 * (ns.map PyData.int).length + 0) (fun r σ G H q w Q hQ => a_cons (k' := 0) (Φ' := fun _ l => l = []) (e_lc (Ψ := fun j d => ∃ i n, d = .int i ∧ ns[j]? = some n ∧ 0 ≤ i ∧ i ≤ n) (i_tup (e_vd rfl)) (fun j d _ => tg_name) (fun j d hd => ?_) (by rw [List.length_map]; omega)) (fun _ _ => a_nil) r σ G H q w Q fun vs ss G2 H2 m2 w2 hv ⟨s, l, e, ⟨ds, e2, e3, e4⟩, e5⟩ => hQ vs ss G2 H2 m2 w2 hv ⟨ds, by rw [e, e2, e5], by rw [e3, List.length_map], e4⟩) ?_).up (by rw [List.length_map]; omega))
  · rw [List.getElem?_map] at hd
    obtain ⟨n, hj, rfl⟩ := Option.map_eq_some_iff.mp hd
    have hb := hn n (List.mem_of_getElem? hj)
    refine (e_op (k := 2) (k' := 1) (Φ := fun s => ∃ x y : Int, s = .dat (.list [.int 0, .int n, .int x, .int y]) ∧ (0 ≤ x ∧ x ≤ n) ∧ 0 ≤ y ∧ y ≤ n) (Φ' := fun _ s => ∃ j, s = .i j ∧ 0 ≤ j ∧ j < 4) ?_ (fun _ _ => e_take rfl e_int (by decide) (by decide)) ?_)
    · refine (e_lst (k := 0 + (0 + (1 + (1 + 0)))) (a_cons e_int fun _ _ => a_cons (e_vd rfl) fun _ _ => a_cons (e_take (m := n + 1) rfl (d_op (e_vd rfl) e_int (rv_I0 fun _ => DD.int _)) (by omega) (by omega)) fun _ _ => a_cons (e_take (m := n + 1) rfl (d_op (e_vd rfl) e_int (rv_I0 fun _ => DD.int _)) (by omega) (by omega)) fun _ _ => a_nil) ?_).up (by omega)
      rintro ss ⟨s1, l1, rfl, rfl, s2, l2, rfl, rfl, s3, l3, rfl, ⟨x, rfl, h1, h2⟩, s4, l4, rfl, ⟨y, rfl, h3, h4⟩, rfl⟩
      exact ⟨[.int 0, .int n, .int x, .int y], ⟨rfl, rfl, rfl, rfl, trivial⟩, by simp, x, y, rfl, ⟨h1, by omega⟩, h3, by omega⟩
    · rintro s s' ⟨x, y, rfl, hx0, hy0⟩ ⟨j', rfl, hj'⟩
      obtain ⟨z, hz, hc⟩ := at4 (a := .int 0) (b := .int n) (c := .int x) (d := .int y) hj'
      refine (rv_ixL hz).mono fun z' e => ?_
      rw [e]
      rcases hc with rfl | rfl | rfl | rfl
      · exact ⟨_, rfl, 0, n, rfl, hj, by omega, by omega⟩
      · exact ⟨_, rfl, n, n, rfl, hj, by omega, by omega⟩
      · exact ⟨_, rfl, x, n, rfl, hj, hx0.1, hx0.2⟩
      · exact ⟨_, rfl, y, n, rfl, hj, hy0.1, hy0.2⟩
  · rintro ss ⟨l, rfl, el, hl2⟩
    obtain ⟨ms, rfl, _⟩ := ints_of (p := fun _ => True) (idx_mem fun j d hd => by
      obtain ⟨i, n, e, _⟩ := hl2 j d hd
      exact ⟨i, e, trivial⟩)
    refine rc_tupL.mono fun z e => ⟨_, e, ms, rfl, by rw [← el, List.length_map], fun j n m h1 h2 => ?_⟩
    obtain ⟨i, n', e1, e2, e3⟩ := hl2 j (.int m) (by rw [List.getElem?_map, h2]; rfl)
    cases e1
    cases h1.symm.trans e2
    exact e3
theorem b01 (c : Bool) : 0 ≤ (if c = true then (1 : Int) else 0) ∧ (if c = true then (1 : Int) else 0) ≤ 1 := by
  cases c <;> decide
def spBox (K : PySem.W.Frag) : Sp := fun vs H Q _ => ∃ (a : Addr) (ns : List Int) (k : Int), vs = [.ref a, .int k] ∧ SqL K H a (ns.map V.int) ∧ 0 ≤ k ∧ k ≤ 100 ∧ ∀ p (c0 c1 : Int), H p = none → 0 ≤ c0 → 0 ≤ c1 → c1 < 2 ^ 33 → Q (.ref p) (upd H p (.lst [.int c0, .int c1, .int 0]))
theorem ok_box (B : Bi mg) (F : Fun K "_law_box" "_law_box" s_L_box f fd) : FnOk P w K mg base CX0 1 f fd ["_law_script", "_law_k"] (spBox K) := by
  refine F.ok c_L_box (fun vs H Q E h => ?_) (fun cdv A outer s H vs Q E hr h => ?_)
  · obtain ⟨a, ns, k, rfl, _⟩ := h
    rfl
  · obtain ⟨a, ns, k, rfl, hS, k0, k1, q⟩ := h
    refine ⟨_, (pss_cons (ps_set (i := 2) c_L_box.nd rfl (.inl rfl) pe_int)
      (pss_cons (ps_if (pt_cmpR op_lt (pv 1) (pe_callB call_len_seq (by rfl) B.n_len (by decide +kernel) (pa_cons (pv 0) pa_nil)) (nomark _)) (pss_one (ps_set (i := 2) c_L_box.nd rfl (.inl rfl) (pe_ix ix_list (pv 0) (pv 1) (fun _ _ => rfl)))) pss_nil)
      (pss_one (ps_ret (pe_lst (pa_cons (pe_op op_mul (pe_callB call_abs (by rfl) B.n_abs (by decide +kernel) (pa_cons (pv 2) pa_nil)) (pe_callTy call_int1 (by rfl) B.n_int (by decide +kernel) (pa_cons (pe_cmpR op_ge (pe_callB call_abs (by rfl) B.n_abs (by decide +kernel) (pa_cons (pv 2) pa_nil)) (pe_op op_pow pe_int pe_int) (nomark _)) pa_nil))) (pa_cons (pe_op op_add (pe_op op_add (pe_op op_modN (pv 2) pe_int) (pe_op op_mul pe_int (pv 1))) pe_int) (pa_cons pe_int pa_nil)))))))), ?_⟩
    have fin : ∀ z : Int, ∀ Qr : VK, (∀ p (c0 c1 : Int), H p = none → 0 ≤ c0 → 0 ≤ c1 → c1 < 2 ^ 33 → Qr (.ref p) (upd H p (.lst [.int c0, .int c1, .int 0]))) → ∀ p, H p = none → Qr (.ref p) (upd H p (.lst [.int ((if z < 0 then -z else z) * (if decide (10 ^ (Int.toNat 18) ≤ (if z < 0 then -z else z)) = true then 1 else 0)), .int (z.fmod 2147483629 + 7919 * k + 11), .int 0])) := fun z Qr h p np => by
      have f0 : 0 ≤ z.fmod 2147483629 := by
        rw [Int.fmod_eq_emod_of_nonneg _ (by decide)]
        exact Int.emod_nonneg _ (by decide)
      have f1 : z.fmod 2147483629 < 2147483629 := by
        rw [Int.fmod_eq_emod_of_nonneg _ (by decide)]
        exact Int.emod_lt_of_pos _ (by decide)
      refine h p _ _ np ?_ (by omega) (by omega)
      refine Int.mul_nonneg ?_ ?_
      · split <;> omega
      · exact (b01 _).1
    -- cell = 0; if k < len(script): cell = script[k]
    refine ⟨_, rfl, _, rfl, a, _, rfl, .inl hS, k, _, rfl, rfl, _, rfl, ite2 (fun e => ?_) (fun e => ?_)⟩
    · have hk : k < (ns.map V.int).length := of_decide_eq_true e
      obtain ⟨j, rfl⟩ := Int.eq_ofNat_of_zero_le k0
      have hj : j < ns.length := by
        rw [List.length_map] at hk
        omega
      have hg : (ns.map V.int)[j]? = some (.int ns[j]) := by
        rw [List.getElem?_map, List.getElem?_eq_getElem hj]
        rfl
      refine ⟨_, rfl, _, rfl, a, _, _, _, rfl, rfl, hS, atI_nat hg, ?_⟩
      refine ⟨_, rfl, _, rfl, _, rfl, _, rfl, 10, 18, rfl, rfl, ⟨by decide, by decide, by decide⟩, _, _, rfl, rfl, .inr ⟨_, rfl, _, _, rfl, rfl, .inr ⟨?_, ?_⟩, _, rfl, _, 2147483629, rfl, rfl, (show (2147483629 : Int) ≠ 0 by decide), _, rfl, 7919, _, rfl, rfl, .inl ⟨by decide, by decide⟩, _, _, rfl, rfl, _, 11, rfl, rfl, by show 3 ≤ sizeLine; decide, fun p np => fin ns[j] Q q p np⟩⟩
      · exact Int.lt_of_lt_of_le (by decide) (b01 _).1
      · exact Int.lt_of_le_of_lt (b01 _).2 (by decide)
    · refine ⟨_, rfl, _, rfl, _, rfl, _, rfl, 10, 18, rfl, rfl, ⟨by decide, by decide, by decide⟩, _, _, rfl, rfl, .inr ⟨_, rfl, _, _, rfl, rfl, .inr ⟨?_, ?_⟩, _, rfl, _, 2147483629, rfl, rfl, (show (2147483629 : Int) ≠ 0 by decide), _, rfl, 7919, _, rfl, rfl, .inl ⟨by decide, by decide⟩, _, _, rfl, rfl, _, 11, rfl, rfl, by show 3 ≤ sizeLine; decide, fun p np => fin 0 Q q p np⟩⟩
      · exact Int.lt_of_lt_of_le (by decide) (b01 _).1
      · exact Int.lt_of_le_of_lt (b01 _).2 (by decide)
def spLaw (K : PySem.W.Frag) : Sp := fun vs H Q _ => ∃ (a : Addr) (ns : List Int), vs = [.ref a] ∧ SqL K H a (ns.map V.int) ∧ ns.length ≤ 63 ∧ ∀ H', Q (.bl true) H'
theorem flat_one (n : Nat) (d : PyData) : (List.replicate n [d]).flatten = List.replicate n d := by
  induction n with
  | zero => rfl
  | succ n ih =>
    rw [List.replicate_succ, List.flatten_cons, ih]
    rfl
theorem pl_ints {n : Nat} {ns : List Int} (h : ns.length ≤ 100000) : Pl (n + 1) (.tuple (ns.map .int)) := by
  refine ⟨by rw [List.length_map]; exact h, fun y hy => ?_⟩
  obtain ⟨m, _, rfl⟩ := List.mem_map.mp hy
  cases n <;> trivial

def Rright : List PyData → Nat → (PyData → Prop) → Prop := fun ds c Φ => ds = [] ∧ c = 2000 ∧ Φ = fun d => d = .bool true
theorem e_draw {b : Addr} {δ : List SD} {E : XK} {i : Nat} {te : TE} {m : Int} (hi : δ[i]? = some (.ref b)) (h : Dt K (bx b) te δ (.i m)) (h1 : 1 ≤ m) (h2 : m ≤ 12) :
    Ev K (bx b) (tCall (spB K Rdraw) [] E (tCons (tVar i) (tCons te tNil))) δ 26 (fun s => ∃ ns : List Int, s = .dat (.tuple (ns.map .int)) ∧ ns ≠ [] ∧ (ns.length : Int) ≤ m ∧ ∀ n ∈ ns, 1 ≤ n ∧ n ≤ 9) :=
  (e_callB (c := 26) hi (da_cons h a_nil) fun ss e => ⟨[.int m], _, e ▸ ⟨rfl, trivial⟩, ⟨m, rfl, h1, h2, rfl, rfl⟩, fun d ⟨ns, e, r⟩ => ⟨ns, by rw [e], r⟩⟩).up (by omega)
theorem e_lie {b : Addr} {δ : List SD} {E : XK} {i : Nat} {te : TE} {ns : List Int} (hi : δ[i]? = some (.ref b)) (h : Dt K (bx b) te δ (.dat (.tuple (ns.map .int)))) (hl : ns.length ≤ 12) (hb : ∀ n ∈ ns, 1 ≤ n ∧ n ≤ 99) :
    Ev K (bx b) (tCall (spB K Rlie) [] E (tCons (tVar i) (tCons te tNil))) δ 36 (fun s => ∃ ms : List Int, s = .dat (.tuple (ms.map .int)) ∧ Fits ns ms) :=
  (e_callB (c := 36) hi (da_cons h a_nil) fun ss e => ⟨[.tuple (ns.map .int)], _, e ▸ ⟨rfl, trivial⟩, ⟨ns, rfl, hl, hb, rfl, rfl⟩, fun d ⟨ms, e, r⟩ => ⟨ms, by rw [e], r⟩⟩).up (by omega)

end
end K01

namespace K01
/-! ### standings, numbered -/
def cnt (ns : List Int) : Int := ns.foldl (fun p n => p * (n + 1)) 1
def plc (ns ms : List Int) : Int := (ns.zip ms).foldl (fun p x => p * (x.1 + 1) + x.2) 0
def digR : List Int → Int → List Int
  | [], _ => []
  | n :: rs, p => p % (n + 1) :: digR rs (p / (n + 1))
def dig (ns : List Int) (p : Int) : List Int := (digR ns.reverse p).reverse
def wide (n : Int) (ss : List (List Int)) : List (List Int) := ss.flatMap fun s => (List.range (n + 1).toNat).map fun (m : Nat) => s ++ [(m : Int)]
def allS (ns : List Int) : List (List Int) := ns.foldl (fun ss n => wide n ss) [[]]
theorem snoc_ind {P : List Int → Prop} (h0 : P []) (h1 : ∀ l a, P l → P (l ++ [a])) (l : List Int) : P l := by
  rw [← List.reverse_reverse l]
  induction l.reverse with
  | nil => exact h0
  | cons a r ih =>
    rw [List.reverse_cons]
    exact h1 _ _ ih
theorem cnt_snoc (ns : List Int) (n : Int) : cnt (ns ++ [n]) = cnt ns * (n + 1) := by
  unfold cnt
  rw [List.foldl_append]
  rfl
theorem plc_snoc {ns ms : List Int} {n m : Int} (h : ms.length = ns.length) : plc (ns ++ [n]) (ms ++ [m]) = plc ns ms * (n + 1) + m := by
  unfold plc
  rw [List.zip_append h.symm, List.foldl_append]
  rfl
theorem dig_snoc (ns : List Int) (n p : Int) : dig (ns ++ [n]) p = dig ns (p / (n + 1)) ++ [p % (n + 1)] := by
  unfold dig
  rw [List.reverse_append]
  show (p % (n + 1) :: digR ns.reverse (p / (n + 1))).reverse = _
  rw [List.reverse_cons]
theorem digR_len : ∀ (rs : List Int) (p : Int), (digR rs p).length = rs.length
  | [], _ => rfl
  | _ :: rs, p => congrArg Nat.succ (digR_len rs _)
theorem dig_len (ns : List Int) (p : Int) : (dig ns p).length = ns.length := by
  unfold dig
  rw [List.length_reverse, digR_len, List.length_reverse]
theorem mem_snoc {P : Int → Prop} {ns : List Int} {n : Int} (h : ∀ x ∈ ns ++ [n], P x) : (∀ x ∈ ns, P x) ∧ P n := ⟨fun x hx => h x (List.mem_append_left _ hx), h n (List.mem_append_right _ (List.mem_singleton.mpr rfl))⟩
theorem cnt_pos : ∀ ns : List Int, (∀ n ∈ ns, 0 ≤ n) → 0 < cnt ns := by
  refine snoc_ind ?_ ?_
  · intro _
    decide
  · intro ns n ih h
    obtain ⟨h1, h2⟩ := mem_snoc h
    rw [cnt_snoc]
    exact Int.mul_pos (ih h1) (by omega)
theorem cnt_le {b : Int} (hb : 0 ≤ b) : ∀ ns : List Int, (∀ n ∈ ns, 0 ≤ n ∧ n ≤ b) → cnt ns ≤ (b + 1) ^ ns.length := by
  refine snoc_ind ?_ ?_
  · intro _
    show (1 : Int) ≤ (b + 1) ^ 0
    rw [Int.pow_zero]
    decide
  · intro ns n ih h
    obtain ⟨h1, h2⟩ := mem_snoc h
    rw [cnt_snoc, List.length_append]
    show _ ≤ (b + 1) ^ (ns.length + 1)
    rw [Int.pow_succ]
    exact Int.mul_le_mul (ih h1) (by omega) (by omega) (Int.pow_nonneg (by omega))
theorem fits_snoc {ns ms : List Int} {n : Int} (h : Fits (ns ++ [n]) ms) : ∃ l m, ms = l ++ [m] ∧ Fits ns l ∧ 0 ≤ m ∧ m ≤ n := by
  have hl := h.1
  rw [List.length_append] at hl
  have hne : ms ≠ [] := by
    intro z
    subst z
    simp at hl
  have e := List.dropLast_concat_getLast hne
  have hl2 : ms.dropLast.length = ns.length := by
    rw [List.length_dropLast, hl]
    rfl
  refine ⟨ms.dropLast, ms.getLast hne, e.symm, ⟨hl2, fun j a b h1 h2 => ?_⟩, ?_⟩
  · have hj : j < ns.length := (List.getElem?_eq_some_iff.mp h1).1
    refine h.2 j a b ?_ ?_
    · rw [List.getElem?_append_left hj]
      exact h1
    · rw [← e, List.getElem?_append_left (by omega)]
      exact h2
  · refine h.2 ns.length n (ms.getLast hne) ?_ ?_
    · rw [List.getElem?_append_right (Nat.le_refl _), Nat.sub_self]
      rfl
    · have e2 : ms[ns.length]? = (ms.dropLast ++ [ms.getLast hne])[ns.length]? := by rw [e]
      rw [e2, List.getElem?_append_right (by omega), hl2, Nat.sub_self]
      rfl
theorem fits_add {ns ms : List Int} {n m : Int} (h : Fits ns ms) (h0 : 0 ≤ m) (h1 : m ≤ n) : Fits (ns ++ [n]) (ms ++ [m]) := by
  refine ⟨by rw [List.length_append, List.length_append, h.1]; rfl, fun j a b ha hb => ?_⟩
  by_cases hj : j < ns.length
  · rw [List.getElem?_append_left hj] at ha
    rw [List.getElem?_append_left (by rw [h.1]; exact hj)] at hb
    exact h.2 j a b ha hb
  · rw [List.getElem?_append_right (by omega)] at ha
    rw [List.getElem?_append_right (by rw [h.1]; omega), h.1] at hb
    cases e : j - ns.length with
    | zero =>
      rw [e] at ha hb
      cases ha
      cases hb
      exact ⟨h0, h1⟩
    | succ k =>
      rw [e] at ha
      simp at ha
theorem plc_dig : ∀ ns : List Int, (∀ n ∈ ns, 0 ≤ n) → ∀ ms, Fits ns ms → 0 ≤ plc ns ms ∧ plc ns ms < cnt ns ∧ dig ns (plc ns ms) = ms := by
  refine snoc_ind ?_ ?_
  · intro _ ms h
    have : ms = [] := List.eq_nil_of_length_eq_zero h.1
    subst this
    exact ⟨by decide, by decide, rfl⟩
  · intro ns n ih h ms hf
    obtain ⟨h1, h2⟩ := mem_snoc h
    obtain ⟨l, m, rfl, hl, m0, m1⟩ := fits_snoc hf
    obtain ⟨i0, i1, i2⟩ := ih h1 l hl
    rw [plc_snoc hl.1, cnt_snoc, dig_snoc]
    have hp : 0 < n + 1 := by omega
    have k : (plc ns l + 1) * (n + 1) ≤ cnt ns * (n + 1) := Int.mul_le_mul_of_nonneg_right (by omega) (by omega)
    rw [Int.add_mul, Int.one_mul] at k
    have k0 : 0 ≤ plc ns l * (n + 1) := Int.mul_nonneg i0 (by omega)
    have d1 : (plc ns l * (n + 1) + m) / (n + 1) = plc ns l := by
      rw [Int.add_comm, Int.add_mul_ediv_right _ _ (by omega), Int.ediv_eq_zero_of_lt m0 (by omega), Int.zero_add]
    have d2 : (plc ns l * (n + 1) + m) % (n + 1) = m := by
      rw [Int.add_comm, Int.add_mul_emod_self_right]
      exact Int.emod_eq_of_lt m0 (by omega)
    exact ⟨by omega, by omega, by rw [d1, d2, i2]⟩
theorem dig_plc : ∀ ns : List Int, (∀ n ∈ ns, 0 ≤ n) → ∀ p, 0 ≤ p → p < cnt ns → Fits ns (dig ns p) ∧ plc ns (dig ns p) = p := by
  refine snoc_ind ?_ ?_
  · intro _ p h0 h1
    have h2 : p < 1 := h1
    have : p = 0 := by omega
    subst this
    exact ⟨⟨rfl, fun j a b h _ => by simp at h⟩, rfl⟩
  · intro ns n ih h p h0 h1
    obtain ⟨a1, a2⟩ := mem_snoc h
    rw [cnt_snoc] at h1
    have hp : 0 < n + 1 := by omega
    obtain ⟨f, e⟩ := ih a1 (p / (n + 1)) (Int.ediv_nonneg h0 (by omega)) (Int.ediv_lt_of_lt_mul hp h1)
    rw [dig_snoc]
    have b0 := Int.emod_nonneg p (show n + 1 ≠ 0 by omega)
    have b1 := Int.emod_lt_of_pos p hp
    refine ⟨fits_add f b0 (by omega), ?_⟩
    rw [plc_snoc f.1, e, Int.mul_comm]
    exact Int.mul_ediv_add_emod p (n + 1)
theorem flat_range {α : Type} (f : Nat → Nat → α) (k : Nat) (hk : 0 < k) : ∀ c : Nat, (List.range c).flatMap (fun i => (List.range k).map (f i)) = (List.range (c * k)).map fun p => f (p / k) (p % k)
  | 0 => by
    rw [Nat.zero_mul]
    rfl
  | c + 1 => by
    rw [List.range_succ, List.flatMap_append, flat_range f k hk c, Nat.succ_mul, List.range_add, List.map_append, List.map_map]
    congr 1
    rw [List.flatMap_singleton]
    refine List.map_congr_left fun j hj => ?_
    have hj2 : j < k := List.mem_range.mp hj
    show f c j = f ((c * k + j) / k) ((c * k + j) % k)
    rw [Nat.add_comm, Nat.add_mul_div_right _ _ hk, Nat.div_eq_of_lt hj2, Nat.zero_add, Nat.add_mul_mod_self_right, Nat.mod_eq_of_lt hj2]
theorem all_snoc (ns : List Int) (n : Int) : allS (ns ++ [n]) = wide n (allS ns) := by
  unfold allS
  rw [List.foldl_append]
  rfl
theorem all_eq : ∀ ns : List Int, (∀ n ∈ ns, 0 ≤ n) → allS ns = (List.range (cnt ns).toNat).map (fun (i : Nat) => dig ns (i : Int)) := by
  refine snoc_ind ?_ ?_
  · intro _
    rfl
  · intro ns n ih h
    obtain ⟨h1, h2⟩ := mem_snoc h
    have cp := cnt_pos ns h1
    rw [all_snoc, ih h1]
    unfold wide
    rw [List.flatMap_map, flat_range (fun i m => dig ns (i : Int) ++ [(m : Int)]) (n + 1).toNat (by omega)]
    have e : (cnt (ns ++ [n])).toNat = (cnt ns).toNat * (n + 1).toNat := by
      rw [cnt_snoc, Int.toNat_mul (by omega) (by omega)]
    rw [e]
    refine List.map_congr_left fun p _ => ?_
    rw [dig_snoc]
    have e2 : (((n + 1).toNat : Nat) : Int) = n + 1 := Int.toNat_of_nonneg (by omega)
    rw [Int.natCast_ediv, Int.natCast_emod, e2]
theorem plc_bare : ∀ ns : List Int, plc ns (List.replicate ns.length 0) = 0 := by
  refine snoc_ind rfl ?_
  intro ns n ih
  rw [List.length_append]
  show plc _ (List.replicate (ns.length + 1) 0) = 0
  rw [List.replicate_succ', plc_snoc List.length_replicate, ih]
  simp
theorem plc_full : ∀ ns : List Int, plc ns ns = cnt ns - 1 := by
  refine snoc_ind rfl ?_
  intro ns n ih
  rw [plc_snoc rfl, ih, cnt_snoc, Int.sub_mul, Int.one_mul]
  omega
end K01

namespace K01
open PySem PySem.Spec PyProof.Rows L2 ZX DL RT
def Rms (ns : List Int) : Prop := ns.length ≤ 12 ∧ ∀ n ∈ ns, 1 ≤ n ∧ n ≤ 99
def Rcnt : List PyData → PyData → Prop := fun ds d => ∃ (r : PyData) (ns : List Int), ds = [r] ∧ IsSeq r (ns.map .int) ∧ Rms ns ∧ d = .int (cnt ns)
def Rplc : List PyData → PyData → Prop := fun ds d => ∃ (r x : PyData) (ns ms : List Int), ds = [r, x] ∧ IsSeq r (ns.map .int) ∧ IsSeq x (ms.map .int) ∧ Rms ns ∧ ms.length = ns.length ∧ d = .int (plc ns ms)
theorem int_at {ns : List Int} {j : Nat} {d : PyData} (h : (ns.map PyData.int)[j]? = some d) : ∃ n, ns[j]? = some n ∧ d = .int n := by
  rw [List.getElem?_map] at h
  obtain ⟨n, hn, rfl⟩ := Option.map_eq_some_iff.mp h
  exact ⟨n, hn, rfl⟩
theorem take_snoc {α : Type} {l : List α} {j : Nat} {a : α} (h : l[j]? = some a) : l.take (j + 1) = l.take j ++ [a] := by
  rw [List.take_add_one, h]
  rfl
section
variable {P : Program} {w : World} {K : PySem.W.Frag} {mg : Str → Option Value} {base : Heap} {f : Addr} {fd : FuncData}
theorem ok_how (B : Bi mg) (F : Fun K "how_many" "how_many" s_how_many f fd) : FnOk P w K mg base CX0 1 f fd ["rooms"] (spP K Rcnt) := by
  refine fn_pure F c_how_many (fun ds d ⟨r, ns, e, _⟩ => by rw [e]; rfl) fun cdv A outer s H E hr => ⟨_, (pss_cons (ps_set (i := 1) c_how_many.nd rfl (.inl rfl) pe_int)
      (pss_cons (ps_for PassesOwn.never rfl (pi_seqX (pv 0)) (pg_name (i := 2) c_how_many.nd rfl (.inl rfl)) (pss_one (ps_aug (i := 1) c_how_many.nd rfl (.inl rfl) (pe_op op_add (pv 2) pe_int) ip_mul)))
      (pss_one (ps_ret (pv 1))))), ?_⟩
  rintro ds d ⟨r, ns, rfl, hs, ⟨hl, hn⟩, rfl⟩
  refine sd_set (s := .i 1) e_int ?_
  refine (s_seq (k := 0 + 0 * (ns.map PyData.int).length) (k' := 0) (N := fun δ' => ∃ u, δ' = [.dat r, .i (cnt ns), u]) (s_for (vs := [2]) (fun j δ' => ∃ u, δ' = [.dat r, .i (cnt (ns.take j)), u]) (i_seq (e_vd rfl) hs) ⟨.unk, rfl⟩ ?_ ?_) ?_).up (by omega)
  · rintro j d δ' hd ⟨u, rfl⟩
    obtain ⟨n, hj, rfl⟩ := int_at hd
    have hb := hn n (List.mem_of_getElem? hj)
    refine ⟨_, tg_name, s_aug (s := .i (cnt (ns.take j))) (s2 := .i (cnt (ns.take (j + 1)))) rfl (fun z => nomatch z) (d_op (e_vd rfl) e_int (rv_I0 fun _ => DD.int _)) ?_ ⟨_, rfl⟩⟩
    rw [take_snoc hj, cnt_snoc]
    exact rv_I (.inr ⟨by omega, by omega⟩) fun _ => DD.int _
  · rintro δ' ⟨u, rfl⟩
    rw [List.length_map, List.take_length]
    exact ⟨u, rfl⟩
  · rintro δ' ⟨u, rfl⟩
    exact s_ret (e_vd rfl)
theorem ok_count (B : Bi mg) (F : Fun K "_law_count" "_law_count" s_L_count f fd) : FnOk P w K mg base CX0 1 f fd ["_law_some"] (spP K fun ds d => ∃ ns : List Int, ds = [.tuple (ns.map .int)] ∧ Rms ns ∧ d = .int (cnt ns)) := by
  refine fn_pure F c_L_count (fun ds d ⟨ns, e, _⟩ => by rw [e]; rfl) fun cdv A outer s H E hr => ⟨_, (pss_cons (ps_set (i := 1) c_L_count.nd rfl (.inl rfl) pe_int)
      (pss_cons (ps_for PassesOwn.never rfl (pi_tup (pv 0)) (pg_name (i := 2) c_L_count.nd rfl (.inl rfl)) (pss_one (ps_set (i := 1) c_L_count.nd rfl (.inl rfl) (pe_op op_mul (pv 1) (pe_op op_add (pv 2) pe_int)))))
      (pss_one (ps_ret (pv 1))))), ?_⟩
  rintro ds d ⟨ns, rfl, ⟨hl, hn⟩, rfl⟩
  refine sd_set (s := .i 1) e_int ?_
  refine (s_seq (k := 0 + 0 * (ns.map PyData.int).length) (k' := 0) (N := fun δ' => ∃ u, δ' = [.dat (.tuple (ns.map .int)), .i (cnt ns), u]) (s_for (vs := [2]) (fun j δ' => ∃ u, δ' = [.dat (.tuple (ns.map .int)), .i (cnt (ns.take j)), u]) (i_tup (e_vd rfl)) ⟨.unk, rfl⟩ ?_ ?_) ?_).up (by omega)
  · rintro j d δ' hd ⟨u, rfl⟩
    obtain ⟨n, hj, rfl⟩ := int_at hd
    have hb := hn n (List.mem_of_getElem? hj)
    refine ⟨_, tg_name, s_asg (Φ := fun s => s = .i (cnt (ns.take (j + 1)))) ?_ fun s e => ⟨.i n, by rw [e]; rfl⟩⟩
    rw [take_snoc hj, cnt_snoc]
    exact d_op (e_vd rfl) (d_op (e_vd rfl) e_int (rv_I0 fun _ => DD.int _)) (rv_I (.inr ⟨by omega, by omega⟩) fun _ => DD.int _)
  · rintro δ' ⟨u, rfl⟩
    rw [List.length_map, List.take_length]
    exact ⟨u, rfl⟩
  · rintro δ' ⟨u, rfl⟩
    exact s_ret (e_vd rfl)
theorem ok_place (B : Bi mg) (F : Fun K "place_of" "place_of" s_place_of f fd) : FnOk P w K mg base CX0 1 f fd ["rooms", "standing"] (spP K Rplc) := by
  refine fn_pure F c_place_of (fun ds d ⟨r, x, ns, ms, e, _⟩ => by rw [e]; rfl) fun cdv A outer s H E hr => ⟨_, (pss_cons (ps_set (i := 2) c_place_of.nd rfl (.inl rfl) pe_int)
      (pss_cons (ps_for PassesOwn.never rfl (pi_zipX (by rfl) B.n_zip (pa_cons (pv 0) (pa_cons (pv 1) pa_nil))) (pg_tup rfl (pgs_cons (pg_name (i := 3) c_place_of.nd rfl (.inl rfl)) (pgs_cons (pg_name (i := 4) c_place_of.nd rfl (.inl rfl)) pgs_nil))) (pss_one (ps_set (i := 2) c_place_of.nd rfl (.inl rfl) (pe_op op_add (pe_op op_mul (pv 2) (pe_op op_add (pv 3) pe_int)) (pv 4)))))
      (pss_one (ps_ret (pv 2))))), ?_⟩
  rintro ds d ⟨r, x, ns, ms, rfl, hs, hx, ⟨hl, hn⟩, hm, rfl⟩
  have zl : (zipD (ns.map PyData.int) (ms.map PyData.int)).length = ns.length := by
    unfold zipD
    rw [List.length_zipWith, List.length_map, List.length_map, hm]
    omega
  refine sd_set (s := .i 0) e_int ?_
  refine (s_seq (k := 0 + 0 * (zipD (ns.map PyData.int) (ms.map PyData.int)).length) (k' := 0) (N := fun δ' => ∃ u v, δ' = [.dat r, .dat x, .i (plc ns ms), u, v]) (s_for (vs := [3, 4]) (fun j δ' => ∃ u v, δ' = [.dat r, .dat x, .i (plc (ns.take j) (ms.take j)), u, v]) (i_zip (da_cons (e_vd rfl) (da_cons (e_vd rfl) a_nil)) hs hx) ⟨.unk, .unk, rfl⟩ ?_ ?_) ?_).up (by omega)
  · rintro j d δ' hd ⟨u, v, rfl⟩
    obtain ⟨n, e, rfl, he, hj⟩ := zip_fst hd
    obtain ⟨m, hmj, rfl⟩ := int_at he
    have hb := hn n (List.mem_of_getElem? hj)
    have hj2 : j < ns.length := (List.getElem?_eq_some_iff.mp hj).1
    refine ⟨_, tg_pair, s_asg (Φ := fun s => s = .i (plc (ns.take (j + 1)) (ms.take (j + 1)))) ?_ fun s e => ⟨.i n, .i m, by rw [e]; rfl⟩⟩
    rw [take_snoc hj, take_snoc hmj, plc_snoc (by rw [List.length_take, List.length_take, hm])]
    exact d_op (d_op (e_vd rfl) (d_op (e_vd rfl) e_int (rv_I0 fun _ => DD.int _)) (rv_I (.inr ⟨by omega, by omega⟩) fun _ => DD.int _)) (e_vd rfl) (rv_I0 fun _ => DD.int _)
  · rintro δ' ⟨u, v, rfl⟩
    rw [zl, List.take_length, ← hm, List.take_length]
    exact ⟨u, v, rfl⟩
  · rintro δ' ⟨u, v, rfl⟩
    exact s_ret (e_vd rfl)
def tupI (s : List Int) : PyData := .tuple (s.map .int)
theorem wide_len (n : Int) (ss : List (List Int)) : (wide n ss).length = ss.length * (n + 1).toNat := by
  unfold wide
  induction ss with
  | nil => simp
  | cons a l ih => rw [List.flatMap_cons, List.length_append, ih, List.length_map, List.length_range, List.length_cons, Nat.succ_mul, Nat.add_comm]
theorem wide_take {n : Int} {ss : List (List Int)} {j : Nat} {s : List Int} (h : ss[j]? = some s) : wide n (ss.take (j + 1)) = wide n (ss.take j) ++ (List.range (n + 1).toNat).map fun (m : Nat) => s ++ [(m : Int)] := by
  rw [take_snoc h]
  unfold wide
  rw [List.flatMap_append, List.flatMap_singleton]
theorem all_len {ns : List Int} (hn : ∀ n ∈ ns, 1 ≤ n ∧ n ≤ 9) : (allS ns).length ≤ 10 ^ ns.length := by
  rw [all_eq ns fun n h => by have := hn n h; omega, List.length_map, List.length_range]
  have := cnt_le (b := 9) (by decide) ns fun n h => by have := hn n h; omega
  have e : ((10 : Int) ^ ns.length).toNat = 10 ^ ns.length := by
    rw [show (10 : Int) = ((10 : Nat) : Int) from rfl, ← Int.natCast_pow, Int.toNat_natCast]
  rw [← e]
  exact Int.toNat_le_toNat this
theorem ok_all (B : Bi mg) (F : Fun K "_law_all" "_law_all" s_L_all f fd) : FnOk P w K mg base CX0 1 f fd ["_law_some"] (spP K fun ds d => ∃ ns : List Int, ds = [.tuple (ns.map .int)] ∧ ns.length ≤ 4 ∧ (∀ n ∈ ns, 1 ≤ n ∧ n ≤ 9) ∧ d = .list ((allS ns).map tupI)) := by
  refine fn_pure F c_L_all (fun ds d ⟨ns, e, _⟩ => by rw [e]; rfl) fun cdv A outer s H E hr => ⟨_, (pss_cons (ps_set (i := 1) c_L_all.nd rfl (.inl rfl) (pe_lst (pa_cons (pe_tup pa_nil) pa_nil)))
      (pss_cons (ps_for PassesOwn.never rfl (pi_tup (pv 0)) (pg_name (i := 2) c_L_all.nd rfl (.inl rfl)) (pss_cons (ps_set (i := 3) c_L_all.nd rfl (.inl rfl) (pe_lst pa_nil))
      (pss_cons (ps_for PassesOwn.never rfl (pi_list (pv 1)) (pg_name (i := 4) c_L_all.nd rfl (.inr rfl)) (pss_one (ps_set (i := 3) c_L_all.nd rfl (.inl rfl) (pe_op op_cat (pv 3) (pe_lc (own := [("_law_many", 5)]) (g := gName 5) (tt := tYes) rfl c_L_all.nd (pi_range1 (by rfl) B.n_range (pa_cons (pe_op op_add (pv 2) pe_int) pa_nil)) (blkOk_by (N := N_L_all) (sc := defScope s_L_all) (by decide +kernel)) (fun _ _ _ _ _ => (pg_name (i := 5) c_L_all.nd rfl (.inl rfl))) (fun _ _ _ _ _ => pts_nil) (fun _ _ _ _ _ => (pe_op (ki_catA (K := K) rfl) (pv 4) (pe_tup (pa_cons (pv 5) pa_nil)))))))))
      (pss_one (ps_set (i := 1) c_L_all.nd rfl (.inl rfl) (pv 3))))))
      (pss_one (ps_ret (pv 1))))), ?_⟩
  rintro ds d ⟨ns, rfl, hl, hn, rfl⟩
  have hlen : ∀ j, (allS (ns.take j)).length ≤ 10000 := fun j => by
    refine Nat.le_trans (all_len fun n h => hn n (List.mem_of_mem_take h)) ?_
    refine Nat.le_trans (Nat.pow_le_pow_right (by decide) (show (ns.take j).length ≤ 4 by rw [List.length_take]; omega)) (by decide)
  have h13 : ∀ j, ∀ s ∈ allS (ns.take j), s.length ≤ 4 := fun j s hs => by
    rw [all_eq _ fun n h => by have := hn n (List.mem_of_mem_take h); omega] at hs
    obtain ⟨i, _, rfl⟩ := List.mem_map.mp hs
    rw [dig_len, List.length_take]
    omega
  refine sd_set (s := .dat (.list [.tuple []])) (d_lst (ds := [.tuple []]) (da_cons (d_tup (ds := []) a_nil) a_nil)) ?_
  refine (s_seq (k := 0 + 0 * (ns.map PyData.int).length) (k' := 0) (N := fun δ' => ∃ u v x y, δ' = [.dat (.tuple (ns.map .int)), .dat (.list ((allS ns).map tupI)), u, v, x, y]) (s_for (vs := [2]) (fun j δ' => ∃ u v x y, δ' = [.dat (.tuple (ns.map .int)), .dat (.list ((allS (ns.take j)).map tupI)), u, v, x, y]) (i_tup (e_vd rfl)) ⟨.unk, .unk, .unk, .unk, rfl⟩ ?_ ?_) ?_).up (by omega)
  · rintro j d δ' hd ⟨u, v, x, y, rfl⟩
    obtain ⟨n, hj, rfl⟩ := int_at hd
    have hb := hn n (List.mem_of_getElem? hj)
    refine ⟨_, tg_name, sd_set (s := .dat (.list [])) (d_lst (ds := []) a_nil) ?_⟩
    refine (s_seq (k := 0 + 0 * ((allS (ns.take j)).map tupI).length) (k' := 0) (N := fun δ' => ∃ x y, δ' = [.dat (.tuple (ns.map .int)), .dat (.list ((allS (ns.take j)).map tupI)), .i n, .dat (.list ((wide n (allS (ns.take j))).map tupI)), x, y]) (s_for (vs := [4]) (fun i δ' => ∃ x y, δ' = [.dat (.tuple (ns.map .int)), .dat (.list ((allS (ns.take j)).map tupI)), .i n, .dat (.list ((wide n ((allS (ns.take j)).take i)).map tupI)), x, y]) (i_list (e_vd rfl)) ⟨x, y, rfl⟩ ?_ ?_) ?_).up (by omega)
    · rintro i d δ' hd ⟨x, y, rfl⟩
      rw [List.getElem?_map] at hd
      obtain ⟨s, hs, rfl⟩ := Option.map_eq_some_iff.mp hd
      have hs4 := h13 j s (List.mem_of_getElem? hs)
      have hw : (wide n ((allS (ns.take j)).take i)).length ≤ 90000 := by
        rw [wide_len, List.length_take]
        refine Nat.le_trans (Nat.mul_le_mul (show min i (allS (ns.take j)).length ≤ 9000 from ?_) (show (n + 1).toNat ≤ 10 by omega)) (by decide)
        have h2 : (allS (ns.take j)).length ≤ 10 ^ 3 := by
          refine Nat.le_trans (all_len fun n h => hn n (List.mem_of_mem_take h)) (Nat.pow_le_pow_right (by decide) ?_)
          have : j < ns.length := (List.getElem?_eq_some_iff.mp hj).1
          rw [List.length_take]
          omega
        omega
      refine ⟨_, tg_name, s_asg (Φ := fun z => z = .dat (.list ((wide n ((allS (ns.take j)).take (i + 1))).map tupI))) ?_ fun z e => ⟨.dat (tupI s), y, by rw [e]; rfl⟩⟩
      rw [wide_take hs, List.map_append]
      have rl : (rangeD 0 (n + 1).toNat).length = (n + 1).toNat := rangeD_len _ _
      refine d_op (e_vd rfl) ((d_lc (f := fun d => match d with | .int m => .tuple (s.map .int ++ [.int m]) | _ => .none) (i_rngE (n := n + 1) (da_cons (d_op (e_vd rfl) e_int (rv_I0 fun _ => DD.int _)) a_nil) (by omega) (by omega)) (fun j d _ => tg_name) (fun j d hd => ?_) (by rw [rl]; omega)).mono fun z e => ?_) (rv_cat ?_)
      · obtain ⟨_, rfl⟩ := rangeD_get hd
        exact d_op (e_vd rfl) (d_tup (ds := [_]) (da_cons (e_vd rfl) a_nil)) (rv_catA (by rw [List.length_map]; simp; omega))
      · rw [e]
        congr 2
        unfold rangeD
        rw [List.map_map, List.map_map]
        refine List.map_congr_left fun m _ => ?_
        show PyData.tuple (s.map .int ++ [.int (0 + (m : Int))]) = tupI (s ++ [(m : Int)])
        unfold tupI
        rw [List.map_append, Int.zero_add]
        rfl
      · rw [List.length_map, List.length_map, List.length_map, List.length_range]
        omega
    · rintro δ' ⟨x, y, rfl⟩
      rw [List.length_map, List.take_length]
      exact ⟨x, y, rfl⟩
    · rintro δ' ⟨x, y, rfl⟩
      refine s_asg (e_vd rfl) fun z e => ⟨.i n, .dat (.list ((wide n (allS (ns.take j))).map tupI)), x, y, ?_⟩
      rw [e, take_snoc hj, all_snoc]
      rfl
  · rintro δ' ⟨u, v, x, y, rfl⟩
    rw [List.length_map, List.take_length]
    exact ⟨u, v, x, y, rfl⟩
  · rintro δ' ⟨u, v, x, y, rfl⟩
    exact s_ret (e_vd rfl)
end
end K01

namespace K01
open PySem PySem.Spec PyProof.Rows L2 ZX DL RT
structure Glc (mg : Str → Option Value) (x : Str) (C : Addr) : Prop where
  gC : mg x = some (.ref C)
structure Tx (K : PySem.W.Frag) (mg : Str → Option Value) where
  NoPlace : Addr
  NoBellows : Addr
  NoGap : Addr
  iNoPlace : Addr
  tNoPlace : X_NoPlace.Txt K mg NoPlace iNoPlace
  tNoBellows : Glc mg "NoBellows" NoBellows
  tNoGap : Glc mg "NoGap" NoGap
  xd : XG.ExD K NoPlace
  ex : PySem.W.exmAny K (.ref NoPlace) [.ref NoBellows, .ref NoGap, .ref NoPlace] = some true
  k1 : PySem.W.kitOne K (.ref NoPlace) (.ref NoPlace) = some true
  k2 : PySem.W.kitAny K (.ref NoPlace) [.ref NoBellows, .ref NoGap] = some false
  k3 : PySem.W.kitOne K (.ref NoPlace) (.type "LookupError") = some true
/-- standing_at: the standing, or NoPlace with its place -/
def spAt (K : PySem.W.Frag) (C : Addr) : Sp := fun vs H Q E => ∃ (G : Hp) (r : PyData) (ns : List Int) (p : Int), (∀ a o, G a = some o → H a = some o) ∧ DDs K G vs [r, .int p] ∧ IsSeq r (ns.map .int) ∧ Rms ns ∧
  ((0 ≤ p ∧ p < cnt ns) → ∀ v G2 H2, Mv (fun _ => False) G H G2 H2 → DD K G2 v (tupI (dig ns p)) → Q v H2) ∧
  (¬ (0 ≤ p ∧ p < cnt ns) → ∀ G2 H2 dd, Mv (fun _ => False) G H G2 H2 → H2 dd = none → E (.ref C) (some dd) (upd H2 dd (.xd [(("place" : Str), .int p)])))
structure C3 (P : Program) (w : World) (K : PySem.W.Frag) (mg : Str → Option Value) (base : Heap) : Prop where
  how_many : Cl P w K mg base 1 "how_many" s_how_many ["rooms"] (spP K Rcnt)
/-- what is left behind i of the rooms -/
def rest : List Int → Int → Int
  | [], p => p
  | n :: rs, p => rest rs (p / (n + 1))
theorem rest_snoc (rs : List Int) (n p : Int) : rest (rs ++ [n]) p = rest rs p / (n + 1) := by
  induction rs generalizing p with
  | nil => rfl
  | cons a l ih => exact ih _
theorem digR_snoc (rs : List Int) (n p : Int) : digR (rs ++ [n]) p = digR rs p ++ [rest rs p % (n + 1)] := by
  induction rs generalizing p with
  | nil => rfl
  | cons a l ih => exact congrArg (p % (a + 1) :: ·) (ih _)
theorem rest_le {rs : List Int} (h : ∀ n ∈ rs, 1 ≤ n) {p b : Int} (h0 : 0 ≤ p) (h1 : p ≤ b) : 0 ≤ rest rs p ∧ rest rs p ≤ b := by
  induction rs generalizing p with
  | nil => exact ⟨h0, h1⟩
  | cons a l ih =>
    have ha := h a (List.mem_cons_self ..)
    refine ih (fun n hn => h n (List.mem_cons_of_mem _ hn)) (Int.ediv_nonneg h0 (by omega)) ?_
    exact Int.le_trans (Int.ediv_le_self _ h0) h1
theorem cnt_big {ns : List Int} (h : Rms ns) : cnt ns ≤ 10 ^ 24 := by
  refine Int.le_trans (cnt_le (b := 99) (by decide) ns fun n hn => by have := h.2 n hn; omega) ?_
  show (100 : Int) ^ ns.length ≤ 10 ^ 24
  have e : (10 : Int) ^ 24 = 100 ^ 12 := by decide
  rw [e]
  rw [show (100 : Int) = ((100 : Nat) : Int) from rfl, ← Int.natCast_pow, ← Int.natCast_pow]
  exact Int.ofNat_le.mpr (Nat.pow_le_pow_right (by decide) h.1)
section
variable {P : Program} {w : World} {K : PySem.W.Frag} {mg : Str → Option Value} {base : Heap} {f : Addr} {fd : FuncData}
theorem evt_use {S : MS} {tt : TT} {σ : L2.St} {G H : Hp} {δ : List SD} {r : Nat} {Φ : Bool → Prop} {Q : Bool → Hp → Prop} (q : SlD K G σ δ) (w : Wd S r G H) (h : EvT K S tt δ 0 Φ) (hQ : ∀ c G2 H2, Mv S.M G H G2 H2 → Wd S r G2 H2 → Φ c → Q c H2) : tt σ H Q := h r σ G H q w Q hQ
theorem ev_use {S : MS} {te : TE} {σ : L2.St} {G H : Hp} {δ : List SD} {r : Nat} {Φ : SD → Prop} {Q : VK} (q : SlD K G σ δ) (w : Wd S r G H) (h : Ev K S te δ 0 Φ) (hQ : ∀ v s G2 H2, Mv S.M G H G2 H2 → Wd S r G2 H2 → VD K G2 v s → Φ s → Q v H2) : te σ H Q := h r σ G H q w Q hQ
theorem evs_use {S : MS} {t : TS} {σ : L2.St} {G H : Hp} {δ : List SD} {r : Nat} {N : List SD → Prop} {D : Ends} (q : SlD K G σ δ) (w : Wd S r G H) (h : EvS K S t δ 0 { nx := N }) (hQ : ∀ σ' δ' G2 H2, Mv S.M G H G2 H2 → Wd S r G2 H2 → SlD K G2 σ' δ' → N δ' → D.nx σ' H2) : t D σ H := h r σ G H q w D hQ (fun _ _ _ _ _ _ _ z => z.elim) (fun _ _ _ _ _ _ _ z => z.elim) (fun _ _ _ _ _ _ _ z => z.elim)
theorem if_use {S : MS} {tt : TT} {t u : TS} {σ : L2.St} {G H : Hp} {δ : List SD} {r : Nat} {Φ : Bool → Prop} {D : Ends} (q : SlD K G σ δ) (w : Wd S r G H) (h : EvT K S tt δ 0 Φ) (ht : ∀ G2 H2, Mv S.M G H G2 H2 → Wd S r G2 H2 → Φ true → tSeq t u D σ H2) (hf : ∀ G2 H2, Mv S.M G H G2 H2 → Wd S r G2 H2 → Φ false → u D σ H2) : tSeq (tIfS tt t tNext) u D σ H := h r σ G H q w _ fun c G2 H2 m w2 hc => by
  cases c with
  | true => exact iteT (ht G2 H2 m w2 hc)
  | false => exact iteF (hf G2 H2 m w2 hc)
theorem seq_use {S : MS} {t u : TS} {σ : L2.St} {G H : Hp} {δ : List SD} {r : Nat} {N : List SD → Prop} {D : Ends} (q : SlD K G σ δ) (w : Wd S r G H) (h : EvS K S t δ 0 { nx := N }) (hQ : ∀ σ' δ' G2 H2, Mv S.M G H G2 H2 → Wd S r G2 H2 → SlD K G2 σ' δ' → N δ' → u D σ' H2) : tSeq t u D σ H := h r σ G H q w _ hQ (fun _ _ _ _ _ _ _ z => z.elim) (fun _ _ _ _ _ _ _ z => z.elim) (fun _ _ _ _ _ _ _ z => z.elim)
theorem seq_pure {t u : TS} {σ : L2.St} {G H : Hp} {δ : List SD} {N : List SD → Prop} {D : Ends} (q : SlD K G σ δ) (sub : ∀ a o, G a = some o → H a = some o) (h : EvS K pu t δ 0 { nx := N }) (hQ : ∀ σ' δ' G2 H2, Mv (fun _ => False) G H G2 H2 → SlD K G2 σ' δ' → N δ' → u D σ' H2) : tSeq t u D σ H := seq_use q (wd_pu sub) h fun σ' δ' G2 H2 m _ q n => hQ σ' δ' G2 H2 m q n
theorem mv_loc {M : Addr → Prop} {G H G1 H1 : Hp} {l : Addr} {o : HO} (m : Mv M G H G1 H1) (hM : M l) (n1 : G1 l = none) : Mv M G H G1 (upd H1 l o) where
  gr := m.gr
  sub := fun a u e => by
    rw [upd_ne (ne_of_none e n1)]
    exact m.sub a u e
  old := m.old
  kp := fun a u e n => by
    rw [upd_ne (show a ≠ l from fun z => n (z ▸ hM))]
    exact m.kp a u e n
  dom := fun a u e => by
    by_cases ea : a = l
    · exact ⟨o, by rw [ea]; exact upd_same⟩
    · rw [upd_ne ea]
      exact m.dom a u e
theorem mv_fresh {M : Addr → Prop} {G H G1 H1 : Hp} (m : Mv M G H G1 H1) (h : ∀ a, M a → H a = none) : Mv (fun _ => False) G H G1 H1 := ⟨m.gr, m.sub, m.old, fun a o e _ => m.kp a o e fun z => (nomatch (h a z).symm.trans e), m.dom⟩
theorem rev_raw {G : Hp} {v : V} {d : PyData} {ds : List PyData} {σ : L2.St} {i : Nat} {H : Hp} {R : It → Hp → Prop} (h0 : σ[i]? = some (some v)) (hv : DD K G v d) (hs : IsSeq d ds) (sub : ∀ a o, G a = some o → H a = some o)
    (h : ∀ (J : It) (A : Hp → Prop) (Y : Nat → Hp → V → Hp → Prop), Walk J ds.length A Y → (∀ H', (∀ a o, G a = some o → H' a = some o) → A H') → (∀ (i : Nat) (d' : PyData) H' x H'', ds.reverse[i]? = some d' → Y i H' x H'' → H'' = H' ∧ DD K G x d') → R J H) :
    iRevA K (tVar i) σ H R := by
  refine ⟨v, h0, ?_⟩
  have fin : ∀ (xs : List V) (x : V) (i : Nat) (d' : PyData), DDs K G xs ds → ds.reverse[i]? = some d' → xs[xs.length - 1 - i]? = some x → DD K G x d' := fun xs x i d' t hd hy => by
    have hi : i < ds.length := by
      have := (List.getElem?_eq_some_iff.mp hd).1
      rwa [List.length_reverse] at this
    rw [List.getElem?_reverse hi, ← t.len] at hd
    obtain ⟨e, h1, h2⟩ := t.get hy
    cases h1.symm.trans hd
    exact h2
  rcases hs with rfl | rfl
  · cases hv with
    | @lst a xs _ hx t =>
      exact ⟨a, xs, rfl, .inl ⟨.inl (.inl (sub _ _ hx)), h _ (fun H => SqL K H a xs) (fun i H x H' => H' = H ∧ xs[xs.length - 1 - i]? = some x) (by rw [← t.len]; exact walk_rev) (fun H' s => .inl (.inl (s _ _ hx))) fun i d' H' x H'' hd ⟨e, hy⟩ => ⟨e, fin xs x i d' t hd hy⟩⟩⟩
  · cases hv with
    | @tup a xs _ hx t =>
      exact ⟨a, xs, rfl, .inr ⟨.inl (.inl (sub _ _ hx)), h _ (fun H => SqT K H a xs) (fun i H x H' => H' = H ∧ xs[xs.length - 1 - i]? = some x) (by rw [← t.len]; exact walk_revT) (fun H' s => .inl (.inl (s _ _ hx))) fun i d' H' x H'' hd ⟨e, hy⟩ => ⟨e, fin xs x i d' t hd hy⟩⟩⟩
theorem for_rev {g : TG} {tb : TS} {D : Ends} {G : Hp} {v : V} {d : PyData} {ds : List PyData} {σ : L2.St} {H : Hp} {i : Nat} (h0 : σ[i]? = some (some v)) (hv : DD K G v d) (hs : IsSeq d ds) (sub : ∀ a o, G a = some o → H a = some o) (Pv : Nat → L2.St → Hp → Prop) (hP : Pv 0 σ H) (hsub : ∀ j σ' H', Pv j σ' H' → ∀ a o, G a = some o → H' a = some o)
    (step : ∀ (j : Nat) (d' : PyData) σ' H' x, ds.reverse[j]? = some d' → Pv j σ' H' → DD K G x d' → g x σ' H' fun σ2 H2 => tb { nx := Pv (j + 1), rt := D.rt, bk := D.nx, ct := Pv (j + 1) } σ2 H2) (done : ∀ σ' H', Pv ds.length σ' H' → D.nx σ' H') : tFor (iRevA K (tVar i)) g tb D σ H := by
  show iRevA K (tVar i) σ H _
  refine rev_raw h0 hv hs sub fun J A Y wk hA hY => ?_
  refine for_it wk Pv hP (fun j σ' H' _ p => hA H' (hsub j σ' H' p)) (fun j x σ' H4 H5 hlt p y => ?_) done
  have hd : ds.reverse[j]? = some (ds.reverse[j]'(by rw [List.length_reverse]; exact hlt)) := List.getElem?_eq_getElem _
  obtain ⟨rfl, dx⟩ := hY j _ H4 x H5 hd y
  exact step j _ σ' H5 x hd p dx
theorem ok_at (B : Bi mg) (T : Tx K mg) (C : C3 P w K mg base) (F : Fun K "standing_at" "standing_at" s_standing_at f fd) : FnOk P w K mg base (L2.CX P w) 3 f fd ["rooms", "place"] (spAt K T.NoPlace) := by
  refine F.okX c_standing_at (fun vs H Q E h => ?_) (fun cdv A outer s H vs Q E hr h => ?_)
  · obtain ⟨G, r, ns, p, _, dd, _⟩ := h
    exact dd.len
  · obtain ⟨G, r, ns, p, sub, dd, hs, hR, hq, hE⟩ := h
    refine ⟨_, (pss_cons (ps_if (pt_not (pt_chain op_le op_lt pe_int (pv 1) (pe_cl C.how_many hr (by omega) (by rfl) (pa_cons (pv 0) pa_nil)))) (pss_one (ps_raise rfl (takes_of rfl rfl rfl rfl) (X_NoPlace.pmk T.tNoPlace hr (pa_cons (pv 1) pa_nil)))) pss_nil)
      (pss_cons (ps_set (i := 2) c_standing_at.nd rfl (.inl rfl) (pe_lst pa_nil))
      (pss_cons (ps_set (i := 3) c_standing_at.nd rfl (.inl rfl) (pv 1))
      (pss_cons (ps_for (passes_of rfl) rfl (pi_revA (by rfl) B.n_reversed (pv 0)) (pg_name (i := 4) c_standing_at.nd rfl (.inl rfl)) (pss_cons (ps_asg (pe_callB call_divmodW (by rfl) B.n_divmod (by decide +kernel) (pa_cons (pv 3) (pa_cons (pe_op op_add (pv 4) pe_int) pa_nil))) (pg_tup rfl (pgs_cons (pg_name (i := 3) c_standing_at.nd rfl (.inl rfl)) (pgs_cons (pg_name (i := 5) c_standing_at.nd rfl (.inl rfl)) pgs_nil))))
      (pss_one (ps_expr (pe_bm PySem.F.plainAttrs_list PySem.F.slot_list_append PySem.F.type_list_append mt_append (pv 2) (pa_cons (pv 5) pa_nil))))))
      (pss_one (ps_ret (pe_callTy call_tuple_of (by rfl) B.n_tuple (by decide +kernel) (pa_cons (pe_revL (pv 2)) pa_nil)))))))), ?_⟩
    have q0 : SlD K G (L2.start N_standing_at vs) [.dat r, .i p, .unk, .unk, .unk, .unk] := start_slots dd
    have cv : (decide (0 ≤ p) && decide (p < cnt ns)) = decide (0 ≤ p ∧ p < cnt ns) := by
      by_cases h1 : 0 ≤ p <;> by_cases h2 : p < cnt ns <;> simp [h1, h2]
    refine if_use (S := pu) (Φ := fun c => c = !(decide (0 ≤ p) && decide (p < cnt ns))) q0 (wd_pu sub) ?_ (fun G2 H2 m w2 hc => ?_) (fun G2 H2 m w2 hc => ?_)
    · exact t_not (t_test (e_chain (s1 := .i 0) (s2 := .i p) (s3 := .i (cnt ns)) e_int (e_vd rfl) (rv_I0 fun _ => DD.bl _) (fun _ => d_call (da_cons (e_vd rfl) a_nil) ⟨r, ns, rfl, hs, hR, rfl⟩) fun _ => rv_I0 fun _ => DD.bl _))
    · have hin : ¬ (0 ≤ p ∧ p < cnt ns) := fun z => by
        rw [cv, decide_eq_true z] at hc
        cases hc
      exact ⟨.int p, (q0.mono m.gr).int rfl, .int p, rfl, fun dd nd => hE hin G2 H2 dd m nd⟩
    · have hin : 0 ≤ p ∧ p < cnt ns := by
        refine Classical.byContradiction fun z => ?_
        rw [cv, decide_eq_false z] at hc
        cases hc
      have q2 := q0.mono m.gr
      refine ⟨by show 0 ≤ sizeLine; decide, fun l nl => ?_⟩
      have nG : G2 l = none := by
        cases e : G2 l with
        | none => rfl
        | some o =>
          rw [w2.sub l o e] at nl
          cases nl
      have n0 : H l = none := by
        cases e : H l with
        | none => rfl
        | some o =>
          obtain ⟨o', e'⟩ := m.dom l o e
          rw [e'] at nl
          cases nl
      have q3 := (q2.set (s := .ref l) (v := .ref l) rfl 2)
      refine ⟨.int p, q3.int rfl, ?_⟩
      have q4 := q3.set (s := .i p) (DD.int p) 3
      obtain ⟨v0, hv0, dv0⟩ := q4.dat (i := 0) rfl
      have sub3 : ∀ a o, G2 a = some o → upd H2 l (.lst []) a = some o := fun a o e => by
        rw [upd_ne (ne_of_none e nG)]
        exact w2.sub a o e
      have hrs : ∀ n ∈ ns.reverse, 1 ≤ n ∧ n ≤ 99 := fun n hn => hR.2 n (List.mem_reverse.mp hn)
      have big := cnt_big hR
      refine for_rev (D := { nx := _, rt := Q }) hv0 dv0 hs sub3 (fun i σ' H4 => ∃ G4 u v, Mv (fun a => a = l) G2 (upd H2 l (.lst [])) G4 H4 ∧ SlD K G4 σ' [.dat r, .i p, .ref l, .i (rest (ns.reverse.take i) p), u, v] ∧ G4 l = none ∧ H4 l = some (.lst ((digR (ns.reverse.take i) p).map V.int)))
        ⟨G2, .unk, .unk, Mv.refl sub3, q4, nG, upd_same⟩ (fun i σ' H4 ⟨G4, u, v, m4, _⟩ => fun a o e => m4.sub a o (m4.gr a o e)) ?_ ?_
      · rintro i d' σ' H5 x hd ⟨G4, u, v, m4, q5, n4, h4⟩ dx
        rw [← List.map_reverse] at hd
        obtain ⟨n, hi, rfl⟩ := int_at hd
        cases dx
        have hb := hrs n (List.mem_of_getElem? hi)
        obtain ⟨r0, r1⟩ := rest_le (rs := ns.reverse.take i) (fun n hn => (hrs n (List.mem_of_mem_take hn)).1) hin.1 (Int.le_of_lt hin.2)
        have w4 : Wd (ow l) 0 G4 H5 := ⟨m4.sub, fun a e => by rw [show a = l from e]; exact n4, ⟨_, h4⟩⟩
        have q6 := q5.set (s := .i n) (DD.int n) 4
        refine seq_pure (N := fun δ' => δ' = [.dat r, .i p, .ref l, .i (rest (ns.reverse.take i) p / (n + 1)), .i n, .i (rest (ns.reverse.take i) p % (n + 1))]) q6 m4.sub ?_ fun σ7 δ7 G7 H7 m7 q7 e7 => ?_
        · refine s_asgT (d_cb (ss := [.i (rest (ns.reverse.take i) p), .i (n + 1)]) (da_cons (e_vd rfl) (da_cons (d_op (e_vd rfl) e_int (rv_I0 fun _ => DD.int _)) a_nil)) (rc_divmod (divp_small (by omega) ?_))) rfl
          exact Nat.lt_of_lt_of_le (show (rest (ns.reverse.take i) p).natAbs < 2 ^ 100 by omega) (Nat.pow_le_pow_right (by decide) (show 100 ≤ 4000 by decide))
        · subst e7
          have h7 : H7 l = some (.lst ((digR (ns.reverse.take i) p).map V.int)) := m7.kp l _ h4 fun z => z
          have n7 : G7 l = none := (m7.old l _ h4).trans n4
          refine ⟨.ref l, q7.ref rfl, .inl ⟨rfl, _, .inl (.inl h7)⟩, .int (rest (ns.reverse.take i) p % (n + 1)), q7.int rfl, l, _, _, rfl, rfl, h7, ?_, ?_⟩
          · rw [List.length_map, digR_len, List.length_take, List.length_reverse]
            exact Nat.lt_of_le_of_lt (show min i ns.length ≤ 12 by have := hR.1; omega) (by decide)
          · refine ⟨G7, .i n, .i (rest (ns.reverse.take i) p % (n + 1)), ?_, ?_, n7, ?_⟩
            · exact mv_loc (m4.trans (m7.weak fun _ z => z.elim)) rfl n7
            · rw [take_snoc hi, rest_snoc]
              exact q7
            · rw [upd_same, take_snoc hi, digR_snoc, List.map_append]
              rfl
      · rintro σ' H4 ⟨G4, u, v, m4, q5, n4, h4⟩
        rw [List.length_map, ← List.length_reverse, List.take_length] at h4 q5
        refine ⟨.ref l, q5.ref rfl, l, _, rfl, .inl (.inl h4), fun p1 np1 => ⟨p1, _, rfl, .inl ⟨.inl (.inl upd_same), fun p2 np2 => ?_⟩⟩⟩
        have mA : Mv (fun _ => False) G H G4 H4 := mv_fresh (((m.weak (M' := fun a => a = l) fun _ z => z.elim).loc n0 nG).trans m4) fun a e => by rw [show a = l from e]; exact n0
        have g1 : G4 p1 = none := by
          cases e : G4 p1 with
          | none => rfl
          | some o =>
            rw [m4.sub p1 o e] at np1
            cases np1
        have h1 : H p1 = none := by
          cases e : H p1 with
          | none => rfl
          | some o =>
            obtain ⟨o', e'⟩ := mA.dom p1 o e
            rw [e'] at np1
            cases np1
        have mB := mA.loc (o := .lst ((digR ns.reverse p).map V.int).reverse) h1 g1
        have mC := mB.trans (Mv.new (o := .tup ((digR ns.reverse p).map V.int).reverse) mB.sub np2)
        refine hq hin (.ref p2) _ _ mC (DD.tup upd_same ?_)
        rw [← List.map_reverse]
        exact DDs.ofInts _
end
end K01

namespace K01
open PySem PySem.Spec PyProof.Rows L2 ZX DL RT
section
variable {P : Program} {w : World} {K : PySem.W.Frag} {mg : Str → Option Value} {base : Heap} {f : Addr} {fd : FuncData}
structure FX (P : Program) (w : World) (K : PySem.W.Frag) (mg : Str → Option Value) (base : Heap) (x : Str) (k : Nat) (f : Addr) (fd : FuncData) (ps : List Str) (sp : Sp) : Prop where
  ok : FnOk P w K mg base (L2.CX P w) k f fd ps sp
  gm : mg x = some (.ref f)
  kp : PySem.W.keepIn K (.ref f) = true
  bi : Binds K fd ps []
def Rno : List PyData → PyData → Prop := fun ds d => ∃ (ns : List Int) (p : Int), ds = [.tuple (ns.map .int), .int p] ∧ Rms ns ∧ ¬ (0 ≤ p ∧ p < cnt ns) ∧ d = .bool true
theorem mv_more {G H G1 H1 : Hp} {l : Addr} {o : HO} (m : Mv (fun _ => False) G H G1 H1) (n : H1 l = none) : Mv (fun _ => False) G H G1 (upd H1 l o) ∧ G1 l = none := by
  have g : G1 l = none := by
    cases e : G1 l with
    | none => rfl
    | some o =>
      rw [m.sub l o e] at n
      cases n
  have h : H l = none := by
    cases e : H l with
    | none => rfl
    | some o =>
      obtain ⟨o', e'⟩ := m.dom l o e
      rw [e'] at n
      cases n
  exact ⟨m.loc h g, g⟩
theorem ok_no {g : Addr} {gd : FuncData} (B : Bi mg) (T : Tx K mg) (C : Cs P w K mg base 4) (FX_standing_at : FX P w K mg base "standing_at" 3 g gd ["rooms", "place"] (spAt K T.NoPlace)) (F : Fun K "_law_no_place" "_law_no_place" s_L_no_place f fd) : FnOk P w K mg base CX0 6 f fd ["_law_place_rooms", "_law_number"] (spP K Rno) := by
  refine F.ok c_L_no_place (fun vs H Q E h => ?_) (fun cdv A outer s H vs Q E hr h => ?_)
  · obtain ⟨G, ds, d, _, dd, ⟨ns, p, rfl, _⟩, _⟩ := h
    exact dd.len
  · obtain ⟨G, ds, d, sub, dd, ⟨ns, p, rfl, hR, hn, rfl⟩, q⟩ := h
    refine ⟨_, (pss_cons (ps_set (i := 2) c_L_no_place.nd rfl (.inl rfl) pe_non)
      (pss_cons (XG.ps_tryT (i := 3) rfl rfl rfl c_L_no_place.nd rfl rfl (XG.tst3 ⟨by rfl, by decide, .inl T.tNoBellows.gC⟩ ⟨by rfl, by decide, .inl T.tNoGap.gC⟩ ⟨by rfl, by decide, .inl T.tNoPlace.gC⟩) takes0 (fun W pn xe tk _ => (pss_one (ps_expr (pe_callS FX_standing_at.ok (hr.mono (by omega)) (by rfl) FX_standing_at.gm FX_standing_at.kp FX_standing_at.bi (fun σ => passAt tk σ) (pa_cons (pv 0) (pa_cons (pv 1) pa_nil)))))) (fun ea oe pn hf => (pss_one (ps_set (i := 2) c_L_no_place.nd rfl (.inl rfl) (pv 3)))))
      (pss_cons (ps_if (PW.pt (pw_or (pt_not (pt_val (pe_callB XG.call_isX (by rfl) B.n_isinstance (by decide +kernel) (pa_cons (pv 2) (pa_cons (pe_glob (v := .ref T.NoPlace) (by rfl) T.tNoPlace.gC rfl) pa_nil))))) (pw_or1 (pt_val (pe_callB XG.call_isXT (by rfl) B.n_isinstance (by decide +kernel) (pa_cons (pv 2) (pa_cons (pe_tup (pa_cons (pe_glob (v := .ref T.NoBellows) (by rfl) T.tNoBellows.gC rfl) (pa_cons (pe_glob (v := .ref T.NoGap) (by rfl) T.tNoGap.gC rfl) pa_nil))) pa_nil))))))) (pss_one (ps_ret pe_bl)) pss_nil)
      (pss_one (ps_ret (pe_and (pe_callB XG.call_isX (by rfl) B.n_isinstance (by decide +kernel) (pa_cons (pv 2) (pa_cons (pe_bltn (v := .ty "LookupError") (by rfl) B.n_LookupError (by decide +kernel) rfl) pa_nil))) (pe_one (pe_cl C.L_same hr (by omega) (by rfl) (pa_cons (XG.pe_fldX (pv 2)) (pa_cons (pv 1) pa_nil)))))))))), ?_⟩
    have q0 : SlD K G (L2.start N_L_no_place vs) [.dat (.tuple (ns.map .int)), .i p, .unk, .unk] := start_slots dd
    have q1 := q0.set (s := .dat .none) DD.non 2
    obtain ⟨v0, e0, d0⟩ := q1.dat (i := 0) rfl
    refine ⟨v0, e0, .int p, q1.int rfl, G, _, ns, p, sub, .cons d0 (.cons (.int p) .nil), .inr rfl, hR, fun z => absurd z hn, fun _ G2 H2 dd m nd => ?_⟩
    refine ⟨true, T.ex, fun _ ea na => ?_, fun z => nomatch z⟩
    have q2 := q1.mono m.gr
    have q3 := q2.set (s := .ref ea) (v := .ref ea) rfl 3
    refine ⟨.ref ea, q3.ref rfl, ?_⟩
    have q5 := (q3.set (s := .ref ea) (v := .ref ea) rfl 2).none 3
    have ne : ea ≠ dd := fun z => by
      rw [z, upd_same] at na
      cases na
    have na2 : H2 ea = none := by
      rw [upd_ne ne] at na
      exact na
    obtain ⟨m1, f1⟩ := mv_more (o := .xd [(("place" : Str), .int p)]) m nd
    obtain ⟨m2, f2⟩ := mv_more (o := XG.ExT (.ref T.NoPlace) (some dd) ea) m1 na
    have kept : XG.Kept K (upd (upd H2 dd (.xd [(("place" : Str), .int p)])) ea (XG.ExT (.ref T.NoPlace) (some dd) ea)) ea T.NoPlace [(("place" : Str), .int p)] := ⟨dd, upd_same, by rw [upd_ne ne.symm]; exact upd_same⟩
    refine ⟨.ref ea, q5.ref rfl, ea, T.NoPlace, _, .ref T.NoPlace, _, true, rfl, .own _, kept, T.xd, T.k1, true, rfl, ?_⟩
    refine iteF ?_
    refine ⟨.ref ea, q5.ref rfl, by show 2 ≤ sizeLine; decide, fun tp ntp => ?_⟩
    obtain ⟨m3, f3⟩ := mv_more (o := .tup [.ref T.NoBellows, .ref T.NoGap]) m2 ntp
    have kept2 : XG.Kept K (upd (upd (upd H2 dd (.xd [(("place" : Str), .int p)])) ea (XG.ExT (.ref T.NoPlace) (some dd) ea)) tp (.tup [.ref T.NoBellows, .ref T.NoGap])) ea T.NoPlace [(("place" : Str), .int p)] := by
      obtain ⟨d', h1, h2⟩ := kept
      exact ⟨d', by rw [upd_ne (ne_of_none h1 ntp)]; exact h1, by rw [upd_ne (ne_of_none h2 ntp)]; exact h2⟩
    refine ⟨ea, T.NoPlace, tp, _, [.ref T.NoBellows, .ref T.NoGap], _, false, rfl, upd_same, .cons (.own _) (.cons (.own _) .nil), kept2, T.xd, T.k2, false, rfl, ?_⟩
    refine iteF ?_
    refine ⟨.ref ea, q5.ref rfl, ea, T.NoPlace, _, .ty "LookupError", _, true, rfl, .ty _, kept2, T.xd, T.k3, true, rfl, ?_⟩
    refine iteT ?_
    refine ⟨.ref ea, q5.ref rfl, ea, T.NoPlace, _, .int p, rfl, kept2, T.xd, T.tNoPlace.noN, rfl, .int p, q5.int rfl, ?_⟩
    exact ⟨G2, [.int p, .int p], .bool true, m3.sub, .cons (.int p) (.cons (.int p) .nil), ⟨.int p, rfl, trivial, rfl⟩, fun v G3 H3 m4 dv => q v G3 H3 (m3.trans m4) dv⟩
end
end K01

namespace K01
open PySem PySem.Spec PyProof.Rows L2 ZX DL RT
section
variable {P : Program} {w : World} {K : PySem.W.Frag} {mg : Str → Option Value} {base : Heap} {f : Addr} {fd : FuncData}
/-- a def that may raise, where it doesn't -/
theorem fn_calm {k : Nat} {ps : List Str} {sp sp' : Sp} (F : FnOk P w K mg base (L2.CX P w) k f fd ps sp) (h : ∀ vs H Q E, sp' vs H Q E → sp vs H Q (fun _ _ _ => False)) : FnOk P w K mg base CX0 k f fd ps sp' :=
  ⟨fun vs H Q E q => F.len vs H Q _ (h vs H Q E q), fun A outer s H args us vs Q E hr he hb hv hs => codeAny_mono (F.run A outer s H args us vs Q (fun _ _ _ => False) hr he hb hv (h vs H Q E hs)) fun r s' hr => by
    cases r with
    | error e =>
      obtain ⟨_, _, _, _, _, _, _, _, _, _, _, _, z⟩ := hr
      exact z.elim
    | ok fl => cases fl <;> exact hr⟩
def Rat : List PyData → PyData → Prop := fun ds d => ∃ (r : PyData) (ns : List Int) (p : Int), ds = [r, .int p] ∧ IsSeq r (ns.map .int) ∧ Rms ns ∧ 0 ≤ p ∧ p < cnt ns ∧ d = tupI (dig ns p)
theorem at_calm {C : Addr} (F : FnOk P w K mg base (L2.CX P w) 3 f fd ["rooms", "place"] (spAt K C)) : FnOk P w K mg base CX0 3 f fd ["rooms", "place"] (spP K Rat) :=
  fn_calm F fun vs H Q E ⟨G, ds, d, sub, dd, ⟨r, ns, p, e, hs, hR, h0, h1, ed⟩, q⟩ => by
    subst e ed
    exact ⟨G, r, ns, p, sub, dd, hs, hR, fun _ v G2 H2 m dv => q v G2 H2 m dv, fun z => absurd ⟨h0, h1⟩ z⟩
theorem k_how_many_rooms (f : Addr) (fd : FuncData) (F : Fun K "how_many" "how_many" s_how_many f fd) : KBn K fd ["rooms"] 0 ["rooms"] (fun _ ws => ws) (fun _ zs => zs) :=
  kb_of F (fun _ _ _ _ _ _ us ws h1 h2 => match us, ws, h1, h2 with | [], [_], _, _ => rfl) fun _ r => r
theorem k_place_of_standing_rooms (f : Addr) (fd : FuncData) (F : Fun K "place_of" "place_of" s_place_of f fd) : KBn K fd ["rooms", "standing"] 0 ["standing", "rooms"] (fun _ ws => ws.reverse) (fun _ zs => zs.reverse) :=
  kb_of F (fun _ _ _ _ _ _ us ws h1 h2 => match us, ws, h1, h2 with | [], [_, _], _, _ => rfl) fun _ r => r.reverse
theorem k_standing_at_place (f : Addr) (fd : FuncData) (F : Fun K "standing_at" "standing_at" s_standing_at f fd) : KBn K fd ["rooms", "place"] 1 ["place"] (fun us ws => us ++ ws) (fun vs zs => vs ++ zs) :=
  kb_of F (fun _ _ _ _ _ _ us ws h1 h2 => match us, ws, h1, h2 with | [_], [_], _, _ => rfl) fun r s => r.append s
structure Cr (P : Program) (w : World) (K : PySem.W.Frag) (mg : Str → Option Value) (base : Heap) : Prop where
  how_many : Cl P w K mg base 1 "how_many" s_how_many ["rooms"] (spP K Rcnt)
  place_of : Cl P w K mg base 1 "place_of" s_place_of ["rooms", "standing"] (spP K Rplc)
  standing_at : Cl P w K mg base 3 "standing_at" s_standing_at ["rooms", "place"] (spP K Rat)
  L_take : Cl P w K mg base 1 "_law_take" s_L_take ["_law_box_here", "_law_bound"] (spB K Rtake)
  L_same : Cl P w K mg base 4 "_law_same" s_L_same ["_law_found", "_law_due"] (spP K (RsameN 4))
  L_rooms : Cl P w K mg base 2 "_law_rooms" s_L_rooms ["_law_box_here", "_law_most"] (spB K Rdraw)
  L_standing : Cl P w K mg base 2 "_law_standing" s_L_standing ["_law_box_here", "_law_homes"] (spB K Rlie)
  L_no_place : Cl P w K mg base 6 "_law_no_place" s_L_no_place ["_law_place_rooms", "_law_number"] (spP K Rno)
  L_all : Cl P w K mg base 1 "_law_all" s_L_all ["_law_some"] (spP K fun ds d => ∃ ns : List Int, ds = [.tuple (ns.map .int)] ∧ ns.length ≤ 4 ∧ (∀ n ∈ ns, 1 ≤ n ∧ n ≤ 9) ∧ d = .list ((allS ns).map tupI))
  L_count : Cl P w K mg base 1 "_law_count" s_L_count ["_law_some"] (spP K fun ds d => ∃ ns : List Int, ds = [.tuple (ns.map .int)] ∧ Rms ns ∧ d = .int (cnt ns))
theorem pl_tupI (n : Nat) {s : List Int} (h : s.length ≤ 100000) : Pl (n + 1) (tupI s) := pl_ints h
theorem pl_int (n : Nat) (i : Int) : Pl n (.int i) := by cases n <;> trivial
theorem pl_list {n : Nat} {l : List PyData} (h : l.length ≤ 100000) (hp : ∀ d ∈ l, Pl n d) : Pl (n + 1) (.list l) := ⟨h, hp⟩
set_option maxHeartbeats 400000 in
theorem ok_right (B : Bi mg) (C : Cr P w K mg base) (F : Fun K "_law_right" "_law_right" s_L_right f fd) : FnOk P w K mg base CX0 9 f fd ["_law_box_here"] (spB K Rright) := by
  refine fn_box F c_L_right (fun ds c Φ ⟨e, _⟩ => by rw [e]; rfl) fun cdv A outer s H E hr => ⟨_, (pss_cons (ps_set (i := 1) c_L_right.nd rfl (.inr rfl) (pe_cl C.L_rooms hr (by omega) (by rfl) (pa_cons (pv 0) (pa_cons pe_int pa_nil))))
      (pss_cons (ps_set (i := 2) c_L_right.nd rfl (.inl rfl) (pe_cl C.L_count hr (by omega) (by rfl) (pa_cons (pv 1) pa_nil)))
      (pss_cons (ps_if (pt_not (pt_val (pe_cl C.L_same hr (by omega) (by rfl) (pa_cons (pe_lst (pa_cons (pe_cl C.how_many hr (by omega) (by rfl) (pa_cons (pv 1) pa_nil)) (pa_cons (pe_clk0 C.how_many hr (by omega) (by rfl) (k_how_many_rooms) (pk_cons (pe_callTy call_list_of (by rfl) B.n_list (by decide +kernel) (pa_cons (pv 1) pa_nil)) pk_nil)) pa_nil))) (pa_cons (pe_lst (pa_cons (pv 2) (pa_cons (pv 2) pa_nil))) pa_nil))))) (pss_one (ps_ret pe_bl)) pss_nil)
      (pss_cons (ps_if (pt_cmpR op_le (pv 2) pe_int (nomark _)) (pss_cons (ps_set (i := 3) c_L_right.nd rfl (.inl rfl) (pe_cl C.L_all hr (by omega) (by rfl) (pa_cons (pv 1) pa_nil)))
      (pss_cons (ps_set (i := 4) c_L_right.nd rfl (.inl rfl) (pe_tup (pa_cons (pe_lc (own := [("_law_one", 6)]) (g := gName 6) (tt := tYes) rfl c_L_right.nd (pi_list (pv 3)) (blkOk_by (N := N_L_right) (sc := defScope s_L_right) (by decide +kernel)) (fun _ _ _ _ _ => (pg_name (i := 6) c_L_right.nd rfl (.inl rfl))) (fun _ _ _ _ _ => pts_nil) (fun _ _ _ _ _ => (pe_cl C.place_of hr (by omega) (by rfl) (pa_cons (pv 1) (pa_cons (pv 6) pa_nil))))) (pa_cons (pe_lc (own := [("_law_at", 8)]) (g := gName 8) (tt := tYes) rfl c_L_right.nd (pi_range1 (by rfl) B.n_range (pa_cons (pv 2) pa_nil)) (blkOk_by (N := N_L_right) (sc := defScope s_L_right) (by decide +kernel)) (fun _ _ _ _ _ => (pg_name (i := 8) c_L_right.nd rfl (.inl rfl))) (fun _ _ _ _ _ => pts_nil) (fun _ _ _ _ _ => (pe_cl C.standing_at hr (by omega) (by rfl) (pa_cons (pv 1) (pa_cons (pv 8) pa_nil))))) pa_nil))))
      (pss_one (ps_if (pt_not (pt_val (pe_cl C.L_same hr (by omega) (by rfl) (pa_cons (pv 4) (pa_cons (pe_tup (pa_cons (pe_listRg rfl (by rfl) B.n_list (prg_1 (by rfl) B.n_range (pv 2))) (pa_cons (pv 3) pa_nil))) pa_nil))))) (pss_one (ps_ret pe_bl)) pss_nil)))) pss_nil)
      (pss_cons (ps_set (i := 5) c_L_right.nd rfl (.inl rfl) (pe_callTy call_tuple_of (by rfl) B.n_tuple (by decide +kernel) (pa_cons (pe_lc (own := [("_law_bellows", 11)]) (g := gName 11) (tt := tYes) rfl c_L_right.nd (pi_range1 (by rfl) B.n_range (pa_cons pe_int pa_nil)) (blkOk_by (N := N_L_right) (sc := defScope s_L_right) (by decide +kernel)) (fun _ _ _ _ _ => (pg_name (i := 11) c_L_right.nd rfl (.inl rfl))) (fun _ _ _ _ _ => pts_nil) (fun _ _ _ _ _ => (pe_ix (ki_ixL (K := K) rfl) (pe_lst (pa_cons pe_int (pa_cons pe_int (pa_cons (pe_op op_add pe_int (pe_cl C.L_take hr (by omega) (by rfl) (pa_cons (pv 0) (pa_cons pe_int pa_nil)))) pa_nil)))) (pe_cl C.L_take hr (by omega) (by rfl) (pa_cons (pv 0) (pa_cons pe_int pa_nil))) (fun _ _ => rfl)))) pa_nil)))
      (pss_cons (ps_par (i := 6) (j := 7) (by rfl) c_L_right.nd rfl rfl (by decide) rfl rfl (pa_cons (pe_cl C.L_standing hr (by omega) (by rfl) (pa_cons (pv 0) (pa_cons (pv 5) pa_nil))) (pa_cons (pe_cl C.L_count hr (by omega) (by rfl) (pa_cons (pv 5) pa_nil)) pa_nil)) (by rfl))
      (pss_cons (ps_set (i := 8) c_L_right.nd rfl (.inl rfl) (pe_clk0 C.place_of hr (by omega) (by rfl) (k_place_of_standing_rooms) (pk_cons (pe_callTy call_list_of (by rfl) B.n_list (by decide +kernel) (pa_cons (pv 6) pa_nil)) (pk_cons (pv 5) pk_nil))))
      (pss_cons (ps_if (PW.pt (pw_or (pt_not (pt_chain op_le op_lt pe_int (pv 8) (pv 7))) (pw_or1 (pt_not (pt_val (pe_cl C.L_same hr (by omega) (by rfl) (pa_cons (pe_clk C.standing_at hr (by omega) (by rfl) (k_standing_at_place) (pa_cons (pv 5) pa_nil) (pk_cons (pv 8) pk_nil)) (pa_cons (pv 6) pa_nil)))))))) (pss_one (ps_ret pe_bl)) pss_nil)
      (pss_cons (ps_set (i := 9) c_L_right.nd rfl (.inl rfl) (pe_lst (pa_cons (pe_cl C.place_of hr (by omega) (by rfl) (pa_cons (pv 5) (pa_cons (pe_op op_repX (pe_tup (pa_cons pe_int pa_nil)) pe_int) pa_nil))) (pa_cons (pe_cl C.place_of hr (by omega) (by rfl) (pa_cons (pv 5) (pa_cons (pv 5) pa_nil))) (pa_cons (pe_cl C.how_many hr (by omega) (by rfl) (pa_cons (pv 5) pa_nil)) pa_nil)))))
      (pss_cons (ps_if (pt_not (pt_val (pe_cl C.L_same hr (by omega) (by rfl) (pa_cons (pv 9) (pa_cons (pe_lst (pa_cons pe_int (pa_cons (pe_op op_sub (pv 7) pe_int) (pa_cons (pv 7) pa_nil)))) pa_nil))))) (pss_one (ps_ret pe_bl)) pss_nil)
      (pss_cons (ps_set (i := 10) c_L_right.nd rfl (.inl rfl) (pe_lst (pa_cons (pe_un un_neg pe_int) (pa_cons (pv 2) (pa_cons (pe_op op_add (pv 2) (pe_cl C.L_take hr (by omega) (by rfl) (pa_cons (pv 0) (pa_cons (pe_op op_pow pe_int pe_int) pa_nil)))) (pa_cons (pe_un un_neg (pv 2)) (pa_cons (pe_op op_pow pe_int pe_int) pa_nil)))))))
      (pss_one (ps_ret (pe_callB (cr_all rfl) (by rfl) B.n_all (by decide +kernel) (pa_cons (pe_lc (own := [("_law_number", 12)]) (g := gName 12) (tt := tYes) rfl c_L_right.nd (pi_list (pv 10)) (blkOk_by (N := N_L_right) (sc := defScope s_L_right) (by decide +kernel)) (fun _ _ _ _ _ => (pg_name (i := 12) c_L_right.nd rfl (.inl rfl))) (fun _ _ _ _ _ => pts_nil) (fun _ _ _ _ _ => (pe_cl C.L_no_place hr (by omega) (by rfl) (pa_cons (pv 1) (pa_cons (pv 12) pa_nil))))) pa_nil))))))))))))))), ?_⟩
  rintro b ds c Φ ⟨rfl, rfl, rfl⟩
  refine (s_set (k := 26) (k' := 1900) (e_draw rfl e_int (by decide) (by decide)) ?_).up (by omega)
  rintro s ⟨ns, rfl, hne, hl, hb⟩
  have hl4 : ns.length ≤ 4 := by omega
  have hR : Rms ns := ⟨by omega, fun n hn => by have := hb n hn; omega⟩
  have h0 : ∀ n ∈ ns, 0 ≤ n := fun n hn => by have := hb n hn; omega
  have cp := cnt_pos ns h0
  have cl : cnt ns ≤ 10000 := by
    refine Int.le_trans (cnt_le (b := 9) (by decide) ns fun n hn => by have := hb n hn; omega) ?_
    show (10 : Int) ^ ns.length ≤ 10 ^ 4
    rw [show (10 : Int) = ((10 : Nat) : Int) from rfl, ← Int.natCast_pow, ← Int.natCast_pow]
    exact Int.ofNat_le.mpr (Nat.pow_le_pow_right (by decide) hl4)
  refine sd_set (s := .i (cnt ns)) (d_call (ds := [.tuple (ns.map .int)]) (da_cons (e_vd rfl) a_nil) ⟨ns, rfl, hR, rfl⟩) ?_
  refine s_if0 (c := false) ((t_not (t_val (d_call (ds := [.list [.int (cnt ns), .int (cnt ns)], .list [.int (cnt ns), .int (cnt ns)]]) (da_cons (d_lst (ds := [.int (cnt ns), .int (cnt ns)]) (da_cons (d_call (ds := [.tuple (ns.map .int)]) (da_cons (e_vd rfl) a_nil) ⟨_, ns, rfl, .inr rfl, hR, rfl⟩) (da_cons (d_callN (ds := []) (es := [.list (ns.map .int)]) (gD := [.list (ns.map .int)]) a_nil (da_cons (d_cb (da_cons (e_vd rfl) a_nil) rc_listT) a_nil) (fun _ _ _ _ h => h) ⟨_, ns, rfl, .inl rfl, hR, rfl⟩) a_nil)))
    (da_cons (d_lst (ds := [.int (cnt ns), .int (cnt ns)]) (da_cons (e_vd rfl) (da_cons (e_vd rfl) a_nil))) a_nil)) ⟨_, rfl, pl_list (by simp) fun d hd => by rcases List.mem_cons.mp hd with rfl | hd; exact pl_int _ _; rw [List.mem_singleton.mp hd]; exact pl_int _ _, rfl⟩))).mono fun c h => by rw [h]; rfl) (fun h => nomatch h) fun _ => ?_
  refine (s_seq (k := 0) (k' := 1900) (N := fun δ' => ∃ u3 u4, δ' = [.ref b, .dat (.tuple (ns.map .int)), .i (cnt ns), u3, u4, .unk, .unk, .unk, .unk, .unk, .unk, .unk, .unk]) (s_if (c := decide (cnt ns ≤ 300)) (t_test (d_op (e_vd rfl) e_int (rv_I0 fun _ => DD.bl _))) (fun hc => ?all) (fun _ => s_next ⟨_, _, rfl⟩)) ?rest).up (by omega)
  case all =>
    have hc2 : cnt ns ≤ 300 := of_decide_eq_true hc
    have dueE : (allS ns).map tupI = (List.range (cnt ns).toNat).map fun (i : Nat) => tupI (dig ns (i : Int)) := by
      rw [all_eq ns h0, List.map_map]
      rfl
    have inC : ∀ {j : Nat} {α : Type} {f : Nat → α} {d : α}, ((List.range (cnt ns).toNat).map f)[j]? = some d → (0 ≤ (j : Int) ∧ (j : Int) < cnt ns) ∧ d = f j := fun {j α f d} h => by
      rw [List.getElem?_map] at h
      obtain ⟨i, hi, rfl⟩ := Option.map_eq_some_iff.mp h
      obtain ⟨h1, h2⟩ := List.getElem?_eq_some_iff.mp hi
      rw [List.getElem_range] at h2
      subst h2
      rw [List.length_range] at h1
      exact ⟨⟨by omega, by omega⟩, rfl⟩
    refine sd_set (s := .dat (.list ((List.range (cnt ns).toNat).map fun (i : Nat) => tupI (dig ns (i : Int))))) ((d_call (ds := [.tuple (ns.map .int)]) (da_cons (e_vd rfl) a_nil) ⟨ns, rfl, hl4, hb, rfl⟩).mono fun s e => by rw [e, dueE]) ?_
    have pT : Pl 3 (.tuple [.list (rangeD 0 (cnt ns).toNat), .list ((List.range (cnt ns).toNat).map fun (i : Nat) => tupI (dig ns (i : Int)))]) := by
      refine ⟨by simp, fun y hy => ?_⟩
      rcases List.mem_cons.mp hy with rfl | hy
      · refine pl_list (by rw [rangeD_len]; omega) fun d hd => ?_
        unfold rangeD at hd
        obtain ⟨i, _, rfl⟩ := List.mem_map.mp hd
        exact pl_int _ _
      · rw [List.mem_singleton.mp hy]
        refine pl_list (by rw [List.length_map, List.length_range]; omega) fun d hd => ?_
        obtain ⟨i, _, rfl⟩ := List.mem_map.mp hd
        exact pl_tupI _ (by rw [dig_len]; omega)
    refine sd_set (s := .dat (.tuple [.list (rangeD 0 (cnt ns).toNat), .list ((List.range (cnt ns).toNat).map fun (i : Nat) => tupI (dig ns (i : Int)))])) (d_tup (ds := [_, _]) (da_cons ((d_lcI (f := fun j => .int (0 + (j : Int))) (i_list (e_vd rfl)) (fun j d _ => tg_name) (fun j d hd => ?a1) (by rw [List.length_map, List.length_range]; omega)).mono fun s e => ?a2) (da_cons ((d_lcI (f := fun j => tupI (dig ns (j : Int))) (i_rngE (n := cnt ns) (da_cons (e_vd rfl) a_nil) (by omega) (by omega)) (fun j d _ => tg_name) (fun j d hd => ?a3) (by rw [rangeD_len]; omega)).mono fun s e => ?a4) a_nil))) ?a5
    case a1 =>
      obtain ⟨⟨j0, j1⟩, rfl⟩ := inC hd
      obtain ⟨ft, ep⟩ := dig_plc ns h0 (j : Int) j0 j1
      refine d_call (ds := [.tuple (ns.map .int), tupI (dig ns (j : Int))]) (da_cons (e_vd rfl) (da_cons (e_vd rfl) a_nil)) ⟨_, _, ns, dig ns (j : Int), rfl, .inr rfl, .inr rfl, hR, dig_len _ _, ?_⟩
      rw [ep, Int.zero_add]
    case a2 =>
      rw [e, List.length_map, List.length_range]
      rfl
    case a3 =>
      obtain ⟨hj, rfl⟩ := rangeD_get hd
      refine d_call (ds := [.tuple (ns.map .int), .int (0 + (j : Int))]) (da_cons (e_vd rfl) (da_cons (e_vd rfl) a_nil)) ⟨_, ns, _, rfl, .inr rfl, hR, by omega, by omega, ?_⟩
      rw [Int.zero_add]
    case a4 => rw [e, rangeD_len]
    case a5 =>
      refine s_if (c := false) ((t_not (t_val (d_call (ds := [_, _]) (da_cons (e_vd rfl) (da_cons (d_tup (ds := [_, _]) (da_cons (d_listRg (e_vd rfl) (by omega) (by omega)) (da_cons (e_vd rfl) a_nil))) a_nil)) ⟨_, rfl, pT, rfl⟩))).mono fun c h => by rw [h]; rfl) (fun h => nomatch h) fun _ => s_next ⟨_, _, rfl⟩
  case rest =>
    rintro δ' ⟨u3, u4, rfl⟩
    have rl : (rangeD 0 (Int.toNat 12)).length = 12 := rangeD_len _ _
    refine (s_set (k := 24) (k' := 1800) (Φ := fun s => ∃ l, s = .dat (.tuple l) ∧ l.length = 12 ∧ ∀ (j : Nat) (d : PyData), l[j]? = some d → ∃ i, d = .int i ∧ 1 ≤ i ∧ i ≤ 99) (e_tupE ((e_lc (k := 0) (k' := 2) (Ψ := fun _ d => ∃ i, d = .int i ∧ 1 ≤ i ∧ i ≤ 99) (i_rngE (n := 12) (da_cons e_int a_nil) (by decide) (by decide)) (fun j d _ => tg_name) (fun j d hd => ?g1) (by rw [rl]; decide)).up (by rw [rl]; decide) |>.mono fun s ⟨l, e, el, h⟩ => ⟨l, e, by rw [el, rl], h⟩)) ?g2).up (by omega)
    case g1 =>
      refine (e_op (k := 1) (k' := 1) (Φ := fun s => ∃ i : Int, s = .dat (.list [.int 1, .int 99, .int i]) ∧ 1 ≤ i ∧ i ≤ 99) (Φ' := fun _ s => ∃ j, s = .i j ∧ 0 ≤ j ∧ j < 3) ?_ (fun _ _ => e_take rfl e_int (by decide) (by decide)) ?_)
      · refine (e_lst (k := 1) (ak_cons e_int (ak_cons e_int (a_last (Ψ := fun s => ∃ i, s = .i i ∧ 1 ≤ i ∧ i ≤ 99) (e_op (k := 0) (k' := 1) (Φ := fun s => s = .i 1) e_int (fun _ _ => e_take rfl e_int (by decide) (by decide)) ?_)))) ?_)
        · rintro s s' rfl ⟨j, rfl, h0, h1⟩
          exact (rv_I0 (d := .int (1 + j)) fun _ => DD.int _).mono fun z e => ⟨1 + j, e, by omega, by omega⟩
        · rintro ss ⟨l1, rfl, l2, rfl, z, rfl, i, rfl, h1, h2⟩
          exact ⟨[.int 1, .int 99, .int i], ⟨rfl, rfl, rfl, trivial⟩, by simp, i, rfl, h1, h2⟩
      · rintro s s' ⟨i, rfl, h1, h2⟩ ⟨j, rfl, hj⟩
        obtain ⟨x, hx, hc⟩ := at3 (a := .int 1) (b := .int 99) (c := .int i) hj
        refine (rv_ixL hx).mono fun z e => ?_
        rw [e]
        rcases hc with rfl | rfl | rfl
        · exact ⟨_, rfl, 1, rfl, by omega, by omega⟩
        · exact ⟨_, rfl, 99, rfl, by omega, by omega⟩
        · exact ⟨_, rfl, i, rfl, by omega, by omega⟩
    case g2 =>
      rintro s ⟨l, rfl, ll, hl⟩
      obtain ⟨gs, rfl, hg⟩ := ints_of (idx_mem hl)
      rw [List.length_map] at ll
      have hG : Rms gs := ⟨by omega, hg⟩
      have g0 : ∀ n ∈ gs, 0 ≤ n := fun n hn => by have := hg n hn; omega
      refine (s_seq (k := 36) (k' := 1700) (N := fun δ' => ∃ ms, Fits gs ms ∧ δ' = [.ref b, .dat (.tuple (ns.map .int)), .i (cnt ns), u3, u4, .dat (.tuple (gs.map .int)), .dat (.tuple (ms.map .int)), .i (cnt gs), .unk, .unk, .unk, .unk, .unk]) (s_par (a_cons (k := 36) (k' := 0) (Φ' := fun _ l => l = [.i (cnt gs)]) (e_lie rfl (e_vd rfl) (by omega) hg) fun _ _ => da_cons (d_call (ds := [.tuple (gs.map .int)]) (da_cons (e_vd rfl) a_nil) ⟨gs, rfl, hG, rfl⟩) a_nil) ?p1) ?p2).up (by omega)
      case p1 =>
        rintro ss ⟨s1, l1, rfl, ⟨ms, rfl, hf⟩, rfl⟩
        exact ⟨_, _, rfl, ms, hf, rfl⟩
      case p2 =>
        rintro δ' ⟨ms, hf, rfl⟩
        obtain ⟨p0, p1, p2⟩ := plc_dig gs g0 ms hf
        refine sd_set (s := .i (plc gs ms)) (d_callN (ds := []) (es := [.list (ms.map .int), .tuple (gs.map .int)]) (gD := [.tuple (gs.map .int), .list (ms.map .int)]) a_nil (da_cons (d_cb (da_cons (e_vd rfl) a_nil) rc_listT) (da_cons (e_vd rfl) a_nil)) (fun _ _ _ _ h => h.reverse) ⟨_, _, gs, ms, rfl, .inr rfl, .inl rfl, hG, hf.1, rfl⟩) ?_
        refine s_if0 (c := false) ((t_or (c := false) (d := false) ((t_not (t_test (e_chain (s1 := .i 0) (s2 := .i (plc gs ms)) (s3 := .i (cnt gs)) e_int (e_vd rfl) (rv_I0 fun _ => DD.bl _) (fun _ => e_vd rfl) fun _ => rv_I0 fun _ => DD.bl _))).mono fun c h => by rw [h, decide_eq_true p0, decide_eq_true p1]; rfl) fun _ => (t_not (t_val (d_call (ds := [tupI ms, tupI ms]) (da_cons ((d_callN (ds := [.tuple (gs.map .int)]) (es := [.int (plc gs ms)]) (gD := [.tuple (gs.map .int), .int (plc gs ms)]) (da_cons (e_vd rfl) a_nil) (da_cons (e_vd rfl) a_nil) (fun _ _ _ h h' => h.append h') ⟨_, gs, _, rfl, .inr rfl, hG, p0, p1, rfl⟩).mono fun s e => by rw [e, p2]) (da_cons (e_vd rfl) a_nil)) ⟨_, rfl, pl_tupI _ (by rw [hf.1]; omega), rfl⟩))).mono fun c h => by rw [h]; rfl).mono fun c h => by rw [h]; rfl) (fun h => nomatch h) fun _ => ?_
        have l12 : (List.replicate 12 (0 : Int)) = List.replicate gs.length 0 := by rw [ll]
        refine sd_set (s := .dat (.list [.int 0, .int (cnt gs - 1), .int (cnt gs)])) (d_lst (ds := [.int 0, .int (cnt gs - 1), .int (cnt gs)]) (da_cons (d_call (ds := [.tuple (gs.map .int), .tuple ((List.replicate 12 (0 : Int)).map .int)]) (da_cons (e_vd rfl) (da_cons ((e_repX (d_tup (ds := [.int 0]) (da_cons e_int a_nil)) e_int (by simp) (by decide) (by decide)).mono fun s e => by rw [e]; rfl) a_nil)) ⟨_, _, gs, _, rfl, .inr rfl, .inr rfl, hG, by rw [List.length_replicate, ll], by rw [l12, plc_bare]⟩)
          (da_cons (d_call (ds := [.tuple (gs.map .int), .tuple (gs.map .int)]) (da_cons (e_vd rfl) (da_cons (e_vd rfl) a_nil)) ⟨_, _, gs, gs, rfl, .inr rfl, .inr rfl, hG, rfl, by rw [plc_full]⟩) (da_cons (d_call (ds := [.tuple (gs.map .int)]) (da_cons (e_vd rfl) a_nil) ⟨_, gs, rfl, .inr rfl, hG, rfl⟩) a_nil)))) ?_
        refine s_if0 (c := false) ((t_not (t_val (d_call (ds := [_, _]) (da_cons (e_vd rfl) (da_cons (d_lst (ds := [.int 0, .int (cnt gs - 1), .int (cnt gs)]) (da_cons e_int (da_cons (d_op (e_vd rfl) e_int (rv_I0 fun _ => DD.int _)) (da_cons (e_vd rfl) a_nil)))) a_nil)) ⟨_, rfl, pl_list (by simp) fun d hd => ?_, rfl⟩))).mono fun c h => by rw [h]; rfl) (fun h => nomatch h) fun _ => ?_
        · simp only [List.mem_cons, List.not_mem_nil, or_false] at hd
          rcases hd with rfl | rfl | rfl <;> exact pl_int _ _
        obtain ⟨zz, zE⟩ : ∃ zz : Int, (10 : Int) ^ (Int.toNat 40) = zz := ⟨_, rfl⟩
        have zL : cnt ns < zz := by
          rw [← zE]
          have : (10 : Int) ^ (Int.toNat 40) = 10000000000000000000000000000000000000000 := by decide
          rw [this]
          omega
        have h40 : ∀ δ, Dt K (bx b) (tOp (rI CPow fun i j => .int (i ^ j.toNat)) (tC (.int 10)) (tC (.int 40))) δ (.i zz) := fun δ => e_pow (C := CPow) ⟨by decide, by decide, by decide⟩ zE
        have h6 : ∀ δ, Dt K (bx b) (tOp (rI CPow fun i j => .int (i ^ j.toNat)) (tC (.int 10)) (tC (.int 6))) δ (.i 1000000) := fun δ => e_pow (C := CPow) ⟨by decide, by decide, by decide⟩ (by decide)
        refine (s_set (k := 1) (k' := 0) (Φ := fun s => ∃ i : Int, s = .dat (.list [.int (-1), .int (cnt ns), .int (cnt ns + i), .int (-(cnt ns)), .int zz]) ∧ 0 ≤ i) (e_lst (k := 1) (Φ := fun ss => ∃ i : Int, ss = [.i (-1), .i (cnt ns), .i (cnt ns + i), .i (-(cnt ns)), .i zz] ∧ 0 ≤ i) ?b1 ?b2) ?b3).up (by omega)
        case b1 =>
          refine ak_consE (s := .i (-1)) (Φ := fun ss => ∃ i : Int, ss = [.i (cnt ns), .i (cnt ns + i), .i (-(cnt ns)), .i zz] ∧ 0 ≤ i) ?_ ?_ ?_
          · exact d_un e_int fun _ => DD.int _
          · refine ak_consE (s := .i (cnt ns)) (Φ := fun ss => ∃ i : Int, ss = [.i (cnt ns + i), .i (-(cnt ns)), .i zz] ∧ 0 ≤ i) (e_vd rfl) ?_ ?_
            · refine a_consE (k := 1) (k' := 0) (Φ := fun s => ∃ i, s = .i (cnt ns + i) ∧ 0 ≤ i) (Φ' := fun l => l = [.i (-(cnt ns)), .i zz]) ?_ ?_ ?_
              · refine e_op (k := 0) (k' := 1) (Φ := fun s => s = .i (cnt ns)) (Φ' := fun _ s => ∃ j, s = .i j ∧ 0 ≤ j ∧ j < 1000000) (e_vd rfl) (fun _ _ => e_take rfl (h6 _) (by decide) (by decide)) ?_
                rintro s s' rfl ⟨j, rfl, h0, h1⟩
                exact (rv_I0 (d := .int (cnt ns + j)) fun _ => DD.int _).mono fun z e => ⟨j, e, h0⟩
              · refine da_cons (s := .i (-(cnt ns))) ?_ (da_cons (s := .i zz) (h40 _) a_nil)
                exact d_un (e_vd rfl) fun _ => DD.int _
              · rintro s l ⟨i, rfl, hi⟩ rfl
                exact ⟨i, rfl, hi⟩
            · rintro l ⟨i, rfl, hi⟩
              exact ⟨i, rfl, hi⟩
          · rintro l ⟨i, rfl, hi⟩
            exact ⟨i, rfl, hi⟩
        case b2 =>
          rintro ss ⟨i, rfl, hi⟩
          exact ⟨[.int (-1), .int (cnt ns), .int (cnt ns + i), .int (-(cnt ns)), .int zz], ⟨rfl, rfl, rfl, rfl, rfl, trivial⟩, by simp, i, rfl, hi⟩
        case b3 =>
          rintro s ⟨i, rfl, hi⟩
          refine s_ret ((e_all (g := fun _ => true) (d_lc (i_list (e_vd rfl)) (fun j d _ => tg_name) (fun j d hd => ?c1) (by simp))).mono fun s e => ⟨.bool true, by rw [e]; rfl, rfl⟩)
          case c1 =>
            have hm := List.mem_of_getElem? hd
            simp only [List.mem_cons, List.not_mem_nil, or_false] at hm
            have go : ∀ p : Int, d = .int p → ¬ (0 ≤ p ∧ p < cnt ns) → Dt K (bx b) (tCall (spP K Rno) [] E0 (tCons (tVar 1) (tCons (tVar 12) tNil))) [.ref b, .dat (.tuple (ns.map .int)), .i (cnt ns), u3, u4, .dat (.tuple (gs.map .int)), .dat (.tuple (ms.map .int)), .i (cnt gs), .i (plc gs ms), .dat (.list [.int 0, .int (cnt gs - 1), .int (cnt gs)]), .dat (.list [.int (-1), .int (cnt ns), .int (cnt ns + i), .int (-(cnt ns)), .int (zz)]), .unk, .dat d] (.b true) := fun p e hp => by
              subst e
              exact d_call (ds := [.tuple (ns.map .int), .int p]) (da_cons (e_vd rfl) (da_cons (e_vd rfl) a_nil)) ⟨ns, p, rfl, hR, hp, rfl⟩
            rcases hm with rfl | rfl | rfl | rfl | rfl
            · exact go _ rfl (by omega)
            · exact go _ rfl (by omega)
            · exact go _ rfl (by omega)
            · exact go _ rfl (by omega)
            · exact go _ rfl (by omega)
end
end K01

namespace K01
open PySem PySem.Spec PyProof.Rows L2 ZX DL RT
section
variable {P : Program} {w : World} {K : PySem.W.Frag} {mg : Str → Option Value} {base : Heap} {f : Addr} {fd : FuncData}
structure Cw (P : Program) (w : World) (K : PySem.W.Frag) (mg : Str → Option Value) (base : Heap) : Prop where
  L_box : Cl P w K mg base 1 "_law_box" s_L_box ["_law_script", "_law_k"] (spBox K)
  L_right : Cl P w K mg base 9 "_law_right" s_L_right ["_law_box_here"] (spB K Rright)
theorem ok_law (B : Bi mg) (C : Cw P w K mg base) (F : Fun K "law" "law" s_law f fd) : FnOk P w K mg base CX0 10 f fd ["_law_script"] (spLaw K) := by
  refine F.ok c_law (fun vs H Q E h => ?_) (fun cdv A outer s H vs Q E hr h => ?_)
  · obtain ⟨a, ns, rfl, _⟩ := h
    rfl
  · obtain ⟨a, ns, rfl, hS, hlen, q⟩ := h
    refine ⟨_, (pss_one (ps_ret (pe_callB (cr_all rfl) (by rfl) B.n_all (by decide +kernel) (pa_cons (pe_lc (own := [("_law_k", 1)]) (g := gName 1) (tt := tYes) rfl c_law.nd (pi_range1 (by rfl) B.n_range (pa_cons (pe_callB (call_max2 rfl) (by rfl) B.n_max (by decide +kernel) (pa_cons pe_int (pa_cons (pe_callB (call_min2 rfl) (by rfl) B.n_min (by decide +kernel) (pa_cons pe_int (pa_cons (pe_callB call_len_seq (by rfl) B.n_len (by decide +kernel) (pa_cons (pv 0) pa_nil)) pa_nil))) pa_nil))) pa_nil)) (blkOk_by (N := N_law) (sc := defScope s_law) (by decide +kernel)) (fun _ _ _ _ _ => (pg_name (i := 1) c_law.nd rfl (.inl rfl))) (fun _ _ _ _ _ => pts_nil) (fun _ _ _ _ _ => (pe_cl C.L_right hr (by omega) (by rfl) (pa_cons (pe_cl C.L_box hr (by omega) (by rfl) (pa_cons (pv 0) (pa_cons (pv 1) pa_nil))) pa_nil)))) pa_nil)))), ?_⟩
    have hb : (if (if ((ns.map V.int).length : Int) < 4 then ((ns.map V.int).length : Int) else 4) > 1 then (if ((ns.map V.int).length : Int) < 4 then ((ns.map V.int).length : Int) else 4) else 1) ≤ 4 ∧ 1 ≤ (if (if ((ns.map V.int).length : Int) < 4 then ((ns.map V.int).length : Int) else 4) > 1 then (if ((ns.map V.int).length : Int) < 4 then ((ns.map V.int).length : Int) else 4) else 1) := by
      split <;> split <;> omega
    refine ⟨.ref a, rfl, a, _, rfl, .inl hS, 4, _, rfl, 1, _, rfl, _, rfl, ?_, ?_, fun D nD => ?_⟩
    · have := hb.2
      omega
    · have := hb.1
      omega
    refine lc_range (fun i H' => (∀ c o, H c = some o → H' c = some o) ∧ H' D = some (.lst ((List.replicate i true).map V.bl)) ∧ i ≤ 4) ⟨fun c o e => ?_, upd_same, by omega⟩ (fun i H' hi ⟨h1, h2, h3⟩ => ?_) (fun H' ⟨h1, h2, h3⟩ => ?_)
    · rw [upd_ne (ne_of_none e nD)]
      exact e
    · refine ⟨rfl, ?_⟩
      show tCall (spB K Rright) [] E0 (tCons (tCall (spBox K) [] E0 (tCons (tVar 0) (tCons (tVar 1) tNil))) tNil) _ H' _
      have hi4 : i < 4 := by omega
      refine ⟨_, rfl, _, rfl, a, ns, 0 + (i : Int), rfl, Same.seq h1 hS, by omega, by omega, fun p c0 c1 np a0 a1 a2 => ?_⟩
      have nDp : D ≠ p := ne_of_none h2 np
      refine ⟨p, [], fun _ => none, [], 0, 2000, _, rfl, .nil, ⟨(fun _ _ e => by cases e), fun _ _ => rfl, ⟨c0, c1, 0, upd_same, a0, a1, a2, by omega, by decide⟩⟩, ⟨rfl, rfl, rfl⟩, fun v d G2 H2 m w2 dv hd => ?_⟩
      subst hd
      cases dv
      have k2 : ∀ c o, H' c = some o → H2 c = some o := fun c o e => m.kp c o (by
        rw [upd_ne (ne_of_none e np)]
        exact e) (ne_of_none e np)
      refine ⟨_, k2 D _ h2, ?_, fun c o e => ?_, ?_, by omega⟩
      · rw [List.length_map, List.length_replicate]
        exact Nat.lt_of_le_of_lt (show i ≤ 4 by omega) (by decide)
      · rw [upd_ne (ne_of_none e nD)]
        exact k2 c o (h1 c o e)
      · rw [upd_same, List.replicate_succ', List.map_append]
        rfl
    · refine ⟨D, _, rfl, .inl (.inl h2), ?_⟩
      rw [List.all_replicate]
      simp
      exact q _

end
section
variable {K : PySem.W.Frag} {P S L : Addr} {b : Bool}
theorem kcls_of (h2 : PySem.W.isClsIn K S = true) (h3 : PySem.W.typeIn K (.ref S) = some (.type "type")) (h4 : PySem.W.subIn K (.ref P) (.ref S) = some b) : PySem.W.kitCls K (.ref P) (.ref S) = some b := by
  have e2 : ((PySem.W.clsIn K S).isSome && PySem.W.typeIn K (.ref S) == some (.type "type")) = true := by
    have h2' : (PySem.W.clsIn K S).isSome = true := h2
    rw [h2', h3] <;> rfl
  show (if ((PySem.W.clsIn K S).isSome && PySem.W.typeIn K (.ref S) == some (.type "type")) = true then PySem.W.subIn K (.ref P) (.ref S) else none) = some b
  rw [if_pos e2]
  exact h4
theorem exm_of (h1 : PySem.W.subIn K (.ref S) (.type "BaseException") = some true) (h : PySem.W.kitCls K (.ref P) (.ref S) = some b) : PySem.W.exmOne K (.ref P) (.ref S) = some b := by
  have e1 : (PySem.W.subIn K (.ref S) (.type "BaseException") == some true) = true := by rw [h1] <;> rfl
  show (if (PySem.W.subIn K (.ref S) (.type "BaseException") == some true) = true then PySem.W.kitCls K (.ref P) (.ref S) else none) = some b
  rw [if_pos e1]
  exact h
theorem exm_cons {c : Value} {cs : List Value} {d : Bool} (h1 : PySem.W.exmOne K (.ref P) c = some b) (h2 : PySem.W.exmAny K (.ref P) cs = some d) : PySem.W.exmAny K (.ref P) (c :: cs) = some (b || d) := by
  unfold PySem.W.exmAny
  rw [h1, h2]
theorem kit_no {cs : List Value} (hne : P ≠ S) (h : PySem.W.kitCls K (.ref P) (.ref S) = some false) (h2 : PySem.W.kitAny K (.ref P) cs = some b) : PySem.W.kitAny K (.ref P) (.ref S :: cs) = some b := by
  have e : PySem.W.kitOne K (.ref P) (.ref S) = some false := by
    unfold PySem.W.kitOne
    rw [if_neg (by simpa using hne)]
    exact h
  unfold PySem.W.kitAny
  rw [e]
  exact h2
theorem kit_self : PySem.W.kitOne K (.ref P) (.ref P) = some true := by
  unfold PySem.W.kitOne
  rw [if_pos (by simp)]
theorem kit_ty {T : String} (hm : PySem.W.kitMeta T = true) (h : PySem.W.subIn K (.ref P) (.type T) = some b) : PySem.W.kitOne K (.ref P) (.type T) = some b := by
  unfold PySem.W.kitOne
  rw [if_neg (by simp)]
  show (if PySem.W.kitMeta T = true then PySem.W.subIn K (.ref P) (.type T) else none) = some b
  rw [if_pos hm]
  exact h
/-- a class that is only asked for: its name, that it's an error -/
structure CN (K : PySem.W.Frag) (x : Str) (C : Addr) : Prop where
  a : PySem.W.nsIn K mainGlobals x = some (some (.ref C))
  e : PySem.W.subIn K (.ref C) (.type "BaseException") = some true
  i : PySem.W.isClsIn K C = true
  t : PySem.W.typeIn K (.ref C) = some (.type "type")
/-- a class that is raised -/
structure CT (K : PySem.W.Frag) (C fI : Addr) (nm q : Str) (N : Addr) (bs : List Value) (sn : List Str) (sub : List Value) (ab : Bool) (col : Option Bool) (dd : Option Addr) (m0 m1 m2 m3 m5 : Option Value) (oc : Value) (od : Option Addr) (dc pm : Value) (an : Option Addr) (cd ct : Value) (sl : Array (Option Value)) (p1 p2 q1 q2 q3 q4 : Pos) : Prop where
  xL : K.lookup C = some (excClassObj nm q C N bs X_NoPlace.bmB true sn sub ab col dd m0 m1 m2 m3 m5 "LookupError.__new__")
  sa : PySem.W.findIn K (.ref C) "__setattr__" = some (some (.builtin "object.__setattr__"))
  ga : PySem.W.findIn K (.ref C) "__getattribute__" = some (some (.builtin "BaseException.__getattribute__"))
  gg : PySem.W.findIn K (.ref C) "__getattr__" = some none
  nb : PySem.W.findIn K (.ref C) "place" = some none
  a1 : PySem.W.findIn K (.ref C) "__init__" = some (some (.ref fI))
  t1 : PySem.W.typeIn K (.ref fI) = some (.type "function")
  l1 : K.lookup fI = some ⟨oc, od, .func (PySem.W.fnOf "__init__" "NoPlace.__init__" (X_NoPlace.iA p1 p2) (X_NoPlace.iB q1 q2 q3 q4) X_NoPlace.iS .none .none dc pm an cd ct), sl⟩
  c1 : PySem.W.codeIn K cd "NoPlace.__init__" = true
  kC : PySem.W.keepIn K (.ref C) = true
  hC : PySem.W.hasDictIn K C = true
  ca : PySem.W.findIn K (.ref C) "__class__" = some (some (.builtin "object.__class__"))
  cn : PySem.W.specialIn K (.builtin "object.__class__") "__get__" = some (some (.builtin "getset_descriptor.__get__"))
  ck : PySem.W.takesIn K (.builtin "object.__class__") = some true
  cm : PySem.W.mroIn K C (.type "object") = some true
  sS : PySem.W.subIn K (.ref C) (.ref C) = some true
  sL : PySem.W.subIn K (.ref C) (.type "LookupError") = some true
end
def mkTx {K : PySem.W.Frag} {h : Heap} {mg : Str → Option Value} (X : K.In h) (G : h.Ns mainGlobals mg) {C B D fI : Addr} {nm q : Str} {N : Addr} {bs : List Value} {sn : List Str} {sub : List Value} {ab : Bool} {col : Option Bool} {dd : Option Addr} {m0 m1 m2 m3 m5 : Option Value} {oc : Value} {od : Option Addr} {dc pm : Value} {an : Option Addr} {cd ct : Value} {sl : Array (Option Value)} {p1 p2 q1 q2 q3 q4 : Pos}
    (n1 : CN K "NoPlace" C) (n2 : CN K "NoBellows" B) (n3 : CN K "NoGap" D) (t : CT K C fI nm q N bs sn sub ab col dd m0 m1 m2 m3 m5 oc od dc pm an cd ct sl p1 p2 q1 q2 q3 q4) (s2 : PySem.W.subIn K (.ref C) (.ref B) = some false) (s3 : PySem.W.subIn K (.ref C) (.ref D) = some false) : Tx K mg where
  NoPlace := C
  NoBellows := B
  NoGap := D
  iNoPlace := fI
  tNoPlace := { gC := PySem.W.mg_of X G n1.a, cls := ⟨nm, q, N, bs, _, sn, sub, ab, col, dd, m0, m1, m2, m3, m5, t.xL, by decide +kernel⟩, sa := t.sa, noN := t.nb, iC := t.a1, tC := t.t1, kC := t.kC, exC := n1.e, tyC := n1.t, fn := ⟨_, _, _, _, _, _, _, _, _, _, _, _, _, _, t.l1, t.c1⟩ }
  tNoBellows := ⟨PySem.W.mg_of X G n2.a⟩
  tNoGap := ⟨PySem.W.mg_of X G n3.a⟩
  xd := ⟨t.ga, t.gg, n1.e, t.hC, t.ca, t.cn, t.ck, t.cm⟩
  ex := exm_cons (exm_of n2.e (kcls_of n2.i n2.t s2)) (exm_cons (exm_of n3.e (kcls_of n3.i n3.t s3)) (exm_cons (exm_of n1.e (kcls_of n1.i n1.t t.sS)) rfl))
  k1 := kit_self
  k2 := kit_no (fun z => by subst z; rw [t.sS] at s2; cases s2) (kcls_of n2.i n2.t s2) (kit_no (fun z => by subst z; rw [t.sS] at s3; cases s3) (kcls_of n3.i n3.t s3) rfl)
  k3 := kit_ty (by decide +kernel) t.sL
end K01

namespace K01
open PySem PySem.Spec PyProof.Rows L2 ZX DL RT
structure FT (K : PySem.W.Frag) (x : Str) (st : Stmt) (f : Addr) (oc : Value) (od an : Option Addr) (sl : Array (Option Value)) (kV dc pm cd ct : Value) : Prop where
  a : PySem.W.nsIn K mainGlobals x = some (some (.ref f))
  l : K.lookup f = some ⟨oc, od, .func (PySem.W.fnOf x x (defArgs st) (defBody st) (defScope st) .none kV dc pm an cd ct), sl⟩
  c : PySem.W.codeIn K cd x = true
  k : PySem.W.keepIn K (.ref f) = true
theorem all_mk {q : Program} {w : World} {K : PySem.W.Frag} {h : Heap} {mg : Str → Option Value} {fa : Addr} (X : K.In h) (G : h.Ns mainGlobals mg) (hfa : mg "law" = some (.ref fa))
    {C B0 D0 fI : Addr} {nm q0 : Str} {N0 : Addr} {bs : List Value} {sn : List Str} {sub : List Value} {ab : Bool} {col : Option Bool} {dd : Option Addr} {m0 m1 m2 m3 m5 : Option Value} {oc : Value} {od : Option Addr} {dc pm : Value} {an : Option Addr} {cd ct : Value} {sl : Array (Option Value)} {p1 p2 q1 q2 q3 q4 : Pos} (cn1 : CN K "NoPlace" C) (cn2 : CN K "NoBellows" B0) (cn3 : CN K "NoGap" D0) (ctx : CT K C fI nm q0 N0 bs sn sub ab col dd m0 m1 m2 m3 m5 oc od dc pm an cd ct sl p1 p2 q1 q2 q3 q4) (s2 : PySem.W.subIn K (.ref C) (.ref B0) = some false) (s3 : PySem.W.subIn K (.ref C) (.ref D0) = some false)
    {f0 : Addr} {oc0 : Value} {od0 an0 : Option Addr} {sl0 : Array (Option Value)} {kV0 dc0 pm0 cd0 ct0 : Value} (t0 : FT K "how_many" s_how_many f0 oc0 od0 an0 sl0 kV0 dc0 pm0 cd0 ct0)
    {f1 : Addr} {oc1 : Value} {od1 an1 : Option Addr} {sl1 : Array (Option Value)} {kV1 dc1 pm1 cd1 ct1 : Value} (t1 : FT K "place_of" s_place_of f1 oc1 od1 an1 sl1 kV1 dc1 pm1 cd1 ct1)
    {f2 : Addr} {oc2 : Value} {od2 an2 : Option Addr} {sl2 : Array (Option Value)} {kV2 dc2 pm2 cd2 ct2 : Value} (t2 : FT K "standing_at" s_standing_at f2 oc2 od2 an2 sl2 kV2 dc2 pm2 cd2 ct2)
    {f3 : Addr} {oc3 : Value} {od3 an3 : Option Addr} {sl3 : Array (Option Value)} {kV3 dc3 pm3 cd3 ct3 : Value} (t3 : FT K "_law_box" s_L_box f3 oc3 od3 an3 sl3 kV3 dc3 pm3 cd3 ct3)
    {f4 : Addr} {oc4 : Value} {od4 an4 : Option Addr} {sl4 : Array (Option Value)} {kV4 dc4 pm4 cd4 ct4 : Value} (t4 : FT K "_law_take" s_L_take f4 oc4 od4 an4 sl4 kV4 dc4 pm4 cd4 ct4)
    {f5 : Addr} {oc5 : Value} {od5 an5 : Option Addr} {sl5 : Array (Option Value)} {kV5 dc5 pm5 cd5 ct5 : Value} (t5 : FT K "_law_same" s_L_same f5 oc5 od5 an5 sl5 kV5 dc5 pm5 cd5 ct5)
    {f6 : Addr} {oc6 : Value} {od6 an6 : Option Addr} {sl6 : Array (Option Value)} {kV6 dc6 pm6 cd6 ct6 : Value} (t6 : FT K "_law_rooms" s_L_rooms f6 oc6 od6 an6 sl6 kV6 dc6 pm6 cd6 ct6)
    {f7 : Addr} {oc7 : Value} {od7 an7 : Option Addr} {sl7 : Array (Option Value)} {kV7 dc7 pm7 cd7 ct7 : Value} (t7 : FT K "_law_standing" s_L_standing f7 oc7 od7 an7 sl7 kV7 dc7 pm7 cd7 ct7)
    {f8 : Addr} {oc8 : Value} {od8 an8 : Option Addr} {sl8 : Array (Option Value)} {kV8 dc8 pm8 cd8 ct8 : Value} (t8 : FT K "_law_no_place" s_L_no_place f8 oc8 od8 an8 sl8 kV8 dc8 pm8 cd8 ct8)
    {f9 : Addr} {oc9 : Value} {od9 an9 : Option Addr} {sl9 : Array (Option Value)} {kV9 dc9 pm9 cd9 ct9 : Value} (t9 : FT K "_law_all" s_L_all f9 oc9 od9 an9 sl9 kV9 dc9 pm9 cd9 ct9)
    {f10 : Addr} {oc10 : Value} {od10 an10 : Option Addr} {sl10 : Array (Option Value)} {kV10 dc10 pm10 cd10 ct10 : Value} (t10 : FT K "_law_count" s_L_count f10 oc10 od10 an10 sl10 kV10 dc10 pm10 cd10 ct10)
    {f11 : Addr} {oc11 : Value} {od11 an11 : Option Addr} {sl11 : Array (Option Value)} {kV11 dc11 pm11 cd11 ct11 : Value} (t11 : FT K "_law_right" s_L_right f11 oc11 od11 an11 sl11 kV11 dc11 pm11 cd11 ct11)
    {f12 : Addr} {oc12 : Value} {od12 an12 : Option Addr} {sl12 : Array (Option Value)} {kV12 dc12 pm12 cd12 ct12 : Value} (t12 : FT K "law" s_law f12 oc12 od12 an12 sl12 kV12 dc12 pm12 cd12 ct12)
    (z_len : PySem.W.nsIn K mainGlobals "len" = some none)
    (z_isinstance : PySem.W.nsIn K mainGlobals "isinstance" = some none)
    (z_all : PySem.W.nsIn K mainGlobals "all" = some none)
    (z_zip : PySem.W.nsIn K mainGlobals "zip" = some none)
    (z_range : PySem.W.nsIn K mainGlobals "range" = some none)
    (z_min : PySem.W.nsIn K mainGlobals "min" = some none)
    (z_max : PySem.W.nsIn K mainGlobals "max" = some none)
    (z_abs : PySem.W.nsIn K mainGlobals "abs" = some none)
    (z_int : PySem.W.nsIn K mainGlobals "int" = some none)
    (z_bool : PySem.W.nsIn K mainGlobals "bool" = some none)
    (z_str : PySem.W.nsIn K mainGlobals "str" = some none)
    (z_list : PySem.W.nsIn K mainGlobals "list" = some none)
    (z_tuple : PySem.W.nsIn K mainGlobals "tuple" = some none)
    (z_reversed : PySem.W.nsIn K mainGlobals "reversed" = some none)
    (z_divmod : PySem.W.nsIn K mainGlobals "divmod" = some none)
    (z_LookupError : PySem.W.nsIn K mainGlobals "LookupError" = some none)
    : ∃ fd : FuncData, (∀ (s : Shared) (v : Value), BindsTo s fd ⟨[v], []⟩ [("_law_script", v)]) ∧ ∀ base : Heap, K.In base → base.Ns mainGlobals mg → FnOk q w K mg base CX0 10 fa fd ["_law_script"] (spLaw K) := by
  have e := hfa.symm.trans (PySem.W.mg_of X G t12.a)
  cases e
  have F0 := fun_mk (st := s_how_many) t0.l t0.c t0.k
  have m0 := PySem.W.mg_of X G t0.a
  have F1 := fun_mk (st := s_place_of) t1.l t1.c t1.k
  have m1 := PySem.W.mg_of X G t1.a
  have F2 := fun_mk (st := s_standing_at) t2.l t2.c t2.k
  have m2 := PySem.W.mg_of X G t2.a
  have F3 := fun_mk (st := s_L_box) t3.l t3.c t3.k
  have m3 := PySem.W.mg_of X G t3.a
  have F4 := fun_mk (st := s_L_take) t4.l t4.c t4.k
  have m4 := PySem.W.mg_of X G t4.a
  have F5 := fun_mk (st := s_L_same) t5.l t5.c t5.k
  have m5 := PySem.W.mg_of X G t5.a
  have F6 := fun_mk (st := s_L_rooms) t6.l t6.c t6.k
  have m6 := PySem.W.mg_of X G t6.a
  have F7 := fun_mk (st := s_L_standing) t7.l t7.c t7.k
  have m7 := PySem.W.mg_of X G t7.a
  have F8 := fun_mk (st := s_L_no_place) t8.l t8.c t8.k
  have m8 := PySem.W.mg_of X G t8.a
  have F9 := fun_mk (st := s_L_all) t9.l t9.c t9.k
  have m9 := PySem.W.mg_of X G t9.a
  have F10 := fun_mk (st := s_L_count) t10.l t10.c t10.k
  have m10 := PySem.W.mg_of X G t10.a
  have F11 := fun_mk (st := s_L_right) t11.l t11.c t11.k
  have m11 := PySem.W.mg_of X G t11.a
  have F12 := fun_mk (st := s_law) t12.l t12.c t12.k
  have m12 := PySem.W.mg_of X G t12.a
  have B : Bi mg := ⟨PySem.W.mg_none_of X G z_len, PySem.W.mg_none_of X G z_isinstance, PySem.W.mg_none_of X G z_all, PySem.W.mg_none_of X G z_zip, PySem.W.mg_none_of X G z_range, PySem.W.mg_none_of X G z_min, PySem.W.mg_none_of X G z_max, PySem.W.mg_none_of X G z_abs, PySem.W.mg_none_of X G z_int, PySem.W.mg_none_of X G z_bool, PySem.W.mg_none_of X G z_str, PySem.W.mg_none_of X G z_list, PySem.W.mg_none_of X G z_tuple, PySem.W.mg_none_of X G z_reversed, PySem.W.mg_none_of X G z_divmod, PySem.W.mg_none_of X G z_LookupError⟩
  have T : Tx K mg := mkTx X G cn1 cn2 cn3 ctx s2 s3
  have b0 := F0.binds (ps := ["rooms"]) fun _ _ _ _ _ _ us hl => match us, hl with | [_], _ => rfl
  have b1 := F1.binds (ps := ["rooms", "standing"]) fun _ _ _ _ _ _ us hl => match us, hl with | [_, _], _ => rfl
  have b2 := F2.binds (ps := ["rooms", "place"]) fun _ _ _ _ _ _ us hl => match us, hl with | [_, _], _ => rfl
  have b3 := F3.binds (ps := ["_law_script", "_law_k"]) fun _ _ _ _ _ _ us hl => match us, hl with | [_, _], _ => rfl
  have b4 := F4.binds (ps := ["_law_box_here", "_law_bound"]) fun _ _ _ _ _ _ us hl => match us, hl with | [_, _], _ => rfl
  have b5 := F5.binds (ps := ["_law_found", "_law_due"]) fun _ _ _ _ _ _ us hl => match us, hl with | [_, _], _ => rfl
  have b6 := F6.binds (ps := ["_law_box_here", "_law_most"]) fun _ _ _ _ _ _ us hl => match us, hl with | [_, _], _ => rfl
  have b7 := F7.binds (ps := ["_law_box_here", "_law_homes"]) fun _ _ _ _ _ _ us hl => match us, hl with | [_, _], _ => rfl
  have b8 := F8.binds (ps := ["_law_place_rooms", "_law_number"]) fun _ _ _ _ _ _ us hl => match us, hl with | [_, _], _ => rfl
  have b9 := F9.binds (ps := ["_law_some"]) fun _ _ _ _ _ _ us hl => match us, hl with | [_], _ => rfl
  have b10 := F10.binds (ps := ["_law_some"]) fun _ _ _ _ _ _ us hl => match us, hl with | [_], _ => rfl
  have b11 := F11.binds (ps := ["_law_box_here"]) fun _ _ _ _ _ _ us hl => match us, hl with | [_], _ => rfl
  refine ⟨PySem.W.fnOf "law" "law" (defArgs s_law) (defBody s_law) (defScope s_law) .none kV12 dc12 pm12 an12 cd12 ct12, fun s v => .of_eq rfl, fun base _ _ => ?_⟩
  have C2' : C2 q w K mg base := ⟨⟨f4, _, F4, ok_take B F4, m4, b4⟩⟩
  have C3' : C3 q w K mg base := ⟨⟨f0, _, F0, ok_how B F0, m0, b0⟩⟩
  have cS := cl_same (P := q) (w := w) (base := base) B F5 m5 b5 4
  have oA := ok_at (P := q) (w := w) (base := base) B T C3' F2
  have fx : FX q w K mg base "standing_at" 3 f2 _ ["rooms", "place"] (spAt K T.NoPlace) := ⟨oA, m2, t2.k, b2⟩
  have C4 : Cr q w K mg base := ⟨C3'.how_many, ⟨f1, _, F1, ok_place B F1, m1, b1⟩, ⟨f2, _, F2, at_calm oA, m2, b2⟩, C2'.L_take, cS.L_same, ⟨f6, _, F6, ok_draw B C2' F6, m6, b6⟩, ⟨f7, _, F7, ok_lie B C2' F7, m7, b7⟩, ⟨f8, _, F8, ok_no B T cS fx F8, m8, b8⟩, ⟨f9, _, F9, ok_all B F9, m9, b9⟩, ⟨f10, _, F10, ok_count B F10, m10, b10⟩⟩
  have C5 : Cw q w K mg base := ⟨⟨f3, _, F3, ok_box B F3, m3, b3⟩, ⟨f11, _, F11, ok_right B C4 F11, m11, b11⟩⟩
  exact ok_law B C5 F12
end K01

open PySem PySem.W PyProof.Rows
set_option maxHeartbeats 0 in
theorem PySem.Challenge.cw_breathrows_k01_standings_numbered_holds : PySem.Challenge.rw_breathrows_k01_standings_numbered.Holds := by
  w_on
  o_law
  k_head
  (case hw => w_witness2)
  k_fill
  refine L2.walk_of (l := PySem.Challenge.rw_breathrows_k01_standings_numbered) (n := 63) (k := 10) (x := "_law_script") (CX := fun _ => L2.CX0) (sp := fun w => K01.spLaw _) rfl (by decide) rfl ⟨rfl, by decide, by decide⟩ (fun w h Y => PySem.W.kIn_of Y) ?F
    (fun _ _ a ns hl _ hS => ⟨a, ns, rfl, hS, hl, fun _ => rfl⟩) (fun _ _ _ _ _ h => h)
  case F =>
    intro w mg fa h KX G hmg
    refine' K01.all_mk KX G hmg ⟨?n0a, ?n0e, ?n0i, ?n0t⟩ ⟨?n1a, ?n1e, ?n1i, ?n1t⟩ ⟨?n2a, ?n2e, ?n2i, ?n2t⟩ ⟨?c_xL, ?c_sa, ?c_ga, ?c_gg, ?c_nb, ?c_a1, ?c_t1, ?c_l1, ?c_c1, ?c_kC, ?c_hC, ?c_ca, ?c_cn, ?c_ck, ?c_cm, ?c_sS, ?c_sL⟩ ?s2 ?s3 ⟨?a0, ?l0, ?c0, ?k0⟩ ⟨?a1, ?l1, ?c1, ?k1⟩ ⟨?a2, ?l2, ?c2, ?k2⟩ ⟨?a3, ?l3, ?c3, ?k3⟩ ⟨?a4, ?l4, ?c4, ?k4⟩ ⟨?a5, ?l5, ?c5, ?k5⟩ ⟨?a6, ?l6, ?c6, ?k6⟩ ⟨?a7, ?l7, ?c7, ?k7⟩ ⟨?a8, ?l8, ?c8, ?k8⟩ ⟨?a9, ?l9, ?c9, ?k9⟩ ⟨?a10, ?l10, ?c10, ?k10⟩ ⟨?a11, ?l11, ?c11, ?k11⟩ ⟨?a12, ?l12, ?c12, ?k12⟩ ?z0 ?z1 ?z2 ?z3 ?z4 ?z5 ?z6 ?z7 ?z8 ?z9 ?z10 ?z11 ?z12 ?z13 ?z14 ?z15
    (case n0a => k_is)
    (case n1a => k_is)
    (case n2a => k_is)
    (case c_xL => first | k_is | rfl)
    (case c_sa => first | k_is | rfl)
    (case c_ga => first | k_is | rfl)
    (case c_gg => first | k_is | rfl)
    (case c_nb => first | k_is | rfl)
    (case c_a1 => first | k_is | rfl)
    (case c_t1 => first | k_is | rfl)
    (case c_l1 => first | k_is | rfl)
    (case c_c1 => first | k_is | rfl)
    (case c_kC => first | k_is | rfl)
    (case c_hC => first | k_is | rfl)
    (case c_ca => first | k_is | rfl)
    (case c_cn => first | k_is | rfl)
    (case c_ck => first | k_is | rfl)
    (case c_cm => first | k_is | rfl)
    (case c_sS => first | k_is | rfl)
    (case c_sL => first | k_is | rfl)
    (case n0e => k_is)
    (case n0i => k_is)
    (case n0t => k_is)
    (case n1e => k_is)
    (case n1i => k_is)
    (case n1t => k_is)
    (case n2e => k_is)
    (case n2i => k_is)
    (case n2t => k_is)
    (case s2 => first | k_is | rfl)
    (case s3 => first | k_is | rfl)
    (case a0 => k_is)
    (case l0 => k_is)
    (case c0 => k_is)
    (case k0 => k_is)
    (case a1 => k_is)
    (case l1 => k_is)
    (case c1 => k_is)
    (case k1 => k_is)
    (case a2 => k_is)
    (case l2 => k_is)
    (case c2 => k_is)
    (case k2 => k_is)
    (case a3 => k_is)
    (case l3 => k_is)
    (case c3 => k_is)
    (case k3 => k_is)
    (case a4 => k_is)
    (case l4 => k_is)
    (case c4 => k_is)
    (case k4 => k_is)
    (case a5 => k_is)
    (case l5 => k_is)
    (case c5 => k_is)
    (case k5 => k_is)
    (case a6 => k_is)
    (case l6 => k_is)
    (case c6 => k_is)
    (case k6 => k_is)
    (case a7 => k_is)
    (case l7 => k_is)
    (case c7 => k_is)
    (case k7 => k_is)
    (case a8 => k_is)
    (case l8 => k_is)
    (case c8 => k_is)
    (case k8 => k_is)
    (case a9 => k_is)
    (case l9 => k_is)
    (case c9 => k_is)
    (case k9 => k_is)
    (case a10 => k_is)
    (case l10 => k_is)
    (case c10 => k_is)
    (case k10 => k_is)
    (case a11 => k_is)
    (case l11 => k_is)
    (case c11 => k_is)
    (case k11 => k_is)
    (case a12 => k_is)
    (case l12 => k_is)
    (case c12 => k_is)
    (case k12 => k_is)
    (case z0 => k_is)
    (case z1 => k_is)
    (case z2 => k_is)
    (case z3 => k_is)
    (case z4 => k_is)
    (case z5 => k_is)
    (case z6 => k_is)
    (case z7 => k_is)
    (case z8 => k_is)
    (case z9 => k_is)
    (case z10 => k_is)
    (case z11 => k_is)
    (case z12 => k_is)
    (case z13 => k_is)
    (case z14 => k_is)
    (case z15 => k_is)

