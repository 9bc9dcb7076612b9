import PyProof.Rows.All
import Wide.All
import OpenK.AllK
import Wide.FinOn
import HandS.ForMost
import HandS.IsInst
import HandS.Walk
import HandS.Wide
import HandS.WideBits
import HandS.Style
import HandS.Zip
import HandS.Flow
import HandS.TupMul
import HandS.Rev
import HandS.EndBits
import HandS.Defaults
import HandS.More
import KE.GoesZip
import KE.GoesMore
import KE.KTurns
import PyProof.SliceStr2
import PySem.Challenge.RW_breathrows_k00_what_rooms_and_standings
set_option Elab.async false
set_option linter.all false
set_option maxRecDepth 100000
namespace DL
open PySem PySem.Spec PyProof.Rows L2
/-! ## what a slot or a value is known to be -/
inductive SD where
  | unk
  | dat (d : PyData)
  | ref (b : Addr)
abbrev SD.i (n : Int) : SD := .dat (.int n)
abbrev SD.b (c : Bool) : SD := .dat (.bool c)
/-- G: what is known and stays for ever; H: all that is tracked -/
structure Mv (M : Addr → Prop) (G H G1 H1 : Hp) : Prop where
  gr : ∀ a o, G a = some o → G1 a = some o
  sub : ∀ a o, G1 a = some o → H1 a = some o
  old : ∀ a o, H a = some o → G1 a = G a
  kp : ∀ a o, H a = some o → ¬ M a → H1 a = some o
  dom : ∀ a o, H a = some o → ∃ u, H1 a = some u
/-- what may change, and what holds of it, with fuel -/
structure MS where
  M : Addr → Prop
  inv : Nat → Hp → Prop
  dom : ∀ {r H a}, inv r H → M a → ∃ o, H a = some o
  fr : ∀ {r H H'}, inv r H → (∀ a o, M a → H a = some o → H' a = some o) → inv r H'
  dn : ∀ {r j H}, inv (r + j) H → inv r H
def pu : MS where
  M := fun _ => False
  inv := fun _ _ => True
  dom := fun _ h => h.elim
  fr := fun _ _ => trivial
  dn := fun _ => trivial
structure Wd (S : MS) (r : Nat) (G H : Hp) : Prop where
  sub : ∀ a o, G a = some o → H a = some o
  no : ∀ a, S.M a → G a = none
  inv : S.inv r H
section
variable {M : Addr → Prop} {G H G1 H1 G2 H2 : Hp} {S : MS} {r : Nat}
theorem Mv.refl (h : ∀ a o, G a = some o → H a = some o) : Mv M G H G H := ⟨fun _ _ e => e, h, fun _ _ _ => rfl, fun _ _ e _ => e, fun _ o e => ⟨o, e⟩⟩
theorem Mv.trans (x : Mv M G H G1 H1) (y : Mv M G1 H1 G2 H2) : Mv M G H G2 H2 where
  gr := fun a o e => y.gr a o (x.gr a o e)
  sub := y.sub
  old := fun a o e => by
    obtain ⟨u, eu⟩ := x.dom a o e
    rw [y.old a u eu, x.old a o e]
  kp := fun a o e n => y.kp a o (x.kp a o e n) n
  dom := fun a o e => by
    obtain ⟨u, eu⟩ := x.dom a o e
    exact y.dom a u eu
theorem Mv.weak {M' : Addr → Prop} (x : Mv M G H G1 H1) (h : ∀ a, M a → M' a) : Mv M' G H G1 H1 := ⟨x.gr, x.sub, x.old, fun a o e n => x.kp a o e fun z => n (h a z), x.dom⟩
/-- a new thing, known from now on -/
theorem Mv.new {p : Addr} {o : HO} (h : ∀ a o, G a = some o → H a = some o) (np : H p = none) : Mv M G H (upd G p o) (upd H p o) where
  gr := fun a u e => by
    rw [upd_ne (ne_of_none (h a u e) np)]
    exact e
  sub := fun a u e => by
    by_cases ea : a = p
    · subst ea
      rw [upd_same] at e ⊢
      exact e
    · rw [upd_ne ea] at e ⊢
      exact h a u e
  old := fun a u e => upd_ne (ne_of_none e np)
  kp := fun a u e _ => by
    rw [upd_ne (ne_of_none e np)]
    exact e
  dom := fun a u e => ⟨u, by
    rw [upd_ne (ne_of_none e np)]
    exact e⟩
theorem Wd.refl (x : Wd S r G H) : Mv S.M G H G H := Mv.refl x.sub
theorem Wd.new {p : Addr} {o : HO} (x : Wd S r G H) (np : H p = none) : Wd S r (upd G p o) (upd H p o) where
  sub := (Mv.new (M := S.M) (o := o) x.sub np).sub
  no := fun a m => by
    obtain ⟨u, e⟩ := S.dom x.inv m
    rw [upd_ne (ne_of_none e np)]
    exact x.no a m
  inv := S.fr x.inv fun a u _ e => by
    rw [upd_ne (ne_of_none e np)]
    exact e
theorem Wd.dn {j : Nat} (x : Wd S (r + j) G H) : Wd S r G H := ⟨x.sub, x.no, S.dn x.inv⟩
theorem Wd.eq {r' : Nat} (x : Wd S r G H) (e : r = r') : Wd S r' G H := e ▸ x
/-- behind what changes nothing that was tracked -/
theorem Wd.pure (x : Wd S r G H) (m : Mv (fun _ => False) G H G1 H1) : Wd S r G1 H1 where
  sub := m.sub
  no := fun a ha => by
    obtain ⟨u, e⟩ := S.dom x.inv ha
    rw [m.old a u e]
    exact x.no a ha
  inv := S.fr x.inv fun a o _ e => m.kp a o e fun z => z
end
/-! data that stands in G -/
mutual
inductive DD (K : PySem.W.Frag) (G : Hp) : V → PyData → Prop
  | non : DD K G .non .none
  | bl (c : Bool) : DD K G (.bl c) (.bool c)
  | int (i : Int) : DD K G (.int i) (.int i)
  | str (x : Str) : DD K G (.str x) (.str x)
  | lst {a : Addr} {xs : List V} {ds : List PyData} (h : G a = some (.lst xs)) (t : DDs K G xs ds) : DD K G (.ref a) (.list ds)
  | tup {a : Addr} {xs : List V} {ds : List PyData} (h : G a = some (.tup xs)) (t : DDs K G xs ds) : DD K G (.ref a) (.tuple ds)
inductive DDs (K : PySem.W.Frag) (G : Hp) : List V → List PyData → Prop
  | nil : DDs K G [] []
  | cons {v : V} {d : PyData} {vs : List V} {ds : List PyData} (h : DD K G v d) (t : DDs K G vs ds) : DDs K G (v :: vs) (d :: ds)
end
section
variable {K : PySem.W.Frag} {G G1 H : Hp}
mutual
theorem DD.mono (h : ∀ a o, G a = some o → G1 a = some o) : ∀ {d : PyData} {v : V}, DD K G v d → DD K G1 v d
  | _, _, .non => .non
  | _, _, .bl b => .bl b
  | _, _, .int i => .int i
  | _, _, .str x => .str x
  | _, _, .lst s a => .lst (h _ _ s) (DDs.mono h a)
  | _, _, .tup s a => .tup (h _ _ s) (DDs.mono h a)
theorem DDs.mono (h : ∀ a o, G a = some o → G1 a = some o) : ∀ {ds : List PyData} {vs : List V}, DDs K G vs ds → DDs K G1 vs ds
  | _, _, .nil => .nil
  | _, _, .cons d a => .cons (DD.mono h d) (DDs.mono h a)
end
mutual
theorem DD.dp : ∀ {d : PyData} {v : V}, DD K G v d → Dp K G v d
  | _, _, .non => .non
  | _, _, .bl b => .bl b
  | _, _, .int i => .int i
  | _, _, .str x => .str x
  | _, _, .lst s a => .lst (.inl (.inl s)) (DDs.dp a)
  | _, _, .tup s a => .tup (.inl (.inl s)) (DDs.dp a)
theorem DDs.dp : ∀ {ds : List PyData} {vs : List V}, DDs K G vs ds → DpAll K G vs ds
  | _, _, .nil => .nil
  | _, _, .cons d a => .cons (DD.dp d) (DDs.dp a)
end
theorem DDs.len : ∀ {ds : List PyData} {vs : List V}, DDs K G vs ds → vs.length = ds.length
  | _, _, .nil => rfl
  | _, _, .cons _ a => congrArg Nat.succ (DDs.len a)
theorem DDs.get : ∀ {ds : List PyData} {vs : List V} {i : Nat} {v : V}, DDs K G vs ds → vs[i]? = some v → ∃ d, ds[i]? = some d ∧ DD K G v d
  | _, _, _, _, .nil, e => by simp at e
  | _, _, 0, _, .cons h _, e => by
    simp at e
    subst e
    exact ⟨_, rfl, h⟩
  | _, _, i + 1, v, .cons _ t, e => by
    obtain ⟨d, h1, h2⟩ := DDs.get (i := i) (v := v) t (by simpa using e)
    exact ⟨d, by simpa using h1, h2⟩
theorem DDs.got : ∀ {ds : List PyData} {vs : List V} {i : Nat} {d : PyData}, DDs K G vs ds → ds[i]? = some d → ∃ v, vs[i]? = some v ∧ DD K G v d
  | _, _, _, _, .nil, e => by simp at e
  | _, _, 0, _, .cons h _, e => by
    simp at e
    subst e
    exact ⟨_, rfl, h⟩
  | _, _, i + 1, d, .cons _ t, e => by
    obtain ⟨v, h1, h2⟩ := DDs.got (i := i) (d := d) t (by simpa using e)
    exact ⟨v, by simpa using h1, h2⟩
theorem DDs.append : ∀ {ds es : List PyData} {vs us : List V}, DDs K G vs ds → DDs K G us es → DDs K G (vs ++ us) (ds ++ es)
  | _, _, _, _, .nil, s => s
  | _, _, _, _, .cons r t, s => .cons r (DDs.append t s)
theorem DDs.snoc {ds : List PyData} {vs : List V} {v : V} {d : PyData} (a : DDs K G vs ds) (b : DD K G v d) : DDs K G (vs ++ [v]) (ds ++ [d]) := a.append (.cons b .nil)
theorem DDs.reverse : ∀ {ds : List PyData} {vs : List V}, DDs K G vs ds → DDs K G vs.reverse ds.reverse
  | _, _, .nil => .nil
  | _, _, .cons r t => by
    rw [List.reverse_cons, List.reverse_cons]
    exact (DDs.reverse t).snoc r
theorem DDs.ints : ∀ {ns : List Int} {vs : List V}, DDs K G vs (ns.map .int) → vs = ns.map V.int
  | [], _, .nil => rfl
  | n :: ns, _, .cons h t => by
    cases h
    rw [DDs.ints t]
    rfl
theorem DDs.ofInts : ∀ (ns : List Int), DDs K G (ns.map V.int) (ns.map .int)
  | [] => .nil
  | n :: ns => .cons (.int n) (DDs.ofInts ns)
theorem DDs.bls : ∀ {ns : List Bool} {vs : List V}, DDs K G vs (ns.map .bool) → vs = ns.map V.bl
  | [], _, .nil => rfl
  | n :: ns, _, .cons h t => by
    cases h
    rw [DDs.bls t]
    rfl
theorem DDs.take : ∀ {ds : List PyData} {vs : List V} (n : Nat), DDs K G vs ds → DDs K G (vs.take n) (ds.take n)
  | _, _, 0, _ => .nil
  | _, _, _ + 1, .nil => .nil
  | _, _, n + 1, .cons r t => .cons r (DDs.take n t)
theorem DDs.drop : ∀ {ds : List PyData} {vs : List V} (n : Nat), DDs K G vs ds → DDs K G (vs.drop n) (ds.drop n)
  | _, _, 0, r => r
  | _, _, _ + 1, .nil => .nil
  | _, _, n + 1, .cons _ t => DDs.drop n t
end
def VD (K : PySem.W.Frag) (G : Hp) (v : V) : SD → Prop
  | .unk => True
  | .dat d => DD K G v d
  | .ref b => v = .ref b
section
variable {K : PySem.W.Frag} {G G1 H : Hp} {v : V} {s : SD}
theorem VD.mono (h : ∀ a o, G a = some o → G1 a = some o) (q : VD K G v s) : VD K G1 v s := by
  cases s with
  | unk => trivial
  | dat d => exact DD.mono h (show DD K G v d from q)
  | ref b => exact q
end
/-- slots and what is known of them -/
def SlD (K : PySem.W.Frag) (G : Hp) (σ : L2.St) (δ : List SD) : Prop := σ.length = δ.length ∧ ∀ (i : Nat) (s : SD), δ[i]? = some s → s = .unk ∨ ∃ v, σ[i]? = some (some v) ∧ VD K G v s
section
variable {K : PySem.W.Frag} {G G1 H : Hp} {v : V} {s : SD} {σ : L2.St} {δ : List SD}
theorem SlD.mono (h : ∀ a o, G a = some o → G1 a = some o) (q : SlD K G σ δ) : SlD K G1 σ δ := ⟨q.1, fun i s e => (q.2 i s e).imp (fun z => z) fun ⟨v, a, b⟩ => ⟨v, a, b.mono h⟩⟩
theorem SlD.set (q : SlD K G σ δ) (hv : VD K G v s) (i : Nat) : SlD K G (σ.set i (some v)) (δ.set i s) := by
  refine ⟨by rw [List.length_set, List.length_set]; exact q.1, fun j t e => ?_⟩
  by_cases hj : i = j
  · subst hj
    by_cases hi : i < δ.length
    · rw [List.getElem?_set_self hi] at e
      cases e
      exact .inr ⟨v, List.getElem?_set_self (by rw [q.1]; exact hi), hv⟩
    · rw [List.getElem?_eq_none (by rw [List.length_set]; omega)] at e
      cases e
  · rw [List.getElem?_set_ne hj] at e
    rcases q.2 j t e with z | ⟨w, a, b⟩
    · exact .inl z
    · exact .inr ⟨w, by rw [List.getElem?_set_ne hj]; exact a, b⟩
theorem SlD.none (q : SlD K G σ δ) (i : Nat) : SlD K G (σ.set i none) (δ.set i .unk) := by
  refine ⟨by rw [List.length_set, List.length_set]; exact q.1, fun j t e => ?_⟩
  by_cases hj : i = j
  · subst hj
    by_cases hi : i < δ.length
    · rw [List.getElem?_set_self hi] at e
      cases e
      exact .inl rfl
    · rw [List.getElem?_eq_none (by rw [List.length_set]; omega)] at e
      cases e
  · rw [List.getElem?_set_ne hj] at e
    rcases q.2 j t e with z | ⟨w, a, b⟩
    · exact .inl z
    · exact .inr ⟨w, by rw [List.getElem?_set_ne hj]; exact a, b⟩
def wipeD (δ : List SD) : List Nat → List SD
  | [] => δ
  | v :: vs => (wipeD δ vs).set v .unk
theorem SlD.wipe (q : SlD K G σ δ) : ∀ vs : List Nat, SlD K G (wipe σ vs) (wipeD δ vs)
  | [] => q
  | v :: vs => (SlD.wipe q vs).none v
end
/-! ## judgements -/
def Ev (K : PySem.W.Frag) (S : MS) (te : TE) (δ : List SD) (k : Nat) (Φ : SD → Prop) : Prop :=
  ∀ r σ G H, SlD K G σ δ → Wd S (r + k) G H → ∀ Q : VK, (∀ v s G2 H2, Mv S.M G H G2 H2 → Wd S r G2 H2 → VD K G2 v s → Φ s → Q v H2) → te σ H Q
def EvT (K : PySem.W.Frag) (S : MS) (tt : TT) (δ : List SD) (k : Nat) (Φ : Bool → Prop) : Prop :=
  ∀ r σ G H, SlD K G σ δ → Wd S (r + k) G H → ∀ Q : Bool → Hp → Prop, (∀ c G2 H2, Mv S.M G H G2 H2 → Wd S r G2 H2 → Φ c → Q c H2) → tt σ H Q
inductive VDs (K : PySem.W.Frag) (G : Hp) : List V → List SD → Prop
  | nil : VDs K G [] []
  | cons {v : V} {s : SD} {vs : List V} {ss : List SD} : VD K G v s → VDs K G vs ss → VDs K G (v :: vs) (s :: ss)
theorem VDs.mono {K : PySem.W.Frag} {G G1 : Hp} (h : ∀ a o, G a = some o → G1 a = some o) : ∀ {vs : List V} {ss : List SD}, VDs K G vs ss → VDs K G1 vs ss
  | _, _, .nil => .nil
  | _, _, .cons a b => .cons (a.mono h) (b.mono h)
def EvA (K : PySem.W.Frag) (S : MS) (ta : TA) (δ : List SD) (k : Nat) (Φ : List SD → Prop) : Prop :=
  ∀ r σ G H, SlD K G σ δ → Wd S (r + k) G H → ∀ Q : List V → Hp → Prop, (∀ vs ss G2 H2, Mv S.M G H G2 H2 → Wd S r G2 H2 → VDs K G2 vs ss → Φ ss → Q vs H2) → ta σ H Q
abbrev Dt (K : PySem.W.Frag) (S : MS) (te : TE) (δ : List SD) (s : SD) : Prop := Ev K S te δ 0 (fun x => x = s)
structure Out where
  nx : List SD → Prop := fun _ => False
  rt : SD → Prop := fun _ => False
  bk : List SD → Prop := fun _ => False
  ct : List SD → Prop := fun _ => False
def EvS (K : PySem.W.Frag) (S : MS) (t : TS) (δ : List SD) (k : Nat) (O : Out) : Prop :=
  ∀ r σ G H, SlD K G σ δ → Wd S (r + k) G H → ∀ D : Ends,
    (∀ σ' δ' G2 H2, Mv S.M G H G2 H2 → Wd S r G2 H2 → SlD K G2 σ' δ' → O.nx δ' → D.nx σ' H2) →
    (∀ v s G2 H2, Mv S.M G H G2 H2 → Wd S r G2 H2 → VD K G2 v s → O.rt s → D.rt v H2) →
    (∀ σ' δ' G2 H2, Mv S.M G H G2 H2 → Wd S r G2 H2 → SlD K G2 σ' δ' → O.bk δ' → D.bk σ' H2) →
    (∀ σ' δ' G2 H2, Mv S.M G H G2 H2 → Wd S r G2 H2 → SlD K G2 σ' δ' → O.ct δ' → D.ct σ' H2) → t D σ H
section
variable {K : PySem.W.Frag} {S : MS} {te ta tb tc : TE} {tt tu : TT} {δ : List SD} {k k' j : Nat} {Φ Ψ : SD → Prop} {s s' : SD}
theorem Ev.mono (h : Ev K S te δ k Φ) (i : ∀ s, Φ s → Ψ s) : Ev K S te δ k Ψ := fun r σ G H q w Q hQ => h r σ G H q w Q fun v s G2 H2 m w2 a b => hQ v s G2 H2 m w2 a (i s b)
theorem Ev.up (h : Ev K S te δ k Φ) (hk : k ≤ k') : Ev K S te δ k' Φ := fun r σ G H q w Q hQ => h r σ G H q (Wd.dn (j := k' - k) (w.eq (by omega))) Q hQ
theorem EvT.mono {Φ Ψ : Bool → Prop} (h : EvT K S tt δ k Φ) (i : ∀ s, Φ s → Ψ s) : EvT K S tt δ k Ψ := fun r σ G H q w Q hQ => h r σ G H q w Q fun c G2 H2 m w2 b => hQ c G2 H2 m w2 (i c b)
theorem EvT.up {Φ : Bool → Prop} (h : EvT K S tt δ k Φ) (hk : k ≤ k') : EvT K S tt δ k' Φ := fun r σ G H q w Q hQ => h r σ G H q (Wd.dn (j := k' - k) (w.eq (by omega))) Q hQ
theorem EvS.mono {t : TS} {O O' : Out} (h : EvS K S t δ k O) (h1 : ∀ x, O.nx x → O'.nx x) (h2 : ∀ x, O.rt x → O'.rt x) (h3 : ∀ x, O.bk x → O'.bk x) (h4 : ∀ x, O.ct x → O'.ct x) : EvS K S t δ k O' :=
  fun r σ G H q w D a b c d => h r σ G H q w D (fun x y z u m w2 s o => a x y z u m w2 s (h1 _ o)) (fun x y z u m w2 s o => b x y z u m w2 s (h2 _ o)) (fun x y z u m w2 s o => c x y z u m w2 s (h3 _ o)) (fun x y z u m w2 s o => d x y z u m w2 s (h4 _ o))
theorem EvS.up {t : TS} {O : Out} (h : EvS K S t δ k O) (hk : k ≤ k') : EvS K S t δ k' O := fun r σ G H q w D => h r σ G H q (Wd.dn (j := k' - k) (w.eq (by omega))) D
/-! ### values -/
theorem e_var {i : Nat} (h : δ[i]? = some s) (hs : s ≠ .unk) : Dt K S (tVar i) δ s := fun r σ G H q w Q hQ => by
  rcases q.2 i s h with z | ⟨v, e, hv⟩
  · exact absurd z hs
  · exact ⟨v, e, hQ v s G H w.refl w hv rfl⟩
theorem e_vd {i : Nat} {d : PyData} (h : δ[i]? = some (.dat d)) : Dt K S (tVar i) δ (.dat d) := e_var h (fun z => nomatch z)
theorem e_vr {i : Nat} {b : Addr} (h : δ[i]? = some (.ref b)) : Dt K S (tVar i) δ (.ref b) := e_var h (fun z => nomatch z)
theorem e_c {v : V} {d : PyData} (h : ∀ G, DD K G v d) : Dt K S (tC v) δ (.dat d) := fun r σ G H q w Q hQ => hQ v (.dat d) G H w.refl w (h G) rfl
theorem e_int {n : Int} : Dt K S (tC (.int n)) δ (.dat (.int n)) := e_c fun _ => .int n
theorem e_str {x : Str} : Dt K S (tC (.str x)) δ (.dat (.str x)) := e_c fun _ => .str x
theorem e_bl {c : Bool} : Dt K S (tC (.bl c)) δ (.dat (.bool c)) := e_c fun _ => .bl c
theorem e_non : Dt K S (tC .non) δ (.dat .none) := e_c fun _ => .non
/-! ### operations on values -/
def RV (K : PySem.W.Frag) (r : R2) (s s' : SD) (Ψ : SD → Prop) : Prop := ∀ x y G H, VD K G x s → VD K G y s' → (∀ a o, G a = some o → H a = some o) → ∀ Q : VK, (∀ v z G2 H2, Mv (fun _ => False) G H G2 H2 → VD K G2 v z → Ψ z → Q v H2) → r x y H Q
theorem e_op {r : R2} {Φ' : SD → SD → Prop} (ha : Ev K S ta δ k Φ) (hb : ∀ s, Φ s → Ev K S tb δ k' (Φ' s)) (hr : ∀ s s', Φ s → Φ' s s' → RV K r s s' Ψ) : Ev K S (tOp r ta tb) δ (k + k') Ψ :=
  fun r σ G H q w Q hQ => ha (r + k') σ G H q (w.eq (by omega)) _ fun v s G2 H2 m w2 hv hs =>
    hb s hs r σ G2 H2 (q.mono m.gr) w2 _ fun u s' G3 H3 m3 w3 hu hs' =>
      hr s s' hs hs' v u G3 H3 (hv.mono m3.gr) hu w3.sub Q fun y z G4 H4 m4 hy hz => hQ y z G4 H4 ((m.trans m3).trans (m4.weak fun _ f => f.elim)) (w3.pure m4) hy hz
theorem d_op {r : R2} (ha : Dt K S ta δ s) (hb : Dt K S tb δ s') (hr : RV K r s s' Ψ) : Ev K S (tOp r ta tb) δ 0 Ψ :=
  e_op (Φ' := fun _ x => x = s') (k' := 0) ha (fun _ _ => hb) fun x y hx hy => by
    subst hx hy
    exact hr
theorem rv_I0 {g : Int → Int → V} {i j : Int} {d : PyData} (h : ∀ G, DD K G (g i j) d) : RV K (rI0 g) (.dat (.int i)) (.dat (.int j)) (fun z => z = .dat d) := fun x y G H hx hy hs Q hQ => by
  cases hx
  cases hy
  exact ⟨i, j, rfl, rfl, hQ _ (.dat d) G H (Mv.refl hs) (h G) rfl⟩
theorem rv_I {C : Int → Int → Prop} {g : Int → Int → V} {i j : Int} {d : PyData} (hc : C i j) (h : ∀ G, DD K G (g i j) d) : RV K (rI C g) (.dat (.int i)) (.dat (.int j)) (fun z => z = .dat d) := fun x y G H hx hy hs Q hQ => by
  cases hx
  cases hy
  exact ⟨i, j, rfl, rfl, hc, hQ _ (.dat d) G H (Mv.refl hs) (h G) rfl⟩
/-! ### arguments, calls of built-ins -/
theorem a_nil : EvA K S tNil δ 0 (fun ss => ss = []) := fun r σ G H q w Q hQ => hQ [] [] G H w.refl w .nil rfl
theorem a_cons {tr : TA} {Φ' : SD → List SD → Prop} (ha : Ev K S ta δ k Φ) (hr : ∀ s, Φ s → EvA K S tr δ k' (Φ' s)) : EvA K S (tCons ta tr) δ (k + k') (fun ss => ∃ s l, ss = s :: l ∧ Φ s ∧ Φ' s l) :=
  fun r σ G H q w Q hQ => ha (r + k') σ G H q (w.eq (by omega)) _ fun v s G2 H2 m w2 hv hs =>
    hr s hs r σ G2 H2 (q.mono m.gr) w2 _ fun vs ss G3 H3 m3 w3 hvs hss => hQ _ (s :: ss) G3 H3 (m.trans m3) w3 (.cons (hv.mono m3.gr) hvs) ⟨s, ss, rfl, hs, hss⟩
theorem da_cons {tr : TA} {ss : List SD} (ha : Dt K S ta δ s) (hr : EvA K S tr δ 0 (fun l => l = ss)) : EvA K S (tCons ta tr) δ 0 (fun l => l = s :: ss) :=
  fun r σ G H q w Q hQ => a_cons (k' := 0) (Φ' := fun _ l => l = ss) ha (fun _ _ => hr) r σ G H q w Q fun vs l G2 H2 m w2 hv ⟨x, y, e, ex, ey⟩ => hQ vs l G2 H2 m w2 hv (by rw [e, ex, ey])
def RC (K : PySem.W.Frag) (r : List V → Hp → VK → Prop) (ss : List SD) (Ψ : SD → Prop) : Prop := ∀ vs G H, VDs K G vs ss → (∀ a o, G a = some o → H a = some o) → ∀ Q : VK, (∀ v z G2 H2, Mv (fun _ => False) G H G2 H2 → VD K G2 v z → Ψ z → Q v H2) → r vs H Q
theorem e_cb {r : List V → Hp → VK → Prop} {t : TA} {Φ : List SD → Prop} (ha : EvA K S t δ k Φ) (hr : ∀ ss, Φ ss → RC K r ss Ψ) : Ev K S (tCB r t) δ k Ψ :=
  fun r σ G H q w Q hQ => ha r σ G H q w _ fun vs ss G2 H2 m w2 hv hs => hr ss hs vs G2 H2 hv w2.sub Q fun y z G3 H3 m3 hy hz => hQ y z G3 H3 (m.trans (m3.weak fun _ f => f.elim)) (w2.pure m3) hy hz
theorem d_cb {r : List V → Hp → VK → Prop} {t : TA} {ss : List SD} (ha : EvA K S t δ 0 (fun l => l = ss)) (hr : RC K r ss Ψ) : Ev K S (tCB r t) δ 0 Ψ := e_cb ha fun l hl => by
  subst hl
  exact hr
/-! ### displays -/
def dats : List SD → List PyData → Prop
  | [], [] => True
  | .dat d :: r, e :: l => d = e ∧ dats r l
  | _, _ => False
theorem dats_dd {G : Hp} : ∀ {ss : List SD} {ds : List PyData} {vs : List V}, VDs K G vs ss → dats ss ds → DDs K G vs ds
  | _, [], _, .nil, _ => .nil
  | _, _ :: _, _, .nil, h => h.elim
  | .dat d :: r, e :: l, _, .cons a b, h => by
    obtain ⟨rfl, h⟩ := h
    exact .cons a (dats_dd b h)
  | .dat _ :: _, [], _, .cons _ _, h => h.elim
  | .unk :: _, [], _, .cons _ _, h => h.elim
  | .unk :: _, _ :: _, _, .cons _ _, h => h.elim
  | .ref _ :: _, [], _, .cons _ _, h => h.elim
  | .ref _ :: _, _ :: _, _, .cons _ _, h => h.elim
theorem e_lst {t : TA} {Φ : List SD → Prop} (ha : EvA K S t δ k Φ) (h : ∀ ss, Φ ss → ∃ ds, dats ss ds ∧ ds.length ≤ 100000 ∧ Ψ (.dat (.list ds))) : Ev K S (tLst t) δ k Ψ :=
  fun r σ G H q w Q hQ => ha r σ G H q w _ fun vs ss G2 H2 m w2 hv hs => by
    obtain ⟨ds, hd, hl, hy⟩ := h ss hs
    have dd := dats_dd hv hd
    exact ⟨Nat.le_trans (by rw [dd.len]; exact hl) (by decide), fun p np => hQ _ (.dat (.list ds)) _ _ (m.trans (Mv.new w2.sub np)) (w2.new np) (DD.lst upd_same (dd.mono (Mv.new (M := S.M) w2.sub np).gr)) hy⟩
theorem e_tup {t : TA} {Φ : List SD → Prop} (ha : EvA K S t δ k Φ) (h : ∀ ss, Φ ss → ∃ ds, dats ss ds ∧ ds.length ≤ 100000 ∧ Ψ (.dat (.tuple ds))) : Ev K S (tTup t) δ k Ψ :=
  fun r σ G H q w Q hQ => ha r σ G H q w _ fun vs ss G2 H2 m w2 hv hs => by
    obtain ⟨ds, hd, hl, hy⟩ := h ss hs
    have dd := dats_dd hv hd
    exact ⟨Nat.le_trans (by rw [dd.len]; exact hl) (by decide), fun p np => hQ _ (.dat (.tuple ds)) _ _ (m.trans (Mv.new w2.sub np)) (w2.new np) (DD.tup upd_same (dd.mono (Mv.new (M := S.M) w2.sub np).gr)) hy⟩
theorem d_lst {t : TA} {ds : List PyData} (ha : EvA K S t δ 0 (fun l => l = ds.map SD.dat)) (hl : ds.length ≤ 100000 := by simp) : Dt K S (tLst t) δ (.dat (.list ds)) := e_lst ha fun ss e => ⟨ds, by
  subst e
  clear ha hl
  induction ds with
  | nil => trivial
  | cons x l ih => exact ⟨rfl, ih⟩, hl, rfl⟩
theorem d_tup {t : TA} {ds : List PyData} (ha : EvA K S t δ 0 (fun l => l = ds.map SD.dat)) (hl : ds.length ≤ 100000 := by simp) : Dt K S (tTup t) δ (.dat (.tuple ds)) := e_tup ha fun ss e => ⟨ds, by
  subst e
  clear ha hl
  induction ds with
  | nil => trivial
  | cons x l ih => exact ⟨rfl, ih⟩, hl, rfl⟩
/-! ### tests -/
theorem t_test {c : Bool} (h : Dt K S te δ (.b c)) : EvT K S (tTest te) δ 0 (fun x => x = c) := fun r σ G H q w Q hQ => h r σ G H q w _ fun v s G2 H2 m w2 hv hs => by
  subst hs
  cases hv
  exact ⟨c, rfl, hQ c G2 H2 m w2 rfl⟩
theorem t_testE {Φ : Bool → Prop} (h : Ev K S te δ k (fun s => ∃ c, s = .b c ∧ Φ c)) : EvT K S (tTest te) δ k Φ := fun r σ G H q w Q hQ => h r σ G H q w _ fun v s G2 H2 m w2 hv hs => by
  obtain ⟨c, rfl, hc⟩ := hs
  cases hv
  exact ⟨c, rfl, hQ c G2 H2 m w2 hc⟩
theorem t_val {c : Bool} (h : Dt K S te δ (.b c)) : EvT K S (tB te) δ 0 (fun x => x = c) := fun r σ G H q w Q hQ => h r σ G H q w _ fun v s G2 H2 m w2 hv hs => by
  subst hs
  cases hv
  exact ⟨c, rfl, hQ c G2 H2 m w2 rfl⟩
theorem t_not {c : Bool} (h : EvT K S tt δ 0 (fun x => x = c)) : EvT K S (tNot tt) δ 0 (fun x => x = !c) := fun r σ G H q w Q hQ => h r σ G H q w _ fun d G2 H2 m w2 hs => hQ (!d) G2 H2 m w2 (by rw [hs])
theorem t_and {c d : Bool} (h1 : EvT K S tt δ 0 (fun x => x = c)) (h2 : c = true → EvT K S tu δ 0 (fun x => x = d)) : EvT K S (tAnd tt tu) δ 0 (fun x => x = (c && d)) :=
  fun r σ G H q w Q hQ => h1 r σ G H q w _ fun e G2 H2 m w2 hs => by
    subst hs
    cases e with
    | true => exact iteT (h2 rfl r σ G2 H2 (q.mono m.gr) w2 Q fun f G3 H3 m3 w3 hf => hQ f G3 H3 (m.trans m3) w3 hf)
    | false => exact iteF (hQ false G2 H2 m w2 rfl)
theorem t_or {c d : Bool} (h1 : EvT K S tt δ 0 (fun x => x = c)) (h2 : c = false → EvT K S tu δ 0 (fun x => x = d)) : EvT K S (tOr tt tu) δ 0 (fun x => x = (c || d)) :=
  fun r σ G H q w Q hQ => h1 r σ G H q w _ fun e G2 H2 m w2 hs => by
    subst hs
    cases e with
    | false => exact iteF (h2 rfl r σ G2 H2 (q.mono m.gr) w2 Q fun f G3 H3 m3 w3 hf => hQ f G3 H3 (m.trans m3) w3 hf)
    | true => exact iteT (hQ true G2 H2 m w2 rfl)
theorem e_andV {c d : Bool} (h1 : Dt K S ta δ (.b c)) (h2 : c = true → Dt K S tb δ (.b d)) : Dt K S (tAndV ta tb) δ (.b (c && d)) :=
  fun r σ G H q w Q hQ => h1 r σ G H q w _ fun v s G2 H2 m w2 hv hs => by
    subst hs
    cases hv
    refine ⟨c, rfl, ?_⟩
    cases c with
    | true => exact iteT (h2 rfl r σ G2 H2 (q.mono m.gr) w2 Q fun u f G3 H3 m3 w3 hu hf => hQ u f G3 H3 (m.trans m3) w3 hu hf)
    | false => exact iteF (hQ _ (.b false) G2 H2 m w2 (.bl false) rfl)
theorem e_orV {c d : Bool} (h1 : Dt K S ta δ (.b c)) (h2 : c = false → Dt K S tb δ (.b d)) : Dt K S (tOrV ta tb) δ (.b (c || d)) :=
  fun r σ G H q w Q hQ => h1 r σ G H q w _ fun v s G2 H2 m w2 hv hs => by
    subst hs
    cases hv
    refine ⟨c, rfl, ?_⟩
    cases c with
    | false => exact iteF (h2 rfl r σ G2 H2 (q.mono m.gr) w2 Q fun u f G3 H3 m3 w3 hu hf => hQ u f G3 H3 (m.trans m3) w3 hu hf)
    | true => exact iteT (hQ _ (.b true) G2 H2 m w2 (.bl true) rfl)
theorem e_notV {c : Bool} (h1 : Dt K S ta δ (.b c)) : Dt K S (tNotV ta) δ (.b (!c)) := fun r σ G H q w Q hQ => h1 r σ G H q w _ fun v s G2 H2 m w2 hv hs => by
  subst hs
  cases hv
  exact ⟨c, rfl, hQ _ (.b (!c)) G2 H2 m w2 (.bl _) rfl⟩
theorem e_if {c : Bool} (h : EvT K S tt δ 0 (fun x => x = c)) (h1 : c = true → Ev K S ta δ k Ψ) (h2 : c = false → Ev K S tb δ k Ψ) : Ev K S (tIf tt ta tb) δ k Ψ :=
  fun r σ G H q w Q hQ => h (r + k) σ G H q w _ fun e G2 H2 m w2 hs => by
    subst hs
    cases e with
    | true => exact iteT (h1 rfl r σ G2 H2 (q.mono m.gr) w2 Q fun u f G3 H3 m3 w3 hu hf => hQ u f G3 H3 (m.trans m3) w3 hu hf)
    | false => exact iteF (h2 rfl r σ G2 H2 (q.mono m.gr) w2 Q fun u f G3 H3 m3 w3 hu hf => hQ u f G3 H3 (m.trans m3) w3 hu hf)
/-! ### statements -/
variable {t u : TS} {O : Out}
theorem s_next (h : O.nx δ) : EvS K S tNext δ 0 O := fun r σ G H q w D a _ _ _ => a σ δ G H w.refl w q h
theorem s_ret (h : Ev K S te δ k O.rt) : EvS K S (tRet te) δ k O := fun r σ G H q w D _ b _ _ => h r σ G H q w _ fun v s G2 H2 m w2 hv hs => b v s G2 H2 m w2 hv hs
theorem s_seq {N : List SD → Prop} (h1 : EvS K S t δ k { O with nx := N }) (h2 : ∀ δ', N δ' → EvS K S u δ' k' O) : EvS K S (tSeq t u) δ (k + k') O :=
  fun r σ G H q w D a b c d => h1 (r + k') σ G H q (w.eq (by omega)) _
    (fun σ' δ' G2 H2 m w2 q2 n => h2 δ' n r σ' G2 H2 q2 w2 D (fun x y z f m3 => a x y z f (m.trans m3)) (fun x y z f m3 => b x y z f (m.trans m3)) (fun x y z f m3 => c x y z f (m.trans m3)) (fun x y z f m3 => d x y z f (m.trans m3)))
    (fun v s G2 H2 m w2 => b v s G2 H2 m (Wd.dn (j := k') w2)) (fun v s G2 H2 m w2 => c v s G2 H2 m (Wd.dn (j := k') w2)) (fun v s G2 H2 m w2 => d v s G2 H2 m (Wd.dn (j := k') w2))
theorem s_asg {i : Nat} (h : Ev K S te δ k Φ) (hn : ∀ s, Φ s → O.nx (δ.set i s)) : EvS K S (tAsg te (gName i)) δ k O :=
  fun r σ G H q w D a _ _ _ => h r σ G H q w _ fun v s G2 H2 m w2 hv hs => a _ (δ.set i s) G2 H2 m w2 ((q.mono m.gr).set hv i) (hn s hs)
/-- x = e; rest -/
theorem s_set {i : Nat} (h : Ev K S te δ k Φ) (hu : ∀ s, Φ s → EvS K S u (δ.set i s) k' O) : EvS K S (tSeq (tAsg te (gName i)) u) δ (k + k') O :=
  s_seq (N := fun δ' => ∃ s, Φ s ∧ δ' = δ.set i s) (s_asg h fun s hs => ⟨s, hs, rfl⟩) fun δ' ⟨s, hs, e⟩ => by
    subst e
    exact hu s hs
theorem sd_set {i : Nat} (h : Dt K S te δ s) (hu : EvS K S u (δ.set i s) k O) : EvS K S (tSeq (tAsg te (gName i)) u) δ k O := (s_set (k' := k) h fun z hz => by
  subst hz
  exact hu).up (by omega)
theorem s_if {c : Bool} (h : EvT K S tt δ 0 (fun x => x = c)) (h1 : c = true → EvS K S t δ k O) (h2 : c = false → EvS K S u δ k O) : EvS K S (tIfS tt t u) δ k O :=
  fun r σ G H q w D a b e f => h (r + k) σ G H q w _ fun x G2 H2 m w2 hs => by
    subst hs
    cases x with
    | true => exact iteT (h1 rfl r σ G2 H2 (q.mono m.gr) w2 D (fun x y z f m3 => a x y z f (m.trans m3)) (fun x y z f m3 => b x y z f (m.trans m3)) (fun x y z f m3 => e x y z f (m.trans m3)) (fun x y z g m3 => f x y z g (m.trans m3)))
    | false => exact iteF (h2 rfl r σ G2 H2 (q.mono m.gr) w2 D (fun x y z f m3 => a x y z f (m.trans m3)) (fun x y z f m3 => b x y z f (m.trans m3)) (fun x y z f m3 => e x y z f (m.trans m3)) (fun x y z g m3 => f x y z g (m.trans m3)))
theorem s_ifE {Φ : Bool → Prop} (h : EvT K S tt δ k Φ) (h1 : Φ true → EvS K S t δ k' O) (h2 : Φ false → EvS K S u δ k' O) : EvS K S (tIfS tt t u) δ (k + k') O :=
  fun r σ G H q w D a b e f => h (r + k') σ G H q (w.eq (by omega)) _ fun x G2 H2 m w2 hs => by
    cases x with
    | true => exact iteT (h1 hs r σ G2 H2 (q.mono m.gr) w2 D (fun x y z f m3 => a x y z f (m.trans m3)) (fun x y z f m3 => b x y z f (m.trans m3)) (fun x y z f m3 => e x y z f (m.trans m3)) (fun x y z g m3 => f x y z g (m.trans m3)))
    | false => exact iteF (h2 hs r σ G2 H2 (q.mono m.gr) w2 D (fun x y z f m3 => a x y z f (m.trans m3)) (fun x y z f m3 => b x y z f (m.trans m3)) (fun x y z f m3 => e x y z f (m.trans m3)) (fun x y z g m3 => f x y z g (m.trans m3)))
/-- an if without else, then the rest -/
theorem s_if0 {c : Bool} (h : EvT K S tt δ 0 (fun x => x = c)) (h1 : c = true → EvS K S (tSeq t u) δ k O) (h2 : c = false → EvS K S u δ k O) : EvS K S (tSeq (tIfS tt t tNext) u) δ k O :=
  fun r σ G H q w D a b e f => h (r + k) σ G H q w _ fun x G2 H2 m w2 hs => by
    subst hs
    cases x with
    | true => exact iteT (h1 rfl r σ G2 H2 (q.mono m.gr) w2 D (fun x y z f m3 => a x y z f (m.trans m3)) (fun x y z f m3 => b x y z f (m.trans m3)) (fun x y z f m3 => e x y z f (m.trans m3)) (fun x y z g m3 => f x y z g (m.trans m3)))
    | false => exact iteF (h2 rfl r σ G2 H2 (q.mono m.gr) w2 D (fun x y z f m3 => a x y z f (m.trans m3)) (fun x y z f m3 => b x y z f (m.trans m3)) (fun x y z f m3 => e x y z f (m.trans m3)) (fun x y z g m3 => f x y z g (m.trans m3)))
/-- a return ends what follows -/
theorem s_retSeq (h : Ev K S te δ k O.rt) : EvS K S (tSeq (tRet te) u) δ k O := fun r σ G H q w D _ b _ _ => h r σ G H q w _ fun v s G2 H2 m w2 hv hs => b v s G2 H2 m w2 hv hs
end
/-! ## what is walked -/
/-- the items that a walk yields, one by one -/
def EvI (K : PySem.W.Frag) (S : MS) (wi : TI) (δ : List SD) (k : Nat) (its : List PyData) : Prop :=
  ∀ r σ G H, SlD K G σ δ → Wd S (r + k) G H → ∀ R : It → Hp → Prop,
    (∀ J G2 H2, Mv S.M G H G2 H2 → Wd S r G2 H2 → (∃ (A : Hp → Prop) (Y : Nat → Hp → V → Hp → Prop), Walk J its.length A Y ∧ (∀ G3 H3, Mv S.M G2 H2 G3 H3 → A H3) ∧
      ∀ i d q G3 H3 x H4, its[i]? = some d → Mv S.M G2 H2 G3 H3 → Wd S q G3 H3 → Y i H3 x H4 → ∃ G4, Mv S.M G3 H3 G4 H4 ∧ Wd S q G4 H4 ∧ DD K G4 x d) → R J H2) → wi σ H R
section
variable {K : PySem.W.Frag} {S : MS} {te tl : TE} {δ : List SD} {k k' : Nat}
theorem i_list {ds : List PyData} (h : Dt K S tl δ (.dat (.list ds))) : EvI K S (iList K tl) δ 0 ds := fun r σ G H q w R hR => h r σ G H q w _ fun v s G2 H2 m w2 hv hs => by
  subst hs
  cases hv with
  | @lst a xs _ hx ht =>
    refine ⟨a, rfl, ⟨xs, .inl (.inl (w2.sub _ _ hx))⟩, hR _ G2 H2 m w2 ⟨fun H => SqL K H a xs, _, by rw [← ht.len]; exact walk_list (xs := xs), fun G3 H3 m3 => .inl (.inl (m3.sub _ _ (m3.gr _ _ hx))), fun i d q G3 H3 x H4 hd m3 w3 y => ?_⟩⟩
    obtain ⟨rfl, hy⟩ := y
    obtain ⟨d', h1, h2⟩ := ht.get hy
    cases h1.symm.trans hd
    exact ⟨G3, w3.refl, w3, h2.mono m3.gr⟩
theorem i_tup {ds : List PyData} (h : Dt K S tl δ (.dat (.tuple ds))) : EvI K S (iTup K tl) δ 0 ds := fun r σ G H q w R hR => h r σ G H q w _ fun v s G2 H2 m w2 hv hs => by
  subst hs
  cases hv with
  | @tup a xs _ hx ht =>
    refine ⟨a, rfl, ⟨xs, .inl (.inl (w2.sub _ _ hx))⟩, hR _ G2 H2 m w2 ⟨fun H => SqT K H a xs, _, by rw [← ht.len]; exact walk_tup (xs := xs), fun G3 H3 m3 => .inl (.inl (m3.sub _ _ (m3.gr _ _ hx))), fun i d q G3 H3 x H4 hd m3 w3 y => ?_⟩⟩
    obtain ⟨rfl, hy⟩ := y
    obtain ⟨d', h1, h2⟩ := ht.get hy
    cases h1.symm.trans hd
    exact ⟨G3, w3.refl, w3, h2.mono m3.gr⟩
def rangeD (lo : Int) (n : Nat) : List PyData := (List.range n).map fun (i : Nat) => PyData.int (lo + (i : Int))
theorem rangeD_len (lo : Int) (n : Nat) : (rangeD lo n).length = n := by simp [rangeD]
theorem rangeD_get {lo : Int} {n i : Nat} {d : PyData} (h : (rangeD lo n)[i]? = some d) : i < n ∧ d = .int (lo + (i : Int)) := by
  unfold rangeD at h
  rw [List.getElem?_map] at h
  by_cases hi : i < n
  · rw [List.getElem?_range hi] at h
    exact ⟨hi, (Option.some.inj h).symm⟩
  · rw [List.getElem?_eq_none (by simpa using hi)] at h
    cases h
theorem i_rngE {ta : TA} {n : Int} (h : EvA K S ta δ 0 (fun l => l = [.i n])) (h1 : n < 2 ^ 62) (h0 : -(2 ^ 62) ≤ n) : EvI K S (iRng1 ta) δ 0 (rangeD 0 n.toNat) := fun r σ G H q w R hR => h r σ G H q w _ fun vs ss G2 H2 m w2 hv hs => by
  subst hs
  cases hv with
  | cons a b =>
    cases b
    cases a
    refine ⟨n, rfl, h0, h1, hR _ G2 H2 m w2 ⟨_, _, by rw [rangeD_len]; exact walk_range, fun _ _ _ => trivial, fun i d q G3 H3 x H4 hd m3 w3 y => ?_⟩⟩
    obtain ⟨rfl, rfl⟩ := y
    obtain ⟨_, rfl⟩ := rangeD_get hd
    exact ⟨G3, w3.refl, w3, .int _⟩
theorem i_rng2 {ta : TA} {lo n : Int} (h : EvA K S ta δ 0 (fun l => l = [.i lo, .i n])) (h1 : -(2 ^ 62) ≤ lo ∧ lo < 2 ^ 62 ∧ -(2 ^ 62) ≤ n ∧ n < 2 ^ 62) : EvI K S (iRng2 ta) δ 0 (rangeD lo (n - lo).toNat) := fun r σ G H q w R hR => h r σ G H q w _ fun vs ss G2 H2 m w2 hv hs => by
  subst hs
  cases hv with
  | cons a b =>
    cases b with
    | cons a2 b =>
      cases b
      cases a
      cases a2
      refine ⟨lo, n, rfl, h1, hR _ G2 H2 m w2 ⟨_, _, by rw [rangeD_len]; exact walk_range, fun _ _ _ => trivial, fun i d q G3 H3 x H4 hd m3 w3 y => ?_⟩⟩
      obtain ⟨rfl, rfl⟩ := y
      obtain ⟨_, rfl⟩ := rangeD_get hd
      exact ⟨G3, w3.refl, w3, .int _⟩
/-! ## targets -/
def Tg (K : PySem.W.Frag) (g : TG) (d : PyData) (δ δ' : List SD) (vs : List Nat) : Prop :=
  ∀ x σ G H, SlD K G σ δ → DD K G x d → (∀ a o, G a = some o → H a = some o) → ∀ Q : L2.St → Hp → Prop, (∀ σ2, SlD K G σ2 δ' → wipe σ2 vs = wipe σ vs → Q σ2 H) → g x σ H Q
theorem wipe1 (σ : L2.St) (i : Nat) (o : Option V) : wipe (σ.set i o) [i] = wipe σ [i] := by
  unfold wipe
  unfold wipe
  rw [List.set_set]
theorem wipe2 (σ : L2.St) (i j : Nat) (o u : Option V) : wipe ((σ.set i o).set j u) [i, j] = wipe σ [i, j] := by
  unfold wipe
  unfold wipe
  unfold wipe
  rw [List.set_set]
  by_cases h : i = j
  · subst h
    rw [List.set_set, List.set_set, List.set_set]
  · rw [List.set_comm _ _ h, List.set_set, List.set_comm _ _ (Ne.symm h)]
theorem tg_name {i : Nat} {d : PyData} : Tg K (gName i) d δ (δ.set i (.dat d)) [i] := fun x σ G H q hx hs Q hQ => hQ _ (q.set (s := .dat d) hx i) (wipe1 σ i _)
theorem tg_pair {i j : Nat} {d e : PyData} : Tg K (gTup K 2 (gCons (gName i) (gCons (gName j) gNil))) (.tuple [d, e]) δ ((δ.set i (.dat d)).set j (.dat e)) [i, j] := fun x σ G H q hx hs Q hQ => by
  cases hx with
  | @tup a xs _ h t =>
    cases t with
    | cons t1 t =>
      cases t with
      | cons t2 t =>
        cases t
        exact ⟨_, _, rfl, .inl (.inl (hs _ _ h)), rfl, _, _, rfl, _, _, rfl, rfl, hQ _ ((q.set (s := .dat d) t1 i).set (s := .dat e) t2 j) (wipe2 σ i j _ _)⟩
theorem Tg.wiped {g : TG} {d : PyData} {δ δ' : List SD} {vs : List Nat} (h : Tg K g d (wipeD δ vs) δ' vs) {x : V} {σ : L2.St} {G H : Hp} (q : SlD K G σ δ) (hx : DD K G x d) (hs : ∀ a o, G a = some o → H a = some o) {Q : L2.St → Hp → Prop}
    (ww : wipe (wipe σ vs) vs = wipe σ vs) (hQ : ∀ σ2, SlD K G σ2 δ' → wipe σ2 vs = wipe σ vs → Q σ2 H) : g x (wipe σ vs) H Q :=
  h x (wipe σ vs) G H (q.wipe vs) hx hs Q fun σ2 a b => hQ σ2 a (b.trans ww)
theorem wipe_get (σ : L2.St) : ∀ (vs : List Nat) (i : Nat), i < σ.length → i ∈ vs → (wipe σ vs)[i]? = some none
  | [], _, _, h => by cases h
  | v :: vs, i, hi, h => by
    unfold wipe
    by_cases e : v = i
    · subst e
      exact List.getElem?_set_self (by rw [wipe_length]; exact hi)
    · rw [List.getElem?_set_ne e]
      rcases List.mem_cons.mp h with z | z
      · exact absurd z.symm e
      · exact wipe_get σ vs i hi z
theorem wipe_idem (σ : L2.St) (vs : List Nat) : wipe (wipe σ vs) vs = wipe σ vs := by
  refine List.ext_getElem? fun i => ?_
  by_cases hi : i < σ.length
  · by_cases h : i ∈ vs
    · rw [wipe_get (wipe σ vs) vs i (by rw [wipe_length]; exact hi) h, wipe_get σ vs i hi h]
    · rw [wipe_out h]
  · rw [List.getElem?_eq_none (by rw [wipe_length, wipe_length]; omega), List.getElem?_eq_none (by rw [wipe_length]; omega)]
/-! ## list comprehensions -/
theorem Mv.loc {M : Addr → Prop} {G H G1 H1 : Hp} {D : Addr} {o : HO} (m : Mv M G H G1 H1) (n0 : H D = none) (n1 : G1 D = none) : Mv M G H G1 (upd H1 D o) where
  gr := m.gr
  sub := fun a u e => by
    by_cases ea : a = D
    · rw [ea, n1] at e
      cases e
    · rw [upd_ne ea]
      exact m.sub a u e
  old := m.old
  kp := fun a u e n => by
    rw [upd_ne (ne_of_none e n0)]
    exact m.kp a u e n
  dom := fun a u e => by
    rw [upd_ne (ne_of_none e n0)]
    exact m.dom a u e
theorem Wd.loc {r : Nat} {G H : Hp} {D : Addr} {o : HO} (w : Wd S r G H) (n1 : G D = none) (nm : ¬ S.M D) : Wd S r G (upd H D o) where
  sub := fun a u e => by
    by_cases ea : a = D
    · rw [ea, n1] at e
      cases e
    · rw [upd_ne ea]
      exact w.sub a u e
  no := w.no
  inv := S.fr w.inv fun a u ma e => by
    rw [upd_ne (show a ≠ D from fun z => nm (z ▸ ma))]
    exact e
/-- what stands at D is known from now on -/
theorem Mv.know {M : Addr → Prop} {G H G1 H1 : Hp} {D : Addr} {o : HO} (m : Mv M G H G1 H1) (n0 : H D = none) (n1 : G1 D = none) (h : H1 D = some o) : Mv M G H (upd G1 D o) H1 where
  gr := fun a u e => by
    have e1 := m.gr a u e
    rw [upd_ne (ne_of_none e1 n1)]
    exact e1
  sub := fun a u e => by
    by_cases ea : a = D
    · rw [ea, upd_same] at e
      rw [ea, ← e]
      exact h
    · rw [upd_ne ea] at e
      exact m.sub a u e
  old := fun a u e => by
    rw [upd_ne (ne_of_none e n0)]
    exact m.old a u e
  kp := m.kp
  dom := m.dom
theorem Wd.know {r : Nat} {G H : Hp} {D : Addr} {o : HO} (w : Wd S r G H) (h : H D = some o) (nm : ¬ S.M D) : Wd S r (upd G D o) H where
  sub := fun a u e => by
    by_cases ea : a = D
    · rw [ea, upd_same] at e
      rw [ea, ← e]
      exact h
    · rw [upd_ne ea] at e
      exact w.sub a u e
  no := fun a ma => by
    rw [upd_ne (show a ≠ D from fun z => nm (z ▸ ma))]
    exact w.no a ma
  inv := w.inv
theorem e_lc {wi : TI} {g : TG} {vs : List Nat} {its : List PyData} {δg : PyData → List SD} {Ψ : Nat → PyData → Prop} (hi : EvI K S wi δ k its) (hg : ∀ (j : Nat) (d : PyData), its[j]? = some d → Tg K g d (wipeD δ vs) (δg d) vs)
    (he : ∀ (j : Nat) (d : PyData), its[j]? = some d → Ev K S te (δg d) k' (fun s => ∃ e, s = .dat e ∧ Ψ j e)) (hn : its.length ≤ 100000) :
    Ev K S (tLc wi g tYes te vs) δ (k + k' * its.length) (fun s => ∃ ds, s = .dat (.list ds) ∧ ds.length = its.length ∧ ∀ (j : Nat) (d : PyData), ds[j]? = some d → Ψ j d) :=
  fun r σ G H q w Q hQ => hi (r + k' * its.length) σ G H q (w.eq (by omega)) _ fun J G2 H2 m w2 ⟨A, Y, wk, hA, hY⟩ D nD => by
    have nG : G2 D = none := by
      cases e : G2 D with
      | none => rfl
      | some o =>
        rw [w2.sub D o e] at nD
        cases nD
    have nM : ¬ S.M D := fun z => by
      obtain ⟨o, e⟩ := S.dom w2.inv z
      rw [e] at nD
      cases nD
    refine lc_it wk (fun i H3 => ∃ G3 acc ds, Mv S.M G2 H2 G3 H3 ∧ G3 D = none ∧ H3 D = some (.lst acc) ∧ Wd S (r + k' * (its.length - i)) G3 H3 ∧ DDs K G3 acc ds ∧ ds.length = i ∧ ∀ (j : Nat) (d : PyData), ds[j]? = some d → Ψ j d)
      ⟨G2, [], [], w2.refl.loc nD nG, nG, upd_same, w2.loc nG nM, .nil, rfl, fun j d e => by simp at e⟩ (fun i H3 _ ⟨G3, acc, ds, m3, _⟩ => hA G3 H3 m3) ?_ ?_
    · rintro i x H3 H4 hi ⟨G3, acc, ds, m3, n3, h3, w3, dd, el, hp⟩ y
      have hd : its[i]? = some its[i] := List.getElem?_eq_getElem hi
      obtain ⟨G4, m4, w4, dx⟩ := hY i its[i] _ G3 H3 x H4 hd m3 w3 y
      have n4 : G4 D = none := (m4.old D _ h3).trans n3
      have h4 : H4 D = some (.lst acc) := m4.kp D _ h3 nM
      refine Tg.wiped (hg i _ hd) (q.mono fun a o e => m4.gr a o (m3.gr a o (m.gr a o e))) dx w4.sub (wipe_idem σ vs) fun σ2 q2 e2 => ⟨e2, ?_⟩
      show te σ2 H4 _
      refine he i _ hd (r + k' * (its.length - (i + 1))) σ2 G4 H4 q2 (w4.eq ?_) _ fun v s G5 H5 m5 w5 hv hs => ?_
      · have e : its.length - i = (its.length - (i + 1)) + 1 := by omega
        rw [e, Nat.mul_add, Nat.mul_one, Nat.add_assoc]
      · obtain ⟨e, rfl, pe⟩ := hs
        have n5 : G5 D = none := (m5.old D _ h4).trans n4
        have h5 : H5 D = some (.lst acc) := m5.kp D _ h4 nM
        have da := dd.len
        refine ⟨acc, h5, Nat.lt_of_lt_of_le (show acc.length < 100001 by omega) (by decide), G5, acc ++ [v], ds ++ [e], (m3.trans (m4.trans m5)).loc nD n5, n5, upd_same, w5.loc n5 nM, (dd.mono fun a o z => m5.gr a o (m4.gr a o z)).snoc hv, by rw [List.length_append, el]; rfl, fun j d' hj => ?_⟩
        by_cases hj2 : j < ds.length
        · rw [List.getElem?_append_left hj2] at hj
          exact hp j d' hj
        · rw [List.getElem?_append_right (by omega)] at hj
          have : j - ds.length = 0 := by
            cases h : j - ds.length with
            | zero => rfl
            | succ n =>
              rw [h] at hj
              simp at hj
          rw [this] at hj
          cases hj
          have ej : j = i := by omega
          rw [ej]
          exact pe
    · rintro H3 ⟨G3, acc, ds, m3, n3, h3, w3, dd, el, hp⟩
      exact hQ (.ref D) (.dat (.list ds)) (upd G3 D (.lst acc)) H3 (m.trans (m3.know nD n3 h3)) ((w3.know h3 nM).eq (by rw [Nat.sub_self]; rfl)) (DD.lst upd_same (dd.mono fun a o e => by
        rw [upd_ne (ne_of_none e n3)]
        exact e)) ⟨ds, rfl, el, hp⟩
theorem d_lc {wi : TI} {g : TG} {vs : List Nat} {its : List PyData} {δg : PyData → List SD} {f : PyData → PyData} (hi : EvI K S wi δ 0 its) (hg : ∀ (j : Nat) (d : PyData), its[j]? = some d → Tg K g d (wipeD δ vs) (δg d) vs)
    (he : ∀ (j : Nat) (d : PyData), its[j]? = some d → Dt K S te (δg d) (.dat (f d))) (hn : its.length ≤ 100000) : Dt K S (tLc wi g tYes te vs) δ (.dat (.list (its.map f))) :=
  ((e_lc (k' := 0) (Ψ := fun j e => ∃ d, its[j]? = some d ∧ e = f d) hi hg (fun j d hd => (he j d hd).mono fun s hs => ⟨f d, hs, d, hd, rfl⟩) hn).mono fun s ⟨ds, e, el, hp⟩ => by
    rw [e]
    congr 2
    refine List.ext_getElem? fun j => ?_
    rw [List.getElem?_map]
    by_cases hj : j < ds.length
    · obtain ⟨d, h1, h2⟩ := hp j _ (List.getElem?_eq_getElem hj)
      rw [List.getElem?_eq_getElem hj, h1, h2]
      rfl
    · rw [List.getElem?_eq_none (by omega), List.getElem?_eq_none (by omega)]
      rfl).up (by omega)
/-! ## for loops -/
theorem s_for {wi : TI} {g : TG} {tb : TS} {vs : List Nat} {its : List PyData} {O : Out} (I : Nat → List SD → Prop) (hi : EvI K S wi δ k its) (h0 : I 0 δ)
    (hs : ∀ (j : Nat) (d : PyData) δ', its[j]? = some d → I j δ' → ∃ δ2, Tg K g d δ' δ2 vs ∧ EvS K S tb δ2 k' { nx := I (j + 1), rt := O.rt, bk := O.nx, ct := I (j + 1) }) (hd : ∀ δ', I its.length δ' → O.nx δ') :
    EvS K S (tFor wi g tb) δ (k + k' * its.length) O :=
  fun r σ G H q w D a b _ _ => hi (r + k' * its.length) σ G H q (w.eq (by omega)) _ fun J G2 H2 m w2 ⟨A, Y, wk, hA, hY⟩ =>
    for_it wk (fun i σ' H3 => ∃ G3 δ', Mv S.M G2 H2 G3 H3 ∧ Wd S (r + k' * (its.length - i)) G3 H3 ∧ SlD K G3 σ' δ' ∧ I i δ') ⟨G2, δ, w2.refl, w2, q.mono m.gr, h0⟩ (fun i σ' H3 _ ⟨G3, _, m3, _⟩ => hA G3 H3 m3) (by
      rintro i x σ' H3 H4 hlt ⟨G3, δ', m3, w3, q3, hI⟩ y
      have hd' : its[i]? = some its[i] := List.getElem?_eq_getElem hlt
      obtain ⟨G4, m4, w4, dx⟩ := hY i its[i] _ G3 H3 x H4 hd' m3 w3 y
      obtain ⟨δ2, tg, hb⟩ := hs i its[i] δ' hd' hI
      refine tg x σ' G4 H4 (q3.mono m4.gr) dx w4.sub _ fun σ2 q2 _ => ?_
      refine hb (r + k' * (its.length - (i + 1))) σ2 G4 H4 q2 (w4.eq ?_) _ ?_ ?_ ?_ ?_
      · have e : its.length - i = (its.length - (i + 1)) + 1 := by omega
        rw [e, Nat.mul_add, Nat.mul_one, Nat.add_assoc]
      · intro σ5 δ5 G5 H5 m5 w5 q5 hI5
        exact ⟨G5, δ5, m3.trans (m4.trans m5), w5, q5, hI5⟩
      · intro v s G5 H5 m5 w5 hv hr
        exact b v s G5 H5 (m.trans (m3.trans (m4.trans m5))) (Wd.dn (j := k' * (its.length - (i + 1))) w5) hv hr
      · intro σ5 δ5 G5 H5 m5 w5 q5 hn
        exact a σ5 δ5 G5 H5 (m.trans (m3.trans (m4.trans m5))) (Wd.dn (j := k' * (its.length - (i + 1))) w5) q5 hn
      · intro σ5 δ5 G5 H5 m5 w5 q5 hI5
        exact ⟨G5, δ5, m3.trans (m4.trans m5), w5, q5, hI5⟩) (by
      rintro σ' H3 ⟨G3, δ', m3, w3, q3, hI⟩
      exact a σ' δ' G3 H3 (m.trans m3) (w3.eq (by rw [Nat.sub_self]; rfl)) q3 (hd δ' hI))
end
/-! ## operations, one by one -/
section
variable {K : PySem.W.Frag} {S : MS} {δ : List SD}
theorem atI_dd {G : Hp} {ds : List PyData} {vs : List V} {i : Int} {d : PyData} (t : DDs K G vs ds) (h : atI ds i = some d) : ∃ v, atI vs i = some v ∧ DD K G v d := by
  unfold atI at h ⊢
  rw [t.len]
  cases e : ixN ds.length i with
  | none =>
    rw [e] at h
    cases h
  | some j =>
    rw [e] at h
    exact t.got h
theorem rv_ixL {ds : List PyData} {i : Int} {d : PyData} (h : atI ds i = some d) : RV K (rIxL K) (.dat (.list ds)) (.i i) (fun z => z = .dat d) := fun x y G H hx hy hs Q hQ => by
  cases hy
  cases hx with
  | @lst a xs _ hl t =>
    obtain ⟨v, hv, dv⟩ := atI_dd t h
    exact ⟨a, xs, i, v, rfl, rfl, .inl (.inl (hs _ _ hl)), hv, hQ v (.dat d) G H (Mv.refl hs) dv rfl⟩
theorem rv_ixT {ds : List PyData} {i : Int} {d : PyData} (h : atI ds i = some d) : RV K (rIxT K) (.dat (.tuple ds)) (.i i) (fun z => z = .dat d) := fun x y G H hx hy hs Q hQ => by
  cases hy
  cases hx with
  | @tup a xs _ hl t =>
    obtain ⟨v, hv, dv⟩ := atI_dd t h
    exact ⟨a, xs, i, v, rfl, rfl, .inl (.inl (hs _ _ hl)), hv, hQ v (.dat d) G H (Mv.refl hs) dv rfl⟩
theorem rv_cat {ds es : List PyData} (h : ds.length + es.length ≤ 100000) : RV K rCat (.dat (.list ds)) (.dat (.list es)) (fun z => z = .dat (.list (ds ++ es))) := fun x y G H hx hy hs Q hQ => by
  cases hx with
  | @lst a xs _ hl t =>
    cases hy with
    | @lst b ys _ hl2 t2 =>
      refine ⟨a, b, xs, ys, rfl, rfl, hs _ _ hl, hs _ _ hl2, Nat.le_trans (by rw [t.len, t2.len]; exact h) (by decide), fun p np => hQ _ (.dat (.list (ds ++ es))) _ _ (Mv.new hs np) (DD.lst upd_same ((t.append t2).mono (Mv.new (M := fun _ => False) hs np).gr)) rfl⟩
theorem rv_catT {ds es : List PyData} (h : ds.length + es.length ≤ 100000) (hn : ds ≠ []) : RV K (rCatT K) (.dat (.tuple ds)) (.dat (.tuple es)) (fun z => z = .dat (.tuple (ds ++ es))) := fun x y G H hx hy hs Q hQ => by
  cases hx with
  | @tup a xs _ hl t =>
    cases hy with
    | @tup b ys _ hl2 t2 =>
      have e1 := t.len
      have e2 := t2.len
      refine ⟨a, b, xs, ys, rfl, rfl, .inl (.inl (hs _ _ hl)), .inl (.inl (hs _ _ hl2)), fun z => hn ?_, Nat.le_trans (by rw [e1, e2]; exact h) (by decide), fun z => ?_, fun _ p np => hQ _ (.dat (.tuple (ds ++ es))) _ _ (Mv.new hs np) (DD.tup upd_same ((t.append t2).mono (Mv.new (M := fun _ => False) hs np).gr)) rfl⟩
      · subst z
        exact List.eq_nil_of_length_eq_zero e1.symm
      · subst z
        have : es = [] := List.eq_nil_of_length_eq_zero e2.symm
        subst this
        exact hQ _ (.dat (.tuple ds)) G H (Mv.refl hs) (.tup hl t) (by rw [List.append_nil])
theorem rv_eqD {d e : PyData} (h1 : SeqAt.shaped d = true) (h2 : SeqAt.shaped e = true) : RV K (rEqD K) (.dat d) (.dat e) (fun z => z = .b (PyData.eqv d e)) := fun x y G H hx hy hs Q hQ =>
  ⟨d, e, ((show DD K G x d from hx).mono hs).dp, ((show DD K G y e from hy).mono hs).dp, h1, h2, hQ _ (.b _) G H (Mv.refl hs) (DD.bl _) rfl⟩
theorem rv_neD {d e : PyData} (h1 : SeqAt.shaped d = true) (h2 : SeqAt.shaped e = true) : RV K (rNeD K) (.dat d) (.dat e) (fun z => z = .b (!PyData.eqv d e)) := fun x y G H hx hy hs Q hQ =>
  ⟨d, e, ((show DD K G x d from hx).mono hs).dp, ((show DD K G y e from hy).mono hs).dp, h1, h2, hQ _ (.b _) G H (Mv.refl hs) (DD.bl _) rfl⟩
theorem rv_eqI {i j : Int} : RV K rEq (.i i) (.i j) (fun z => z = .b (decide (i = j))) := fun x y G H hx hy hs Q hQ => by
  cases hx
  cases hy
  refine ⟨rfl, hQ _ (.b (decide (i = j))) G H (Mv.refl hs) ?_ rfl⟩
  rw [show decide (V.int i = V.int j) = decide (i = j) from by
    by_cases h : i = j
    · subst h
      simp
    · rw [decide_eq_false h, decide_eq_false fun z => h (V.int.inj z)]]
  exact DD.bl _
theorem rv_neI {i j : Int} : RV K rNe (.i i) (.i j) (fun z => z = .b (!decide (i = j))) := fun x y G H hx hy hs Q hQ => by
  cases hx
  cases hy
  refine ⟨rfl, hQ _ (.b (!decide (i = j))) G H (Mv.refl hs) ?_ rfl⟩
  rw [show decide (V.int i = V.int j) = decide (i = j) from by
    by_cases h : i = j
    · subst h
      simp
    · rw [decide_eq_false h, decide_eq_false fun z => h (V.int.inj z)]]
  exact DD.bl _
theorem rv_eqB {i j : Bool} : RV K rEq (.b i) (.b j) (fun z => z = .b (i == j)) := fun x y G H hx hy hs Q hQ => by
  cases hx
  cases hy
  refine ⟨rfl, hQ _ (.b (i == j)) G H (Mv.refl hs) ?_ rfl⟩
  rw [dec_bl]
  exact DD.bl _
theorem rv_neB {i j : Bool} : RV K rNe (.b i) (.b j) (fun z => z = .b (!(i == j))) := fun x y G H hx hy hs Q hQ => by
  cases hx
  cases hy
  refine ⟨rfl, hQ _ (.b (!(i == j))) G H (Mv.refl hs) ?_ rfl⟩
  rw [dec_bl]
  exact DD.bl _
/-! built-ins -/
theorem vds1 {G : Hp} {vs : List V} {s : SD} (h : VDs K G vs [s]) : ∃ v, vs = [v] ∧ VD K G v s := by
  cases h with
  | cons a b =>
    cases b
    exact ⟨_, rfl, a⟩
theorem vds2 {G : Hp} {vs : List V} {s t : SD} (h : VDs K G vs [s, t]) : ∃ v u, vs = [v, u] ∧ VD K G v s ∧ VD K G u t := by
  cases h with
  | cons a b =>
    cases b with
    | cons c d =>
      cases d
      exact ⟨_, _, rfl, a, c⟩
theorem rc_lenL {ds : List PyData} : RC K (fun xs H Q => ∃ p ys, xs = [.ref p] ∧ (SqL K H p ys ∨ SqT K H p ys) ∧ Q (.int ys.length) H) [.dat (.list ds)] (fun z => z = .i ds.length) := fun vs G H hv hs Q hQ => by
  obtain ⟨v, rfl, hx⟩ := vds1 hv
  cases hx with
  | @lst a xs _ hl t => exact ⟨a, xs, rfl, .inl (.inl (.inl (hs _ _ hl))), hQ _ (.i ds.length) G H (Mv.refl hs) (by rw [t.len]; exact DD.int _) rfl⟩
theorem rc_lenT {ds : List PyData} : RC K (fun xs H Q => ∃ p ys, xs = [.ref p] ∧ (SqL K H p ys ∨ SqT K H p ys) ∧ Q (.int ys.length) H) [.dat (.tuple ds)] (fun z => z = .i ds.length) := fun vs G H hv hs Q hQ => by
  obtain ⟨v, rfl, hx⟩ := vds1 hv
  cases hx with
  | @tup a xs _ hl t => exact ⟨a, xs, rfl, .inr (.inl (.inl (hs _ _ hl))), hQ _ (.i ds.length) G H (Mv.refl hs) (by rw [t.len]; exact DD.int _) rfl⟩
theorem rc_listL {ds : List PyData} : RC K (fun xs H Q => ∃ p ys, xs = [.ref p] ∧ (SqL K H p ys ∨ SqT K H p ys) ∧ ∀ l, H l = none → Q (.ref l) (upd H l (.lst ys))) [.dat (.list ds)] (fun z => z = .dat (.list ds)) := fun vs G H hv hs Q hQ => by
  obtain ⟨v, rfl, hx⟩ := vds1 hv
  cases hx with
  | @lst a xs _ hl t => exact ⟨a, xs, rfl, .inl (.inl (.inl (hs _ _ hl))), fun l hn => hQ _ (.dat (.list ds)) _ _ (Mv.new hs hn) (DD.lst upd_same (t.mono (Mv.new (M := fun _ => False) hs hn).gr)) rfl⟩
theorem rc_listT {ds : List PyData} : RC K (fun xs H Q => ∃ p ys, xs = [.ref p] ∧ (SqL K H p ys ∨ SqT K H p ys) ∧ ∀ l, H l = none → Q (.ref l) (upd H l (.lst ys))) [.dat (.tuple ds)] (fun z => z = .dat (.list ds)) := fun vs G H hv hs Q hQ => by
  obtain ⟨v, rfl, hx⟩ := vds1 hv
  cases hx with
  | @tup a xs _ hl t => exact ⟨a, xs, rfl, .inr (.inl (.inl (hs _ _ hl))), fun l hn => hQ _ (.dat (.list ds)) _ _ (Mv.new hs hn) (DD.lst upd_same (t.mono (Mv.new (M := fun _ => False) hs hn).gr)) rfl⟩
theorem rc_tupL {ds : List PyData} : RC K (fun xs H Q => ∃ p ys, xs = [.ref p] ∧ ((SqL K H p ys ∧ ∀ l, H l = none → Q (.ref l) (upd H l (.tup ys))) ∨ (SqT K H p ys ∧ Q (.ref p) H))) [.dat (.list ds)] (fun z => z = .dat (.tuple ds)) := fun vs G H hv hs Q hQ => by
  obtain ⟨v, rfl, hx⟩ := vds1 hv
  cases hx with
  | @lst a xs _ hl t => exact ⟨a, xs, rfl, .inl ⟨.inl (.inl (hs _ _ hl)), fun l hn => hQ _ (.dat (.tuple ds)) _ _ (Mv.new hs hn) (DD.tup upd_same (t.mono (Mv.new (M := fun _ => False) hs hn).gr)) rfl⟩⟩
theorem rc_tupT {ds : List PyData} : RC K (fun xs H Q => ∃ p ys, xs = [.ref p] ∧ ((SqL K H p ys ∧ ∀ l, H l = none → Q (.ref l) (upd H l (.tup ys))) ∨ (SqT K H p ys ∧ Q (.ref p) H))) [.dat (.tuple ds)] (fun z => z = .dat (.tuple ds)) := fun vs G H hv hs Q hQ => by
  obtain ⟨v, rfl, hx⟩ := vds1 hv
  cases hx with
  | @tup a xs _ hl t => exact ⟨a, xs, rfl, .inr ⟨.inl (.inl (hs _ _ hl)), hQ _ (.dat (.tuple ds)) G H (Mv.refl hs) (.tup hl t) rfl⟩⟩
theorem rc_abs {i : Int} : RC K (fun xs H Q => ∃ i, xs = [.int i] ∧ Q (.int (if i < 0 then -i else i)) H) [.i i] (fun z => z = .i (if i < 0 then -i else i)) := fun vs G H hv hs Q hQ => by
  obtain ⟨v, rfl, hx⟩ := vds1 hv
  cases hx
  exact ⟨i, rfl, hQ _ (.i _) G H (Mv.refl hs) (DD.int _) rfl⟩
theorem rc_max {i j : Int} : RC K (fun xs H Q => ∃ i j, xs = [.int i, .int j] ∧ Q (.int (if j > i then j else i)) H) [.i i, .i j] (fun z => z = .i (if j > i then j else i)) := fun vs G H hv hs Q hQ => by
  obtain ⟨v, u, rfl, hx, hy⟩ := vds2 hv
  cases hx
  cases hy
  exact ⟨i, j, rfl, hQ _ (.i _) G H (Mv.refl hs) (DD.int _) rfl⟩
theorem rc_min {i j : Int} : RC K (fun xs H Q => ∃ i j, xs = [.int i, .int j] ∧ Q (.int (if j < i then j else i)) H) [.i i, .i j] (fun z => z = .i (if j < i then j else i)) := fun vs G H hv hs Q hQ => by
  obtain ⟨v, u, rfl, hx, hy⟩ := vds2 hv
  cases hx
  cases hy
  exact ⟨i, j, rfl, hQ _ (.i _) G H (Mv.refl hs) (DD.int _) rfl⟩
theorem rc_intB {c : Bool} : RC K (fun xs H Q => (∃ i, xs = [.int i] ∧ Q (.int i) H) ∨ ∃ k, xs = [.bl k] ∧ Q (.int (if k then 1 else 0)) H) [.b c] (fun z => z = .i (if c then 1 else 0)) := fun vs G H hv hs Q hQ => by
  obtain ⟨v, rfl, hx⟩ := vds1 hv
  cases hx
  exact .inr ⟨c, rfl, hQ _ (.i _) G H (Mv.refl hs) (DD.int _) rfl⟩
theorem rc_all {bs : List Bool} : RC K (rAll K) [.dat (.list (bs.map .bool))] (fun z => z = .b (bs.all id)) := fun vs G H hv hs Q hQ => by
  obtain ⟨v, rfl, hx⟩ := vds1 hv
  cases hx with
  | @lst a xs _ hl t =>
    have e := t.bls
    subst e
    exact ⟨a, bs, rfl, .inl (.inl (hs _ _ hl)), hQ _ (.b _) G H (Mv.refl hs) (DD.bl _) rfl⟩
def tyD : PyData → String
  | .none => "NoneType"
  | .bool _ => "bool"
  | .int _ => "int"
  | .str _ => "str"
  | .list _ => "list"
  | .tuple _ => "tuple"
  | .dict _ => "dict"
theorem tyX {G H : Hp} {v : V} {d : PyData} (h : DD K G v d) (hs : ∀ a o, G a = some o → H a = some o) : TyX K H v (.type (tyD d)) := by
  cases h with
  | non => exact .base .non
  | bl c => exact .base (.bl c)
  | int i => exact .base (.int i)
  | str x => exact .base (.str x)
  | lst h t => exact .base (.lst (hs _ _ h))
  | tup h t => exact .base (.tup (hs _ _ h))
end
end DL

namespace ZX
open PySem PySem.Spec PyProof.Rows L2
/-! zip of two things, each a list or a tuple -/
def SqX (K : PySem.W.Frag) (c : Bool) (H : Hp) (a : Addr) (xs : List V) : Prop := if c = true then SqT K H a xs else SqL K H a xs
def IterX (h : Heap) (c : Bool) (it l : Addr) (i : Nat) : Prop := if c = true then h.IsTupleIter it l i else h.IsListIter it l i
def HasX (h : Heap) (c : Bool) (l : Addr) (items : Array Value) : Prop := if c = true then h.IsTuple l items else h.IsList l items
def nmX (c : Bool) : String := if c = true then "tuple_iterator" else "list_iterator"
theorem drawsX {prog : Program} {w : World} {A : Around} (hh : A.handled = none) (c : Bool) (it l : Addr) (hne : l ≠ it) (items : Array Value) :
    Draws prog w A it [it, l] items.size (fun i v => items[i]? = some v) (fun i h => IterX h c it l i ∧ HasX h c l items) := by
  cases c
  · exact Draws.list hh it l hne items
  · exact Draws.tuple hh it l hne items
theorem IterX.obj {h : Heap} {c : Bool} {it l : Addr} {i : Nat} (x : IterX h c it l i) : ∃ o, h.get? it = some o ∧ ∀ v, o.data ≠ .cell v := by
  cases c
  · obtain ⟨o, e, _, d⟩ := (show h.IsListIter it l i from x)
    exact ⟨o, e, fun v q => by rw [d] at q; cases q⟩
  · obtain ⟨o, e, _, d⟩ := (show h.IsTupleIter it l i from x)
    exact ⟨o, e, fun v q => by rw [d] at q; cases q⟩
theorem IterX.keep {h h' : Heap} {c : Bool} {it l : Addr} {i : Nat} (x : IterX h c it l i) (k : ∀ o, h.get? it = some o → h'.get? it = some o) : IterX h' c it l i := by
  cases c
  · exact (show h.IsListIter it l i from x).at k
  · exact (show h.IsTupleIter it l i from x).at k
theorem hasX {X : Cx} {pins : List (Addr × Obj)} {σ : L2.St} {H : Hp} {s : Shared} {c : Bool} {a : Addr} {xs : List V} (I : Inv X pins σ H s) (h : SqX X.K c H a xs) : ∃ its : List Value, Vals xs its ∧ HasX s.heap c a its.toArray ∧ a < s.heap.objs.size := by
  cases c
  · obtain ⟨its, r, p, _⟩ := I.list (show SqL X.K H a xs from h)
    exact ⟨its, r, p.isList, p.lt⟩
  · obtain ⟨its, r, p, _⟩ := I.tuple (show SqT X.K H a xs from h)
    have p' := p
    obtain ⟨o, ho, _⟩ := p'
    exact ⟨its, r, p, Heap.lt_size ho⟩
theorem injX {X : Cx} {pins : List (Addr × Obj)} {σ : L2.St} {H : Hp} {s : Shared} {c : Bool} {a : Addr} {xs ys : List V} (I : Inv X pins σ H s) (h : SqX X.K c H a xs) (h' : SqX X.K c H a ys) : xs = ys := by
  cases c
  · exact I.list_inj h h'
  · exact I.tuple_inj h h'
theorem HasX.push {h : Heap} {c : Bool} {l : Addr} {its : Array Value} (x : HasX h c l its) (o : Obj) : HasX (h.push o) c l its := by
  cases c
  · exact Heap.IsList.push (show h.IsList l its from x) o
  · exact Heap.IsTuple.push (show h.IsTuple l its from x) o
theorem iterX {prog : Program} {w : World} {A : Around} {E : Value → Shared → Prop} {s : Shared} {c : Bool} {l : Addr} {items : Array Value} {Q : Value → Shared → Prop} (hl : HasX s.heap c l items)
    (hQ : Q (.ref s.heap.objs.size) { s with heap := s.heap.push { cls := .type (nmX c), data := .fields #[.ref l, .int 0 0] } }) : wpAny (model prog w) A (pyIter (.ref l)) Q E s := by
  cases c
  · exact wpAny_pyIter_list (show s.heap.IsList l items from hl) hQ
  · exact wpAny_pyIter_tuple (show s.heap.IsTuple l items from hl) hQ
abbrev hA (h : Heap) (c : Bool) (l : Addr) : Heap := h.push { cls := .type (nmX c), data := .fields #[.ref l, .int 0 0] }
abbrev hB (h : Heap) (c e : Bool) (l m : Addr) : Heap := hA (hA h c l) e m
abbrev hC (h : Heap) (c e : Bool) (l m : Addr) : Heap := (hB h c e l m).push { cls := .type "tuple", data := .seq #[.ref h.objs.size, .ref (hA h c l).objs.size] }
abbrev hD (h : Heap) (c e : Bool) (l m : Addr) : Heap := (hC h c e l m).push { cls := .type "tuple", data := .seq #[.none, .none] }
abbrev hE (h : Heap) (c e : Bool) (l m : Addr) : Heap := (hD h c e l m).push { cls := .type "zip", data := .fields #[.none, .bool false, .bool false, .ref (hB h c e l m).objs.size, .ref (hC h c e l m).objs.size] }
theorem meetsX (c e : Bool) (l m : Addr) (xs ys : Array Value) :
    Meets (Builtin.«zip.__new__» ⟨[.type "zip", .ref l, .ref m], []⟩) (fun _ R s => HasX s.heap c l xs ∧ HasX s.heap e m ys ∧ R (.ok (.ret (.ref (hD s.heap c e l m).objs.size))) { s with heap := hE s.heap c e l m }) :=
  .of_wp fun prog w A R s hy => by
    obtain ⟨hp, g, d, tk, os⟩ := s
    obtain ⟨h1, h2, hy⟩ := hy
    have sub := sub_zip
    have L1 : HasX (Shared.heap ⟨hp, g, d, tk, os⟩) c l xs := h1
    have L2 : HasX (Shared.heap ⟨hA hp c l, g, d, tk, os⟩) e m ys := HasX.push h2 _
    wp_walk using iterX L1, iterX L2
    exact ⟨_, rfl, hy⟩
theorem iter0 {h : Heap} {c : Bool} {it l : Addr} (e : h.get? it = some { cls := .type (nmX c), data := .fields #[.ref l, .int 0 0] }) : IterX h c it l 0 := by
  cases c
  · exact ⟨_, e, rfl, rfl⟩
  · exact ⟨_, e, rfl, rfl⟩
section
variable {prog : Program} {w : World} {A : Around} {E : Value → Shared → Prop} {s : Shared}
theorem callX {c e : Bool} {l m : Addr} {xs ys : Array Value} {Q : Value → Shared → Prop} (h1 : HasX s.heap c l xs) (h2 : HasX s.heap e m ys)
    (h : ∀ g, IsZip g (s.heap.objs.size + 4) (s.heap.objs.size + 2) (s.heap.objs.size + 3) .none → IsPair g (s.heap.objs.size + 2) (.ref s.heap.objs.size) (.ref (s.heap.objs.size + 1)) →
      IsPair g (s.heap.objs.size + 3) .none .none → IterX g c s.heap.objs.size l 0 → IterX g e (s.heap.objs.size + 1) m 0 → (∀ b o, s.heap.get? b = some o → g.get? b = some o) → Q (.ref (s.heap.objs.size + 4)) { s with heap := g }) :
    wpAny (model prog w) A (call (.type "zip") [.ref l, .ref m]) Q E s := by
  refine callType_new F.called_zip (by decide) (F.typeCall_zip_2 _ _) (F.newCall_zip_2 _ _) (fun o => F.args_object_init_3 o _ _) F.entry_zip_new (meetsX c e l m xs ys) ⟨h1, h2, ?_⟩
  have n1 : (hA s.heap c l).objs.size = s.heap.objs.size + 1 := Heap.size_push ..
  have n2 : (hB s.heap c e l m).objs.size = s.heap.objs.size + 2 := by rw [Heap.size_push, n1]
  have n3 : (hC s.heap c e l m).objs.size = s.heap.objs.size + 3 := by rw [Heap.size_push, n2]
  have n4 : (hD s.heap c e l m).objs.size = s.heap.objs.size + 4 := by rw [Heap.size_push, n3]
  have q5 : (hE s.heap c e l m).get? (hD s.heap c e l m).objs.size = some _ := Heap.get?_push_size _ rfl
  have q4 : (hE s.heap c e l m).get? (hC s.heap c e l m).objs.size = some _ := Heap.get?_push_of_some _ (Heap.get?_push_size _ rfl)
  have q3 : (hE s.heap c e l m).get? (hB s.heap c e l m).objs.size = some _ := Heap.get?_push_of_some _ (Heap.get?_push_of_some _ (Heap.get?_push_size _ rfl))
  have q2 : (hE s.heap c e l m).get? (hA s.heap c l).objs.size = some _ := Heap.get?_push_of_some _ (Heap.get?_push_of_some _ (Heap.get?_push_of_some _ (Heap.get?_push_size _ rfl)))
  have q1 : (hE s.heap c e l m).get? s.heap.objs.size = some _ := Heap.get?_push_of_some _ (Heap.get?_push_of_some _ (Heap.get?_push_of_some _ (Heap.get?_push_of_some _ (Heap.get?_push_size _ rfl))))
  show _ ∧ _
  rw [n2, n3, n4] at q5
  rw [n1, n2] at q3
  rw [n3] at q4
  rw [n1] at q2
  rw [n4]
  exact ⟨⟨_, q5, rfl⟩, h _ q5 q3 q4 (iter0 q1) (iter0 q2) fun b o x => Heap.get?_push_of_some _ (Heap.get?_push_of_some _ (Heap.get?_push_of_some _ (Heap.get?_push_of_some _ (Heap.get?_push_of_some _ x))))⟩
end
def ItX (K : PySem.W.Frag) (c e : Bool) (a b : Addr) : It :=
  ⟨fun i H => ∃ (xs ys : List V) (x y : V), SqX K c H a xs ∧ SqX K e H b ys ∧ xs[i]? = some x ∧ ys[i]? = some y,
    fun i H v H' => ∃ T x y, v = .ref T ∧ H T = none ∧ H' = upd H T (.tup [x, y]) ∧ (∀ xs, SqX K c H a xs → xs[i]? = some x) ∧ ∀ ys, SqX K e H b ys → ys[i]? = some y,
    fun i H => ∃ xs ys : List V, SqX K c H a xs ∧ SqX K e H b ys ∧ i ≤ xs.length ∧ i ≤ ys.length ∧ (xs.length = i ∨ ys.length = i)⟩
theorem sep {z TI TO i1 i2 a b : Addr} (D : ZipApart z TI TO i1 i2 a b) (h1 : b ≠ i1) (h2 : a ≠ i2) : ZipSep2 z TI TO i1 i2 [i1, a] [i2, b] where
  TIz := D.TIz
  TOz := D.TOz
  TITO := D.TITO
  TIi1 := D.TIi1
  mem1 := by simp
  zf1 := by simp [D.i1z.symm, D.l1z.symm]
  Tf1 := by simp [D.TOi1, D.l1TO.symm]
  TIi2 := D.TIi2
  mem2 := by simp
  zf2 := by simp [D.i2z.symm, D.l2z.symm]
  Tf2 := by simp [D.TOi2, D.l2TO.symm]
  sep1_2 := by simp [D.i12, h1.symm]
  sep2_1 := by simp [D.i12.symm, h2.symm]
theorem turnX {P : Program} {w : World} {K : PySem.W.Frag} {elts : List Expr} {kk : Nat} {tpos : Pos} {c e : Bool} {a b z TI TO i1 i2 : Addr} (D : ZipApart z TI TO i1 i2 a b) :
    Turn P w K (.Tuple elts kk tpos) (ItX K c e a b) [z, TI, TO, i1, i2] z (fun i h => IsZip h z TI TO .none ∧ IsPair h TI (.ref i1) (.ref i2) ∧ (∃ x y, IsPair h TO x y) ∧ IterX h c i1 a i ∧ IterX h e i2 b i) where
  mem := by simp
  obj := fun i h st k hk => by
    obtain ⟨hz, hTI, ⟨x, y, hTO⟩, h1, h2⟩ := st
    have cs : k = z ∨ k = TI ∨ k = TO ∨ k = i1 ∨ k = i2 := by simpa using hk
    rcases cs with rfl | rfl | rfl | rfl | rfl
    · exact ⟨_, hz, fun v q => nomatch q⟩
    · exact ⟨_, hTI, fun v q => nomatch q⟩
    · exact ⟨_, hTO, fun v q => nomatch q⟩
    · exact h1.obj
    · exact h2.obj
  keep := fun i h h' st k => by
    obtain ⟨hz, hTI, ⟨x, y, hTO⟩, h1, h2⟩ := st
    exact ⟨k z (by simp) _ hz, k TI (by simp) _ hTI, ⟨x, y, k TO (by simp) _ hTO⟩, h1.keep fun o q => k i1 (by simp) o q, h2.keep fun o q => k i2 (by simp) o q⟩
  item := by
    intro X hP hw hK hc i pins s σ H E I hf st hg
    subst hP hw hK
    obtain ⟨hz, hTI, ⟨x0, y0, hTO⟩, h1, h2⟩ := st
    obtain ⟨xs, ys, x, y, hqx, hqy, hx, hy⟩ := hg
    obtain ⟨its, rv, p, _⟩ := hasX I hqx
    obtain ⟨jts, rv2, p2, _⟩ := hasX I hqy
    have lx : i < xs.length := (List.getElem?_eq_some_iff.mp hx).1
    have ly : i < ys.length := (List.getElem?_eq_some_iff.mp hy).1
    have hh : X.A.in1.handled = none := I.ok.hd hc
    have hzl : z < s.heap.objs.size := Heap.lt_size hz
    refine wpAny_pyNext_zipD2_item (sep D D.l2i1 D.l1i2) (drawsX hh c i1 a D.l1i1 its.toArray) (drawsX hh e i2 b D.l2i2 jts.toArray) hz hTI hTO ⟨h1, p⟩ ⟨h2, p2⟩ (by rw [List.size_toArray, ← rv.length]; exact lx) (by rw [List.size_toArray, ← rv2.length]; exact ly)
      fun u u2 h' tk hu hu2 z' TO' n1 n2 hT hsz hk => ?_
    obtain ⟨v1, e1, r1⟩ := rv.get hx
    obtain ⟨v2, e2, r2⟩ := rv2.get hy
    have eu : v1 = u := Option.some.inj (e1.symm.trans (by simpa using hu))
    have eu2 : v2 = u2 := Option.some.inj (e2.symm.trans (by simpa using hu2))
    subst eu eu2
    refine ⟨_, rfl, wpAny_letOwnedTupleGo_zip (s := { s with heap := h', toks := tk }) z' fun h'' z'' sb => ?_⟩
    have hT2 : h''.get? s.heap.objs.size = some { cls := .type "tuple", data := .seq #[v1, v2] } := (sb.2 _ (Nat.ne_of_gt hzl)).trans hT
    have new : ObjOk X.prog X.w (upd H s.heap.objs.size (.tup [x, y])) h'' s.heap.objs.size (.tup [x, y]) := ⟨by show 2 ≤ sizeLine; decide, [v1, v2], .cons r1 (.cons r2 .nil), ⟨_, hT2, rfl, _, rfl⟩⟩
    have I1 : Inv X pins σ (upd H s.heap.objs.size (.tup [x, y])) { s with heap := h'', toks := tk } :=
      I.turnedNew (t' := tk) (ch := [z, TI, TO, i1, i2]) (fun k o hb q => (sb.2 k (fun n => hb (by simp [n]))).trans (hk k o (fun n => hb (by simp [n])) (fun n => hb (by simp [n])) (fun n => hb (by simp [n])) (fun n => hb (by simp [n])) q)) hf (Nat.le_refl _) new
    refine ⟨.ref s.heap.objs.size, _, I1, rfl, ⟨_, x, y, rfl, I.hok.fresh (Nat.le_refl _), rfl, fun l hl => by rw [injX I hl hqx]; exact hx, fun l hl => by rw [injX I hl hqy]; exact hy⟩, ⟨z'', ?_, ⟨v1, v2, ?_⟩, ?_, ?_⟩, fun k hkm => ?_⟩
    · exact (sb.2 _ D.TIz).trans (hk _ _ D.TIz D.TITO D.TIi1 D.TIi2 hTI)
    · exact (sb.2 _ D.TOz).trans TO'
    · exact n1.1.keep fun o q => (sb.2 _ D.i1z).trans q
    · exact n2.1.keep fun o q => (sb.2 _ D.i2z).trans q
    · have lt : k < s.heap.objs.size := by
        have cs : k = z ∨ k = TI ∨ k = TO ∨ k = i1 ∨ k = i2 := by simpa using hkm
        rcases cs with rfl | rfl | rfl | rfl | rfl
        · exact hzl
        · exact Heap.lt_size hTI
        · exact Heap.lt_size hTO
        · obtain ⟨_, q, _⟩ := h1.obj
          exact Heap.lt_size q
        · obtain ⟨_, q, _⟩ := h2.obj
          exact Heap.lt_size q
      rw [upd_ne (Nat.ne_of_lt lt)]
      exact (hf k hkm).1
  done := by
    intro X hP hw hK hc i pins s σ H E I hf st hg
    subst hP hw hK
    obtain ⟨hz, hTI, ⟨x0, y0, hTO⟩, h1, h2⟩ := st
    obtain ⟨xs, ys, hqx, hqy, l1, l2, hend⟩ := hg
    obtain ⟨its, rv, p, _⟩ := hasX I hqx
    obtain ⟨jts, rv2, p2, _⟩ := hasX I hqy
    have hh : X.A.in1.handled = none := I.ok.hd hc
    have m1 : its.toArray.size = xs.length := by rw [List.size_toArray, rv.length]
    have m2 : jts.toArray.size = ys.length := by rw [List.size_toArray, rv2.length]
    exact wpAny_pyNext_zipD2_end (sep D D.l2i1 D.l1i2) (drawsX hh c i1 a D.l1i1 its.toArray) (drawsX hh e i2 b D.l2i2 jts.toArray) hz hTI hTO ⟨h1, p⟩ ⟨h2, p2⟩ (by omega) (by omega) (by omega)
      fun h' tk hk => ⟨rfl, I.turnedL (t' := tk) (ch := [z, TI, TO, i1, i2]) (fun k o hb q => hk k o (fun n => hb (by simp [n])) (fun n => hb (by simp [n])) (fun n => hb (by simp [n])) (fun n => hb (by simp [n])) q) hf⟩
  self := fun A i s Q E st h => wpAny_pyIter_zip st.1 h
def iZipX (K : PySem.W.Frag) (ta : TA) : TI := fun σ H R => ta σ H fun vs H1 => ∃ c e a b xs ys, vs = [.ref a, .ref b] ∧ SqX K c H1 a xs ∧ SqX K e H1 b ys ∧ R (ItX K c e a b) H1
theorem pi_zipX {X : Cx} {e e2 : Expr} {ta : TA} {p pos tpos : Pos} {elts : List Expr} {kk : Nat} (hg : Gl X "zip") (hm : X.mg "zip" = none) (ha : PA X [e, e2] ta)
    (hs : starEach [e, e2] X.env = (false, eval e X.env) :: starEach [e2] X.env := by rfl) (hpl : (backTo pos (starEach [e2] X.env)).any (·.1) = false := by rfl) :
    PI X (.Tuple elts kk tpos) (.Call (.Name "zip" p) [e, e2] [] pos) (iZipX X.K ta) := by
  refine ⟨fun pins s σ H R I h => ?_⟩
  refine Call_ (ld_blt I hg hm PyProof.Rows.boot_zip (PyProof.Rows.callWith_type1 (thn (ha.run pos pins s σ H _ I h) fun us s1 ⟨vs, H1, I1, r1, q1⟩ => ?_) hs hpl))
  obtain ⟨c, d, a, b, xs, ys, rfl, hqx, hqy, q⟩ := q1
  obtain ⟨u1, u2, rfl, r1, r2⟩ := vals2 r1
  cases (show u1 = Value.ref a from r1)
  cases (show u2 = Value.ref b from r2)
  obtain ⟨its, rv, p1, la⟩ := hasX I1 hqx
  obtain ⟨jts, rv2, p2, lb⟩ := hasX I1 hqy
  refine callX p1 p2 fun h' hz hTI hTO h1 h2 hk => wpAny_pyIter_zip hz ?_
  have I2 : Inv X pins σ H1 { s1 with heap := h' } := I1.kept (t' := s1.toks) hk
  refine ⟨s1.heap.objs.size + 4, [s1.heap.objs.size + 4, s1.heap.objs.size + 2, s1.heap.objs.size + 3, s1.heap.objs.size, s1.heap.objs.size + 1], _, _, H1, rfl, I2, turnX (PySem.W.ktu_apart s1.heap.objs.size a b la lb), ⟨hz, hTI, ⟨_, _, hTO⟩, h1, h2⟩, fun k hkm => ?_, q⟩
  have cs : k = s1.heap.objs.size + 4 ∨ k = s1.heap.objs.size + 2 ∨ k = s1.heap.objs.size + 3 ∨ k = s1.heap.objs.size ∨ k = s1.heap.objs.size + 1 := by simpa using hkm
  have hle : s1.heap.objs.size ≤ k := by
    rcases cs with z | z | z | z | z
    · rw [z]; exact Nat.le_add_right _ _
    · rw [z]; exact Nat.le_add_right _ _
    · rw [z]; exact Nat.le_add_right _ _
    · rw [z]; exact Nat.le_refl _
    · rw [z]; exact Nat.le_add_right _ _
  exact I1.fpOk hle (I1.hok.fresh hle)
theorem walkX {K : PySem.W.Frag} {c e : Bool} {a b : Addr} {xs ys : List V} {n : Nat} (hn : n = min xs.length ys.length) : Walk (ItX K c e a b) n (fun H => SqX K c H a xs ∧ SqX K e H b ys) (YPair (fun i => xs[i]?) (fun i => ys[i]?)) := by
  subst hn
  refine ⟨fun i _ hi q => ?_, fun _ q => ⟨xs, ys, q.1, q.2, by omega, by omega, by omega⟩, fun i H v H' _ q y => ?_⟩
  · have h1 : i < xs.length := by omega
    have h2 : i < ys.length := by omega
    exact ⟨xs, ys, xs[i], ys[i], q.1, q.2, List.getElem?_eq_getElem h1, List.getElem?_eq_getElem h2⟩
  · obtain ⟨T, x, z, h1, h2, h3, h4, h5⟩ := y
    exact ⟨T, x, z, h1, h2, h3, h4 xs q.1, h5 ys q.2⟩
end ZX


namespace ZX
open PySem PySem.Spec PyProof.Rows L2
theorem mulOne (l : Addr) (its : Array Value) (n : Nat) (dd : Option Addr) (sl : Array (Option Value)) (u : Tok) :
    Meets (Builtin.«tuple.__mul__» ⟨[.ref l, .int 1 u], []⟩) (fun _ R s => s.heap.get? l = some { cls := .type "tuple", dict := dd, data := .seq its n, slots := sl } ∧ R (.ok (.ret (Value.ref l))) s) :=
  .of_wp fun prog w A R s hy => by
    obtain ⟨hp, g, d, tk, os⟩ := s
    obtain ⟨hl, hy⟩ := hy
    have f1 := AutoSeq1.idx_int
    have c1 : (its.isEmpty || (1 : Int) == 1) = true := by simp
    wp_walk using wpAny_loadPart' hl
    all_goals first
      | exact ⟨_, rfl, hy⟩
      | (refine wpAny_ite_true (decide_eq_true c1) ?_; wp_walk using wpAny_loadPart' hl; exact ⟨_, rfl, hy⟩)
def rRepX (K : PySem.W.Frag) : R2 := fun x y H Q => ∃ l k xs, x = .ref l ∧ y = .int k ∧ SqT K H l xs ∧ xs ≠ [] ∧ 1 ≤ k ∧ k ≤ 1000 ∧ xs.length ≤ 1000 ∧ (k = 1 → Q (.ref l) H) ∧ (2 ≤ k → ∀ p, H p = none → Q (.ref p) (upd H p (.tup (List.replicate k.toNat xs).flatten)))
theorem op_repX {X : Cx} : OpR X (binaryOp .Mult) (rRepX X.K) := by
  intro pins s σ H x y v u Q I rx ry h
  obtain ⟨l, k, xs, rfl, rfl, hT, hne, h1, h2, hz, q1, q2⟩ := h
  by_cases hk : k = 1
  · subst hk
    cases rx
    obtain ⟨t, rfl⟩ := ry
    obtain ⟨its, r, ⟨⟨cls, dd, data, sl⟩, ho, hc, n, hd⟩, hs⟩ := I.tuple hT
    simp only at hc hd
    subst hc hd
    refine wpAny_binaryOp_repeat_ref (T := "tuple") (U := "int") (by decide) ⟨_, ho, rfl⟩ (fun s' => typeIs_int s' 1 t) noFill_tuple_mul F.fills_int_mul F.slot_int_rmul repeat_tuple F.slot_int_index.lookup
      (call_meets F.slot_int_rmul (typeIs_int s 1 t) F.entry_int_rmul (F.args_int_rmul_2 _ _) (int_rmul_tuple 1 t l its.toArray n dd sl)
        ⟨ho, rfl, ⟨_, ho, rfl⟩, call_meets F.slot_tuple_mul ⟨_, ho, rfl⟩ F.entry_tuple_mul (F.args_tuple_mul_2 _ _) (mulOne l its.toArray n dd sl t) ⟨ho, ?_⟩⟩)
    exact ⟨.ref l, H, I, rfl, q1 rfl⟩
  · exact op_repT pins s σ H _ _ v u Q I rx ry ⟨l, k, xs, rfl, rfl, hT, hne, by omega, h2, hz, q2 (by omega)⟩
end ZX

namespace ZX
open PySem PySem.Spec PyProof.Rows L2
/-! text[::-1]: some text, no longer -/
def tRevS (te : TE) : TE := fun σ H Q => te σ H fun x H1 => ∃ z : Str, x = .str z ∧ z.length ≤ sizeLine ∧ ∀ y : Str, y.length ≤ z.length → Q (.str y) H1
theorem fm_len {α β : Type} (f : α → Option β) : ∀ l : List α, (l.filterMap f).length ≤ l.length
  | [] => Nat.le_refl _
  | a :: l => by
    rw [List.filterMap_cons]
    cases f a with
    | none => exact Nat.le_succ_of_le (fm_len f l)
    | some b => exact Nat.succ_le_succ (fm_len f l)
theorem pe_revS {X : Cx} {e : Expr} {te : TE} {k : Nat} {p1 p2 p3 pos : Pos} (he : PE X e te) : PE X (.Subscript e (.Slice none none (some (.UnaryOp .USub (.Constant (.int 1) k p1) p2)) p3) pos) (tRevS te) := by
  refine ⟨fun pins s σ H Q I h => ?_⟩
  refine Subscript_ (thn (he.run pins s σ H _ I h) fun v s1 ⟨x, H1, I1, r1, q1⟩ => ?_)
  obtain ⟨z, rfl, hz, q⟩ := q1
  obtain ⟨t, rfl⟩ := r1
  have hst : PO X (some (.UnaryOp .USub (.Constant (.int 1) k p1) p2)) (tPart (tUn (rU fun i => .int (-i)) (tC (.int 1)))) := po_some (pe_un un_neg pe_int)
  refine wpAny_Slice (thn (po_none.run pins s1 σ H1 (fun o H2 => o = none ∧ H2 = H1) I1 ⟨rfl, rfl⟩) fun vl s2 ⟨l, H2, I2, pl, el, e2⟩ => ?_)
  subst el e2
  refine thn (po_none.run pins s2 σ H2 (fun o H3 => o = none ∧ H3 = H2) I2 ⟨rfl, rfl⟩) fun vu s3 ⟨u, H3, I3, pu, eu, e3⟩ => ?_
  subst eu e3
  refine thn (hst.run pins s3 σ H3 (fun o H4 => o = some (-1) ∧ H4 = H3) I3 ⟨1, rfl, -1, rfl, rfl, rfl⟩) fun vs s4 ⟨o, H4, I4, ps, eo, e4⟩ => ?_
  subst eo e4
  have I5 : Inv X pins σ H4 { s4 with heap := s4.heap.push { cls := .type "slice", data := .fields #[vl, vu, vs] } } := I4.kept (t' := s4.toks) fun b ob q => Heap.get?_push_of_some _ q
  obtain ⟨l', rfl, hl'⟩ := IsPart.raw pl
  obtain ⟨u', rfl, hu'⟩ := IsPart.raw pu
  obtain ⟨w', rfl, hw'⟩ := IsPart.raw ps
  show wpAny (model X.prog X.w) X.A (subscriptTail e (.Slice none none (some (.UnaryOp .USub (.Constant (.int 1) k p1) p2)) p3) (.str z t) (.ref s4.heap.objs.size)) (EP X pins σ Q) X.xe { s4 with heap := s4.heap.push { cls := .type "slice", data := .fields #[partValue l', partValue u', partValue w'] } }
  refine tail_any (ops := [.str z t, .ref s4.heap.objs.size]) (typeIs_str _ _ _) F.slot_str_getitem.lookup ?_ (by with_unfolding_all rfl)
  have h1 : (w'.map (·.1)).getD 1 = -1 := by rw [hw']; rfl
  refine wpAny_getItem_str_slice (l := l') (u := u') (st := w') ⟨_, Heap.get?_push_size _ rfl, rfl, rfl⟩ (by rw [h1]; rfl) ?_
  unfold sliceMade
  rw [if_neg (by rw [h1]; simp)]
  have hlen : (((slicePicked z l' u' w').filterMap (z.cps[·]?)).toArray).size ≤ z.length := by
    rw [List.size_toArray]
    refine Nat.le_trans (fm_len _ _) ?_
    unfold slicePicked
    rw [h1, hl', hu']
    exact sliceRange_length_le _ _ _ _ (fun h => absurd h (by decide)) fun _ => ⟨by simp, by simp⟩
  exact ⟨Nat.le_trans hlen hz, .str _, H4, I5.tok _, ⟨_, rfl⟩, q _ hlen⟩
end ZX

namespace DL
open PySem PySem.Spec PyProof.Rows L2 ZX
section
variable {K : PySem.W.Frag} {S : MS} {te ta tb : TE} {δ : List SD} {k k' : Nat} {Φ Ψ : SD → Prop} {d : PyData}
/-! ### isinstance -/
theorem e_isi {n : String} {r : Bool} (h : Dt K S te δ (.dat d)) (hk : kitB (tyD d) n = some r) : Dt K S (tCB (rIsi K) (tCons te (tCons (tC (.ty n)) tNil))) δ (.b r) := fun q σ G H hq w Q hQ => h q σ G H hq w _ fun v s G2 H2 m w2 hv hs => by
  subst hs
  exact ⟨v, .ty n, _, _, r, rfl, .ty n, tyX (show DD K G2 v d from hv) w2.sub, kit_ty hk, hQ _ (.b r) G2 H2 m w2 (DD.bl r) rfl⟩
theorem e_isiT {n1 n2 : String} {r1 r2 : Bool} (h : Dt K S te δ (.dat d)) (h1 : kitB (tyD d) n1 = some r1) (h2 : kitB (tyD d) n2 = some r2) :
    Dt K S (tCB (rIsiT K) (tCons te (tCons (tTup (tCons (tC (.ty n1)) (tCons (tC (.ty n2)) tNil))) tNil))) δ (.b (r1 || r2)) := fun q σ G H hq w Q hQ => h q σ G H hq w _ fun v s G2 H2 m w2 hv hs => by
  subst hs
  refine ⟨by show 2 ≤ sizeLine; decide, fun p np => ?_⟩
  have nG : G2 p = none := by
    cases e : G2 p with
    | none => rfl
    | some o =>
      rw [w2.sub p o e] at np
      cases np
  have nM : ¬ S.M p := fun z => by
    obtain ⟨o, e⟩ := S.dom w2.inv z
    rw [e] at np
    cases np
  have w3 := Wd.loc (o := .tup [V.ty n1, V.ty n2]) w2 nG nM
  refine ⟨v, p, [.ty n1, .ty n2], _, [.type n1, .type n2], r1 || r2, rfl, upd_same, .cons (.ty n1) (.cons (.ty n2) .nil), tyX (show DD K G2 v d from hv) w3.sub, ?_, hQ _ (.b _) G2 _ (m.trans (w2.refl.loc np nG)) w3 (DD.bl _) rfl⟩
  refine kitAny_cons (kit_ty h1) (fun e => ?_) fun e => by rw [e]; rfl
  subst e
  refine kitAny_cons (r := false || r2) (kit_ty h2) (fun e => ?_) fun e => by rw [e]; rfl
  subst e
  rfl
def isI : PyData → Bool
  | .int _ => true
  | .bool _ => true
  | _ => false
def isB : PyData → Bool
  | .bool _ => true
  | _ => false
def isT : PyData → Bool
  | .tuple _ => true
  | _ => false
def isL : PyData → Bool
  | .list _ => true
  | _ => false
def isS : PyData → Bool
  | .str _ => true
  | _ => false
theorem kb_int : ∀ d : PyData, kitB (tyD d) "int" = some (isI d)
  | .none  => show kitB "NoneType" "int" = some false by decide +kernel
  | .bool _ => show kitB "bool" "int" = some true by decide +kernel
  | .int _ => show kitB "int" "int" = some true by decide +kernel
  | .str _ => show kitB "str" "int" = some false by decide +kernel
  | .list _ => show kitB "list" "int" = some false by decide +kernel
  | .tuple _ => show kitB "tuple" "int" = some false by decide +kernel
  | .dict _ => show kitB "dict" "int" = some false by decide +kernel
theorem kb_bool : ∀ d : PyData, kitB (tyD d) "bool" = some (isB d)
  | .none  => show kitB "NoneType" "bool" = some false by decide +kernel
  | .bool _ => show kitB "bool" "bool" = some true by decide +kernel
  | .int _ => show kitB "int" "bool" = some false by decide +kernel
  | .str _ => show kitB "str" "bool" = some false by decide +kernel
  | .list _ => show kitB "list" "bool" = some false by decide +kernel
  | .tuple _ => show kitB "tuple" "bool" = some false by decide +kernel
  | .dict _ => show kitB "dict" "bool" = some false by decide +kernel
theorem kb_tup : ∀ d : PyData, kitB (tyD d) "tuple" = some (isT d)
  | .none  => show kitB "NoneType" "tuple" = some false by decide +kernel
  | .bool _ => show kitB "bool" "tuple" = some false by decide +kernel
  | .int _ => show kitB "int" "tuple" = some false by decide +kernel
  | .str _ => show kitB "str" "tuple" = some false by decide +kernel
  | .list _ => show kitB "list" "tuple" = some false by decide +kernel
  | .tuple _ => show kitB "tuple" "tuple" = some true by decide +kernel
  | .dict _ => show kitB "dict" "tuple" = some false by decide +kernel
theorem kb_list : ∀ d : PyData, kitB (tyD d) "list" = some (isL d)
  | .none  => show kitB "NoneType" "list" = some false by decide +kernel
  | .bool _ => show kitB "bool" "list" = some false by decide +kernel
  | .int _ => show kitB "int" "list" = some false by decide +kernel
  | .str _ => show kitB "str" "list" = some false by decide +kernel
  | .list _ => show kitB "list" "list" = some true by decide +kernel
  | .tuple _ => show kitB "tuple" "list" = some false by decide +kernel
  | .dict _ => show kitB "dict" "list" = some false by decide +kernel
theorem kb_str : ∀ d : PyData, kitB (tyD d) "str" = some (isS d)
  | .none  => show kitB "NoneType" "str" = some false by decide +kernel
  | .bool _ => show kitB "bool" "str" = some false by decide +kernel
  | .int _ => show kitB "int" "str" = some false by decide +kernel
  | .str _ => show kitB "str" "str" = some true by decide +kernel
  | .list _ => show kitB "list" "str" = some false by decide +kernel
  | .tuple _ => show kitB "tuple" "str" = some false by decide +kernel
  | .dict _ => show kitB "dict" "str" = some false by decide +kernel
/-! ### is None -/
theorem rv_isN {s : SD} {dd : PyData} : RV K (fun x y H Q => y = .non ∧ Q (.bl (decide (x = .non))) H) (.dat dd) (.dat .none) (fun z => z = .b (match dd with | .none => true | _ => false)) := fun x y G H hx hy hs Q hQ => by
  cases hy
  refine ⟨rfl, hQ _ (.b _) G H (Mv.refl hs) ?_ rfl⟩
  cases hx <;> exact DD.bl _
/-! ### defs without an effect -/
def spP (K : PySem.W.Frag) (P : List PyData → PyData → Prop) : Sp := fun vs H Q _ => ∃ G ds d, (∀ a o, G a = some o → H a = some o) ∧ DDs K G vs ds ∧ P ds d ∧ ∀ v G2 H2, Mv (fun _ => False) G H G2 H2 → DD K G2 v d → Q v H2
theorem dats_map : ∀ ds : List PyData, dats (ds.map SD.dat) ds
  | [] => trivial
  | _ :: l => ⟨rfl, dats_map l⟩
theorem e_call {P : List PyData → PyData → Prop} {t : TA} {Φ : List SD → Prop} {E : XK} (ha : EvA K S t δ k Φ) (h : ∀ ss, Φ ss → ∃ ds d, dats ss ds ∧ P ds d ∧ Ψ (.dat d)) : Ev K S (tCall (spP K P) [] E t) δ k Ψ :=
  fun r σ G H q w Q hQ => ha r σ G H q w _ fun vs ss G2 H2 m w2 hv hs => by
    obtain ⟨ds, d, hd, hp, hy⟩ := h ss hs
    rw [List.append_nil]
    exact ⟨G2, ds, d, w2.sub, dats_dd hv hd, hp, fun v G3 H3 m3 dv => hQ v (.dat d) G3 H3 (m.trans (m3.weak fun _ f => f.elim)) (w2.pure m3) dv hy⟩
theorem d_call {P : List PyData → PyData → Prop} {t : TA} {ds : List PyData} {E : XK} (ha : EvA K S t δ 0 (fun l => l = ds.map SD.dat)) (h : P ds d) : Dt K S (tCall (spP K P) [] E t) δ (.dat d) :=
  e_call ha fun ss e => ⟨ds, d, e ▸ dats_map ds, h, rfl⟩
theorem VDs.len {G : Hp} : ∀ {vs : List V} {ss : List SD}, VDs K G vs ss → vs.length = ss.length
  | _, _, .nil => rfl
  | _, _, .cons _ b => congrArg Nat.succ (VDs.len b)
theorem dats_len : ∀ {ss : List SD} {ds : List PyData}, dats ss ds → ss.length = ds.length
  | [], [], _ => rfl
  | .dat _ :: r, _ :: l, h => congrArg Nat.succ (dats_len h.2)
  | [], _ :: _, h => h.elim
  | .dat _ :: _, [], h => h.elim
  | .unk :: _, [], h => h.elim
  | .unk :: _, _ :: _, h => h.elim
  | .ref _ :: _, [], h => h.elim
  | .ref _ :: _, _ :: _, h => h.elim
/-- with keywords: gV puts positional and keyword values in order, gD the same of data -/
theorem d_callN {P : List PyData → PyData → Prop} {t tk : TA} {ds es : List PyData} {E : XK} {gV : List V → List V → List V} {gD : List PyData} (ha : EvA K S t δ 0 (fun l => l = ds.map SD.dat)) (hk : EvA K S tk δ 0 (fun l => l = es.map SD.dat))
    (hg : ∀ G vs us, DDs K G vs ds → DDs K G us es → DDs K G (gV vs us) gD) (h : P gD d) : Dt K S (tCallN ds.length es.length (spP K P) gV E t tk) δ (.dat d) :=
  fun r σ G H q w Q hQ => ha r σ G H q w _ fun vs ss G2 H2 m w2 hv hs => hk r σ G2 H2 (q.mono m.gr) w2 _ fun us s2 G3 H3 m3 w3 hu hs2 => by
    subst hs hs2
    have d1 := dats_dd (hv.mono m3.gr) (dats_map ds)
    have d2 := dats_dd hu (dats_map es)
    exact ⟨d1.len, d2.len, G3, gD, d, w3.sub, hg G3 _ _ d1 d2, h, fun v G4 H4 m4 dv => hQ v (.dat d) G4 H4 ((m.trans m3).trans (m4.weak fun _ f => f.elim)) (w3.pure m4) dv rfl⟩
/-! ### zip -/
def zipD (ds es : List PyData) : List PyData := List.zipWith (fun a b => .tuple [a, b]) ds es
def IsSeq (d : PyData) (ds : List PyData) : Prop := d = .list ds ∨ d = .tuple ds
theorem sqX_of {G H : Hp} {v : V} {ds : List PyData} (h : DD K G v d) (hs : IsSeq d ds) : ∃ c a xs, v = .ref a ∧ DDs K G xs ds ∧ ∀ H : Hp, (∀ a o, G a = some o → H a = some o) → SqX K c H a xs := by
  rcases hs with rfl | rfl
  · cases h with
    | @lst a xs _ hl t => exact ⟨false, a, xs, rfl, t, fun H hs => .inl (.inl (hs _ _ hl))⟩
  · cases h with
    | @tup a xs _ hl t => exact ⟨true, a, xs, rfl, t, fun H hs => .inl (.inl (hs _ _ hl))⟩
theorem i_zip {t : TA} {d1 d2 : PyData} {ds es : List PyData} (ha : EvA K S t δ 0 (fun l => l = [.dat d1, .dat d2])) (h1 : IsSeq d1 ds) (h2 : IsSeq d2 es) : EvI K S (iZipX K t) δ 0 (zipD ds es) := fun r σ G H q w R hR => ha r σ G H q w _ fun vs ss G2 H2 m w2 hv hs => by
  subst hs
  obtain ⟨v, u, rfl, hx, hy⟩ := vds2 hv
  obtain ⟨c, a, xs, rfl, t1, q1⟩ := sqX_of (H := H2) (show DD K G2 v d1 from hx) h1
  obtain ⟨e, b, ys, rfl, t2, q2⟩ := sqX_of (H := H2) (show DD K G2 u d2 from hy) h2
  refine ⟨c, e, a, b, xs, ys, rfl, q1 H2 w2.sub, q2 H2 w2.sub, hR _ G2 H2 m w2 ⟨fun H => SqX K c H a xs ∧ SqX K e H b ys, _, walkX (by rw [t1.len, t2.len]; simp [zipD]), fun G3 H3 m3 => ⟨q1 H3 fun a o z => m3.sub _ _ (m3.gr _ _ z), q2 H3 fun a o z => m3.sub _ _ (m3.gr _ _ z)⟩, fun i d' n G3 H3 x H4 hd m3 w3 y => ?_⟩⟩
  obtain ⟨T, x1, x2, rfl, nT, rfl, e1, e2⟩ := y
  obtain ⟨f1, g1, k1⟩ := t1.get e1
  obtain ⟨f2, g2, k2⟩ := t2.get e2
  have ed : d' = .tuple [f1, f2] := by
    unfold zipD at hd
    rw [List.getElem?_zipWith, g1, g2] at hd
    exact (Option.some.inj hd).symm
  subst ed
  have mm : Mv S.M G3 H3 (upd G3 T (.tup [x1, x2])) (upd H3 T (.tup [x1, x2])) := Mv.new w3.sub nT
  exact ⟨_, mm, w3.new nT, DD.tup upd_same (.cons (k1.mono fun a o z => mm.gr _ _ (m3.gr _ _ z)) (.cons (k2.mono fun a o z => mm.gr _ _ (m3.gr _ _ z)) .nil))⟩
end
/-! ## from a body to a promise -/
def startD (N : List Str) (ds : List PyData) : List SD := ds.map SD.dat ++ List.replicate (N.length - ds.length) SD.unk
theorem start_slots {K : PySem.W.Frag} {G : Hp} {N : List Str} {ds : List PyData} {vs : List V} (h : DDs K G vs ds) : SlD K G (L2.start N vs) (startD N ds) := by
  have e := h.len
  refine ⟨by simp [L2.start, startD, e], fun i s hs => ?_⟩
  by_cases hi : i < ds.length
  · unfold startD at hs
    rw [List.getElem?_append_left (by simpa using hi), List.getElem?_map] at hs
    obtain ⟨d, hd, rfl⟩ := Option.map_eq_some_iff.mp hs
    obtain ⟨v, hv, dv⟩ := h.got hd
    refine .inr ⟨v, ?_, dv⟩
    unfold L2.start
    rw [List.getElem?_append_left (by rw [List.length_map]; omega), List.getElem?_map, hv]
    rfl
  · unfold startD at hs
    rw [List.getElem?_append_right (by simpa using Nat.not_lt.mp hi)] at hs
    rw [List.getElem?_replicate] at hs
    split at hs
    · exact .inl (Option.some.inj hs).symm
    · cases hs
theorem wd_pu {G H : Hp} (h : ∀ a o, G a = some o → H a = some o) : Wd pu 0 G H := ⟨h, fun _ z => z.elim, trivial⟩
section
variable {P : Program} {w : World} {K : PySem.W.Frag} {mg : Str → Option Value} {base : Heap}
theorem fn_pure {x qual : Str} {st : Stmt} {f : Addr} {fd : FuncData} {N ps : List Str} {k : Nat} {R : List PyData → PyData → Prop} (F : Fun K x qual st f fd) (Sc : FnScope N ps (defScope st)) (len : ∀ ds d, R ds d → ds.length = ps.length)
    (body : ∀ (cdv : Value) (A : Around) (outer : List Env) (s : Shared) (H : Hp) (E : XK), Room k (A.deeper (envOfC qual (defScope st) s.heap.objs.size f cdv)) →
      ∃ t, PSs (cxOf CX0 P w K mg base N qual (defScope st) f cdv A outer s H E).nox (defBody st) t ∧ ∀ ds d, R ds d → EvS K pu t (startD N ds) 0 { rt := fun z => z = .dat d }) : FnOk P w K mg base CX0 (k + 1) f fd ps (spP K R) := by
  refine F.ok Sc (fun vs H Q E h => ?_) (fun cdv A outer s H vs Q E hr h => ?_)
  · obtain ⟨G, ds, d, _, dd, hp, _⟩ := h
    rw [dd.len]
    exact len ds d hp
  · obtain ⟨G, ds, d, hs, dd, hp, q⟩ := h
    obtain ⟨t, ht, hb⟩ := body cdv A outer s H E hr
    refine ⟨t, ht, hb ds d hp 0 _ G H (start_slots dd) (wd_pu hs) _ (fun _ _ _ _ _ _ _ z => z.elim) (fun v z G2 H2 m _ hv hz => ?_) (fun _ _ _ _ _ _ _ z => z.elim) (fun _ _ _ _ _ _ _ z => z.elim)⟩
    subst hz
    exact q v G2 H2 m hv
end
/-! ## calls by keywords alone -/
section
variable {X : Cx} {CX : CXT} {k n : Nat} {f : Addr} {fd : FuncData} {ps ks : List Str} {sp : Sp} {E : XK} {x : Str} {p pos : Pos} {kws : List Keyword} {tk : TA} {g : List Value → List Value → List Value} {gV : List V → List V → List V}
theorem pe_callN0 (F : FnOk X.prog X.w X.K X.mg X.base CX k f fd ps sp) (hr : Room k X.A) (hg : Gl X x) (hm : X.mg x = some (.ref f)) (hk : PySem.W.keepIn X.K (.ref f) = true) (hb : KBn X.K fd ps 0 ks g gV) (hx : Passes CX X E)
    (hkw : PK X kws tk) (hall : (backToKw pos (keywordEach kws X.env)).all (·.1.isSome) = true := by rfl) (hks : (backToKw pos (keywordEach kws X.env)).filterMap (·.1) = ks := by rfl)
    (hdb : (x == ("__debug__" : Str)) = false := by decide) (hpl : ((backTo pos (starEach [] X.env)).any (·.1) || (backToKw pos (keywordEach kws X.env)).any (·.1.isNone)) = false := by rfl) :
    PE X (.Call (.Name x p) [] kws pos) (tCallN 0 ks.length sp gV E tNil tk) := by
  refine ⟨fun pins s σ H Q I h => ?_⟩
  refine wpAny_Call_Name_kw (ld_glob I hg hm ?_ hdb)
  refine PySem.W.callWith_KW0 (h₀ := X.base) I.ok.mod.kin hk hall (thn (hkw.run pos pins s σ H _ I h) fun ws s2 ⟨zs, H2, I2, rz, l1, l2, q2⟩ => ⟨I2.kIn, ?_⟩) hpl
  rw [hks]
  exact run_fnN (us := []) F hr hb hx I2 .nil rz l1 l2 q2
end
section
variable {K : PySem.W.Frag}
theorem kb_of {x qual : Str} {st : Stmt} {f : Addr} {fd : FuncData} {ps ks : List Str} {n : Nat} {g : List Value → List Value → List Value} {gV : List V → List V → List V} (F : Fun K x qual st f fd)
    (h : ∀ (kV doc pm : Value) (an : Option Addr) (cdv ct : Value) (us ws : List Value), us.length = n → ws.length = ks.length → bindArgs (PySem.W.fnOf x qual (defArgs st) (defBody st) (defScope st) .none kV doc pm an cdv ct) ⟨us, ks.zip ws⟩ = pure (ps.zip (g us ws)))
    (hr : ∀ {vs : List V} {us : List Value} {zs : List V} {ws : List Value}, Vals vs us → Vals zs ws → Vals (gV vs zs) (g us ws)) : KBn K fd ps n ks g gV := by
  obtain ⟨oc, od, kV, doc, pm, an, cdv, ct, osl, rfl, lk, hcd⟩ := F.ex
  exact ⟨fun s us ws _ l1 l2 => .of_eq (h kV doc pm an cdv ct us ws l1 l2), hr⟩
end
end DL

namespace DL
open PySem PySem.Spec PyProof.Rows L2 ZX
/-! ## a def that may be called by its name -/
structure Cl (P : Program) (w : World) (K : PySem.W.Frag) (mg : Str → Option Value) (base : Heap) (k : Nat) (x : Str) (st : Stmt) (ps : List Str) (sp : Sp) : Prop where
  ex : ∃ (f : Addr) (fd : FuncData), Fun K x x st f fd ∧ FnOk P w K mg base CX0 k f fd ps sp ∧ mg x = some (.ref f) ∧ Binds K fd ps []
section
variable {X : Cx} {k j n : Nat} {x : Str} {st : Stmt} {ps ks : List Str} {sp : Sp} {p pos : Pos} {e : Expr} {es : List Expr} {kws : List Keyword} {t tk : TA} {g : List Value → List Value → List Value} {gV : List V → List V → List V}
theorem pe_cl (c : Cl X.prog X.w X.K X.mg X.base k x st ps sp) (hr : Room j X.A) (hk : k ≤ j) (hg : Gl X x) (ha : PA X (e :: es) t)
    (hdb : (x == ("__debug__" : Str)) = false := by decide) (he : starEach (e :: es) X.env = (false, eval e X.env) :: starEach es X.env := by rfl) (hpl : (backTo pos (starEach es X.env)).any (·.1) = false := by rfl) :
    PE X (.Call (.Name x p) (e :: es) [] pos) (tCall sp [] E0 t) := by
  obtain ⟨f, fd, F, G, hm, b⟩ := c.ex
  exact pe_call G (hr.mono hk) hg hm F.kp b .nil pass0 ha hdb he hpl
theorem pe_clk (c : Cl X.prog X.w X.K X.mg X.base k x st ps sp) (hr : Room j X.A) (hk : k ≤ j) (hg : Gl X x) (hb : ∀ f fd, Fun X.K x x st f fd → KBn X.K fd ps n ks g gV) (ha : PA X (e :: es) t) (hkw : PK X kws tk)
    (hall : (backToKw pos (keywordEach kws X.env)).all (·.1.isSome) = true := by rfl) (hks : (backToKw pos (keywordEach kws X.env)).filterMap (·.1) = ks := by rfl)
    (hdb : (x == ("__debug__" : Str)) = false := by decide) (he : starEach (e :: es) X.env = (false, eval e X.env) :: starEach es X.env := by rfl)
    (hpl : ((backTo pos (starEach (e :: es) X.env)).any (·.1) || (backToKw pos (keywordEach kws X.env)).any (·.1.isNone)) = false := by rfl) :
    PE X (.Call (.Name x p) (e :: es) kws pos) (tCallN n ks.length sp gV E0 t tk) := by
  obtain ⟨f, fd, F, G, hm, b⟩ := c.ex
  exact pe_callN G (hr.mono hk) hg hm F.kp (hb f fd F) pass0 ha hkw hall hks hdb he hpl
theorem pe_clk0 (c : Cl X.prog X.w X.K X.mg X.base k x st ps sp) (hr : Room j X.A) (hk : k ≤ j) (hg : Gl X x) (hb : ∀ f fd, Fun X.K x x st f fd → KBn X.K fd ps 0 ks g gV) (hkw : PK X kws tk)
    (hall : (backToKw pos (keywordEach kws X.env)).all (·.1.isSome) = true := by rfl) (hks : (backToKw pos (keywordEach kws X.env)).filterMap (·.1) = ks := by rfl)
    (hdb : (x == ("__debug__" : Str)) = false := by decide) (hpl : ((backTo pos (starEach [] X.env)).any (·.1) || (backToKw pos (keywordEach kws X.env)).any (·.1.isNone)) = false := by rfl) :
    PE X (.Call (.Name x p) [] kws pos) (tCallN 0 ks.length sp gV E0 tNil tk) := by
  obtain ⟨f, fd, F, G, hm, b⟩ := c.ex
  exact pe_callN0 G (hr.mono hk) hg hm F.kp (hb f fd F) pass0 hkw hall hks hdb hpl
end
section
variable {K : PySem.W.Frag} {S : MS} {δ : List SD} {k : Nat}
/-- all([..]) -/
theorem e_all {te : TE} {its : List PyData} {g : PyData → Bool} (h : Dt K S te δ (.dat (.list (its.map fun d => .bool (g d))))) : Dt K S (tCB (rAll K) (tCons te tNil)) δ (.b (its.all g)) := by
  have e : its.map (fun d => PyData.bool (g d)) = (its.map g).map PyData.bool := by rw [List.map_map]; rfl
  rw [e] at h
  refine (d_cb (da_cons h a_nil) rc_all).mono fun s hs => ?_
  rw [hs, List.all_map]
  rfl
theorem e_chain {r r' : R2} {ta tb tc : TE} {s1 s2 s3 : SD} {c d : Bool} (h1 : Dt K S ta δ s1) (h2 : Dt K S tb δ s2) (hr : RV K r s1 s2 (fun z => z = .b c)) (h3 : c = true → Dt K S tc δ s3) (hr' : c = true → RV K r' s2 s3 (fun z => z = .b d)) : Dt K S (tChain r r' ta tb tc) δ (.b (c && d)) :=
  fun q σ G H hq w Q hQ => h1 q σ G H hq w _ fun v s G2 H2 m2 w2 hv hs => h2 q σ G2 H2 (hq.mono m2.gr) w2 _ fun u s' G3 H3 m3 w3 hu hs' => by
    subst hs hs'
    refine hr v u G3 H3 (hv.mono m3.gr) hu w3.sub _ fun y z G4 H4 m4 hy hz => ?_
    subst hz
    cases hy
    have w4 := w3.pure m4
    have m04 := (m2.trans m3).trans (m4.weak (M' := S.M) fun _ f => f.elim)
    refine ⟨c, rfl, ?_⟩
    cases c with
    | false => exact iteF (hQ _ (.b false) G4 H4 m04 w4 (DD.bl _) rfl)
    | true =>
      refine iteT (h3 rfl q σ G4 H4 (hq.mono m04.gr) w4 _ fun x5 s5 G5 H5 m5 w5 h5 e5 => ?_)
      subst e5
      refine hr' rfl u x5 G5 H5 ((hu.mono m4.gr).mono m5.gr) h5 w5.sub Q fun y6 z6 G6 H6 m6 h6 e6 => ?_
      exact hQ y6 z6 G6 H6 ((m04.trans m5).trans (m6.weak fun _ f => f.elim)) (w5.pure m6) h6 e6
theorem e_repX {ta tb : TE} {ds : List PyData} {n : Int} (h1 : Dt K S ta δ (.dat (.tuple ds))) (h2 : Dt K S tb δ (.i n)) (hn : ds ≠ []) (h : 1 ≤ n ∧ n ≤ 1000) (hl : ds.length ≤ 1000) : Dt K S (tOp (rRepX K) ta tb) δ (.dat (.tuple (List.replicate n.toNat ds).flatten)) :=
  d_op h1 h2 fun x y G H hx hy hs Q hQ => by
    cases hy
    cases hx with
    | @tup a xs _ hh t =>
      have rep : ∀ m : Nat, DDs K G (List.replicate m xs).flatten (List.replicate m ds).flatten := fun m => by
        induction m with
        | zero => exact .nil
        | succ m ih =>
          rw [List.replicate_succ, List.replicate_succ, List.flatten_cons, List.flatten_cons]
          exact t.append ih
      refine ⟨a, n, xs, rfl, rfl, .inl (.inl (hs _ _ hh)), fun z => ?_, h.1, h.2, by rw [t.len]; exact hl, fun e => ?_, fun _ p np => hQ _ (.dat (.tuple _)) _ _ (Mv.new hs np) (DD.tup upd_same ((rep _).mono (Mv.new (M := fun _ => False) hs np).gr)) rfl⟩
      · subst z
        exact hn (List.eq_nil_of_length_eq_zero t.len.symm)
      · subst e
        refine hQ _ (.dat (.tuple ds)) G H (Mv.refl hs) (DD.tup hh t) ?_
        show _ = SD.dat (.tuple (ds ++ []))
        rw [List.append_nil]
theorem e_rep {ta tb : TE} {ds : List PyData} {n : Int} (h1 : Dt K S ta δ (.dat (.list ds))) (h2 : Dt K S tb δ (.i n)) (h : 0 ≤ n ∧ n ≤ 1000) (hl : ds.length ≤ 1000) : Dt K S (tOp rRep ta tb) δ (.dat (.list (List.replicate n.toNat ds).flatten)) :=
  d_op h1 h2 fun x y G H hx hy hs Q hQ => by
    cases hy
    cases hx with
    | @lst a xs _ hh t =>
      have rep : ∀ m : Nat, DDs K G (List.replicate m xs).flatten (List.replicate m ds).flatten := fun m => by
        induction m with
        | zero => exact .nil
        | succ m ih =>
          rw [List.replicate_succ, List.replicate_succ, List.flatten_cons, List.flatten_cons]
          exact t.append ih
      refine ⟨a, n, xs, rfl, rfl, hs _ _ hh, by omega, by omega, ?_, fun p np => hQ _ (.dat (.list _)) _ _ (Mv.new hs np) (DD.lst upd_same ((rep _).mono (Mv.new (M := fun _ => False) hs np).gr)) rfl⟩
      rw [t.len]
      exact Nat.le_trans (Nat.mul_le_mul hl (show n.toNat ≤ 1000 by omega)) (by decide)
end
/-! x == () -/
def rEqE (K : PySem.W.Frag) : R2 := fun x y H Q => ∃ a b xs, x = .ref a ∧ y = .ref b ∧ SqT K H a xs ∧ SqT K H b [] ∧ Q (.bl xs.isEmpty) H
theorem op_eqE {X : Cx} (hu : X.A.units + 64 < cLine) : OpR X (compareOp .Eq) (rEqE X.K) := by
  intro pins s σ H x y v u Q I rx ry h
  obtain ⟨a, b, xs, rfl, rfl, h1, h2, q⟩ := h
  cases rx
  cases ry
  obtain ⟨its, r, p, _⟩ := I.tuple h1
  obtain ⟨jts, r2, p2, _⟩ := I.tuple h2
  cases r2
  refine SeqAt.eq_tupleAt (e := fun _ => true) p p2 (by omega) (fun j h1 h2 => absurd h2 (by simp)) ⟨.bl xs.isEmpty, H, I, ?_, q⟩
  have e := r.length
  show Value.bool _ = Value.bool xs.isEmpty
  congr 1
  cases its with
  | nil =>
    cases xs with
    | nil => rfl
    | cons c l => cases e
  | cons i l =>
    cases xs with
    | nil => cases e
    | cons c m => simp
theorem e_eqE {K : PySem.W.Frag} {S : MS} {δ : List SD} {ta tb : TE} {ds : List PyData} (h1 : Dt K S ta δ (.dat (.tuple ds))) (h2 : Dt K S tb δ (.dat (.tuple []))) : Dt K S (tOp (rEqE K) ta tb) δ (.b ds.isEmpty) :=
  d_op h1 h2 fun x y G H hx hy hs Q hQ => by
    cases hx with
    | @tup a xs _ hh t =>
      cases hy with
      | @tup b ys _ hh2 t2 =>
        cases t2
        refine ⟨a, b, xs, rfl, rfl, .inl (.inl (hs _ _ hh)), .inl (.inl (hs _ _ hh2)), hQ _ (.b ds.isEmpty) G H (Mv.refl hs) ?_ rfl⟩
        have e : xs.isEmpty = ds.isEmpty := by
          have := t.len
          cases xs with
          | nil =>
            cases ds with
            | nil => rfl
            | cons c l => cases this
          | cons c l =>
            cases ds with
            | nil => cases this
            | cons c m => rfl
        rw [e]
        exact DD.bl _
/-! ## the box that draws -/
def bx (b : Addr) : MS where
  M := fun a => a = b
  inv := fun r H => ∃ c0 c1 c2 : Int, H b = some (.lst [.int c0, .int c1, .int c2]) ∧ 0 ≤ c0 ∧ 0 ≤ c1 ∧ c1 < 2 ^ 33 ∧ 0 ≤ c2 ∧ c2 + r ≤ 2 ^ 40
  dom := fun ⟨_, _, _, h, _⟩ e => by
    subst e
    exact ⟨_, h⟩
  fr := fun ⟨c0, c1, c2, h, q⟩ k => ⟨c0, c1, c2, k _ _ rfl h, q⟩
  dn := fun ⟨c0, c1, c2, h, a, b, c, d, e⟩ => ⟨c0, c1, c2, h, a, b, c, d, by omega⟩
/-- a def whose first argument is a box: P ds c Φ: with ds beside it, c draws at most, something of Φ -/
def spB (K : PySem.W.Frag) (P : List PyData → Nat → (PyData → Prop) → Prop) : Sp := fun vs H Q _ => ∃ b vs' G ds r c Φ, vs = .ref b :: vs' ∧ DDs K G vs' ds ∧ Wd (bx b) (r + c) G H ∧ P ds c Φ ∧ ∀ v d G2 H2, Mv (bx b).M G H G2 H2 → Wd (bx b) r G2 H2 → DD K G2 v d → Φ d → Q v H2
section
variable {K : PySem.W.Frag} {b : Addr} {δ : List SD} {k c : Nat} {Ψ : SD → Prop}
theorem e_callB {P : List PyData → Nat → (PyData → Prop) → Prop} {t : TA} {Φ : List SD → Prop} {E : XK} {i : Nat} (hi : δ[i]? = some (.ref b)) (ha : EvA K (bx b) t δ k Φ) (h : ∀ ss, Φ ss → ∃ ds Φ', dats ss ds ∧ P ds c Φ' ∧ ∀ d, Φ' d → Ψ (.dat d)) :
    Ev K (bx b) (tCall (spB K P) [] E (tCons (tVar i) t)) δ (k + c) Ψ := fun r σ G H q w Q hQ => by
  rcases q.2 i _ hi with z | ⟨v, e, hv⟩
  · cases z
  · cases (show v = V.ref b from hv)
    refine ⟨_, e, ha (r + c) σ G H q (w.eq (by omega)) _ fun vs ss G2 H2 m w2 hvs hs => ?_⟩
    obtain ⟨ds, Φ', hd, hp, hy⟩ := h ss hs
    rw [List.append_nil]
    exact ⟨b, vs, G2, ds, r, c, Φ', rfl, dats_dd hvs hd, w2, hp, fun v d G3 H3 m3 w3 dv hd => hQ v (.dat d) G3 H3 (m.trans m3) w3 dv (hy d hd)⟩
end
def startB (N : List Str) (b : Addr) (ds : List PyData) : List SD := .ref b :: (ds.map SD.dat ++ List.replicate (N.length - (ds.length + 1)) SD.unk)
theorem start_box {K : PySem.W.Frag} {G : Hp} {N : List Str} {b : Addr} {ds : List PyData} {vs : List V} (h : DDs K G vs ds) : SlD K G (L2.start N (.ref b :: vs)) (startB N b ds) := by
  have e := h.len
  refine ⟨by simp [L2.start, startB, e], fun i s hs => ?_⟩
  cases i with
  | zero =>
    cases hs
    exact .inr ⟨_, rfl, rfl⟩
  | succ i =>
    by_cases hi : i < ds.length
    · unfold startB at hs
      rw [List.getElem?_cons_succ, List.getElem?_append_left (by simpa using hi), List.getElem?_map] at hs
      obtain ⟨d, hd, rfl⟩ := Option.map_eq_some_iff.mp hs
      obtain ⟨v, hv, dv⟩ := h.got hd
      refine .inr ⟨v, ?_, dv⟩
      unfold L2.start
      rw [List.map_cons, List.cons_append, List.getElem?_cons_succ, List.getElem?_append_left (by rw [List.length_map]; omega), List.getElem?_map, hv]
      rfl
    · unfold startB at hs
      rw [List.getElem?_cons_succ, List.getElem?_append_right (by simpa using Nat.not_lt.mp hi), List.getElem?_replicate] at hs
      split at hs
      · exact .inl (Option.some.inj hs).symm
      · cases hs
section
variable {P : Program} {w : World} {K : PySem.W.Frag} {mg : Str → Option Value} {base : Heap}
theorem fn_box {x qual : Str} {st : Stmt} {f : Addr} {fd : FuncData} {N ps : List Str} {k : Nat} {R : List PyData → Nat → (PyData → Prop) → Prop} (F : Fun K x qual st f fd) (Sc : FnScope N ps (defScope st)) (len : ∀ ds c Φ, R ds c Φ → ds.length + 1 = ps.length)
    (body : ∀ (cdv : Value) (A : Around) (outer : List Env) (s : Shared) (H : Hp) (E : XK), Room k (A.deeper (envOfC qual (defScope st) s.heap.objs.size f cdv)) →
      ∃ t, PSs (cxOf CX0 P w K mg base N qual (defScope st) f cdv A outer s H E).nox (defBody st) t ∧ ∀ b ds c Φ, R ds c Φ → EvS K (bx b) t (startB N b ds) c { rt := fun z => ∃ d, z = .dat d ∧ Φ d }) : FnOk P w K mg base CX0 (k + 1) f fd ps (spB K R) := by
  refine F.ok Sc (fun vs H Q E h => ?_) (fun cdv A outer s H vs Q E hr h => ?_)
  · obtain ⟨b, vs', G, ds, r, c, Φ, rfl, dd, _, hp, _⟩ := h
    rw [List.length_cons, dd.len]
    exact len ds c Φ hp
  · obtain ⟨b, vs', G, ds, r, c, Φ, rfl, dd, hw, hp, q⟩ := h
    obtain ⟨t, ht, hb⟩ := body cdv A outer s H E hr
    refine ⟨t, ht, hb b ds c Φ hp r _ G H (start_box dd) hw _ (fun _ _ _ _ _ _ _ z => z.elim) (fun v z G2 H2 m w2 hv hz => ?_) (fun _ _ _ _ _ _ _ z => z.elim) (fun _ _ _ _ _ _ _ z => z.elim)⟩
    obtain ⟨d, rfl, hd⟩ := hz
    exact q v d G2 H2 m w2 hv hd
end
/-- what take promises -/
def Rtake : List PyData → Nat → (PyData → Prop) → Prop := fun ds c Φ => ∃ m : Int, ds = [.int m] ∧ 1 ≤ m ∧ m < 2 ^ 30 ∧ c = 1 ∧ Φ = fun d => ∃ i, d = .int i ∧ 0 ≤ i ∧ i < m
section
variable {K : PySem.W.Frag} {S : MS} {b : Addr} {δ : List SD} {k : Nat} {te : TE} {E : XK} {i : Nat}
theorem e_take {m : Int} (hi : δ[i]? = some (.ref b)) (h : Dt K (bx b) te δ (.i m)) (h1 : 1 ≤ m) (h2 : m < 2 ^ 30) : Ev K (bx b) (tCall (spB K Rtake) [] E (tCons (tVar i) (tCons te tNil))) δ 1 (fun s => ∃ j, s = .i j ∧ 0 ≤ j ∧ j < m) :=
  (e_callB (c := 1) hi (da_cons h a_nil) fun ss e => ⟨[.int m], _, e ▸ ⟨rfl, trivial⟩, ⟨m, rfl, h1, h2, rfl, rfl⟩, fun d ⟨j, e, h0, h1⟩ => ⟨j, by rw [e], h0, h1⟩⟩).up (by omega)
theorem e_takeE {lo hi' : Int} (hi : δ[i]? = some (.ref b)) (h : Ev K (bx b) te δ k (fun s => ∃ m, s = .i m ∧ lo ≤ m ∧ m ≤ hi')) (h1 : 1 ≤ lo) (h2 : hi' < 2 ^ 30) : Ev K (bx b) (tCall (spB K Rtake) [] E (tCons (tVar i) (tCons te tNil))) δ (k + 1) (fun s => ∃ j, s = .i j ∧ 0 ≤ j ∧ j < hi') :=
  (e_callB (c := 1) hi (a_cons (k' := 0) (Φ' := fun _ l => l = []) h fun _ _ => a_nil) fun ss ⟨s, l, e, ⟨m, em, m1, m2⟩, el⟩ => by
    subst e em el
    exact ⟨[.int m], _, ⟨rfl, trivial⟩, ⟨m, rfl, by omega, by omega, rfl, rfl⟩, fun d ⟨j, e, h0, h1⟩ => ⟨j, by rw [e], h0, by omega⟩⟩).up (by omega)
theorem s_end {t u : TS} {O : Out} (h : EvS K S t δ k { O with nx := fun _ => False }) : EvS K S (tSeq t u) δ k O := (s_seq (N := fun _ => False) (k' := 0) h fun _ z => z.elim).up (by omega)
theorem ints_of {p : Int → Prop} : ∀ {ds : List PyData}, (∀ d ∈ ds, ∃ i, d = .int i ∧ p i) → ∃ ns : List Int, ds = ns.map .int ∧ ∀ n ∈ ns, p n
  | [], _ => ⟨[], rfl, fun n h => by cases h⟩
  | d :: ds, h => by
    obtain ⟨i, rfl, hp⟩ := h d (List.mem_cons_self ..)
    obtain ⟨ns, rfl, hn⟩ := ints_of fun e he => h e (List.mem_cons_of_mem _ he)
    refine ⟨i :: ns, rfl, fun n hm => ?_⟩
    rcases List.mem_cons.mp hm with rfl | hm
    · exact hp
    · exact hn n hm
theorem idx_mem {p : PyData → Prop} {ds : List PyData} (h : ∀ (j : Nat) (d : PyData), ds[j]? = some d → p d) : ∀ d ∈ ds, p d := fun d hd => by
  obtain ⟨j, hj⟩ := List.mem_iff_getElem?.mp hd
  exact h j d hj
end
/-! the rules with K told (within a comprehension the place's own K hides it) -/
section
variable {X : Cx} {K : PySem.W.Frag}
theorem ki_isi (h : X.K = K) : CallR X (.builtin "isinstance") (rIsi K) := by
  subst h
  exact call_isi
theorem ki_isiT (h : X.K = K) : CallR X (.builtin "isinstance") (rIsiT K) := by
  subst h
  exact call_isiT
theorem ki_len (h : X.K = K) : CallR X (.builtin "len") (fun xs H Q => ∃ p ys, xs = [.ref p] ∧ (SqL K H p ys ∨ SqT K H p ys) ∧ Q (.int ys.length) H) := by
  subst h
  exact call_len_seq
theorem ki_list (h : X.K = K) : CallR X (.type "list") (fun xs H Q => ∃ p ys, xs = [.ref p] ∧ (SqL K H p ys ∨ SqT K H p ys) ∧ ∀ l, H l = none → Q (.ref l) (upd H l (.lst ys))) := by
  subst h
  exact call_list_of
theorem ki_tuple (h : X.K = K) : CallR X (.type "tuple") (fun xs H Q => ∃ p ys, xs = [.ref p] ∧ ((SqL K H p ys ∧ ∀ l, H l = none → Q (.ref l) (upd H l (.tup ys))) ∨ (SqT K H p ys ∧ Q (.ref p) H))) := by
  subst h
  exact call_tuple_of
theorem ki_all (h : X.K = K) (hc : X.calm = true) : CallR X (.builtin "all") (rAll K) := by
  subst h
  exact cr_all hc
theorem ki_ixL (h : X.K = K) : IxR X (rIxL K) := by
  subst h
  exact ix_list
theorem ki_ixT (h : X.K = K) : IxR X (rIxT K) := by
  subst h
  exact ix_tup
theorem ki_catT (h : X.K = K) : OpR X (binaryOp .Add) (rCatT K) := by
  subst h
  exact op_catT
theorem ki_repX (h : X.K = K) : OpR X (binaryOp .Mult) (rRepX K) := by
  subst h
  exact op_repX
theorem ki_eqD (h : X.K = K) (hu : X.A.units + 64 < cLine) : OpR X (compareOp .Eq) (rEqD K) := by
  subst h
  exact op_eqD hu
theorem ki_neD (h : X.K = K) (hu : X.A.units + 64 < cLine) : OpR X (compareOp .NotEq) (rNeD K) := by
  subst h
  exact op_neD hu
end
theorem d_un {K : PySem.W.Frag} {S : MS} {δ : List SD} {ta : TE} {g : Int → V} {i : Int} {d : PyData} (h : Dt K S ta δ (.i i)) (hd : ∀ G, DD K G (g i) d) : Dt K S (tUn (rU g) ta) δ (.dat d) := fun r σ G H q w Q hQ => h r σ G H q w _ fun v s G2 H2 m w2 hv hs => by
  subst hs
  cases hv
  exact ⟨i, rfl, hQ _ (.dat d) G2 H2 m w2 (hd G2) rfl⟩
theorem atI_in {α : Type} {ds : List α} {j : Int} (h0 : 0 ≤ j) (h1 : j < ds.length) : ∃ d, atI ds j = some d ∧ d ∈ ds := by
  obtain ⟨n, rfl⟩ := Int.eq_ofNat_of_zero_le h0
  have hn : n < ds.length := by omega
  exact ⟨ds[n], atI_nat (List.getElem?_eq_getElem hn), List.getElem_mem hn⟩
theorem RV.mono {K : PySem.W.Frag} {r : R2} {s s' : SD} {Ψ Ψ' : SD → Prop} (h : RV K r s s' Ψ) (i : ∀ z, Ψ z → Ψ' z) : RV K r s s' Ψ' := fun x y G H hx hy hs Q hQ => h x y G H hx hy hs Q fun v z G2 H2 m hv hz => hQ v z G2 H2 m hv (i z hz)
theorem RC.mono {K : PySem.W.Frag} {r : List V → Hp → VK → Prop} {ss : List SD} {Ψ Ψ' : SD → Prop} (h : RC K r ss Ψ) (i : ∀ z, Ψ z → Ψ' z) : RC K r ss Ψ' := fun vs G H hv hs Q hQ => h vs G H hv hs Q fun v z G2 H2 m hv hz => hQ v z G2 H2 m hv (i z hz)
section
variable {K : PySem.W.Frag} {S : MS} {δ : List SD} {k k' : Nat} {tt tu : TT} {t u : TS} {O : Out}
theorem t_andE {Φ1 Φ2 : Bool → Prop} (h1 : EvT K S tt δ k Φ1) (h2 : Φ1 true → EvT K S tu δ k' Φ2) : EvT K S (tAnd tt tu) δ (k + k') (fun x => (x = false ∧ Φ1 false) ∨ (Φ1 true ∧ Φ2 x)) :=
  fun r σ G H q w Q hQ => h1 (r + k') σ G H q (w.eq (by omega)) _ fun e G2 H2 m w2 hs => by
    cases e with
    | true => exact iteT (h2 hs r σ G2 H2 (q.mono m.gr) w2 Q fun f G3 H3 m3 w3 hf => hQ f G3 H3 (m.trans m3) w3 (.inr ⟨hs, hf⟩))
    | false => exact iteF (hQ false G2 H2 m (Wd.dn (j := k') w2) (.inl ⟨rfl, hs⟩))
theorem s_ifE0 {Φ : Bool → Prop} (h : EvT K S tt δ k Φ) (h1 : Φ true → EvS K S (tSeq t u) δ k' O) (h2 : Φ false → EvS K S u δ k' O) : EvS K S (tSeq (tIfS tt t tNext) u) δ (k + k') O :=
  fun r σ G H q w D a b e f => h (r + k') σ G H q (w.eq (by omega)) _ fun x G2 H2 m w2 hs => by
    cases x with
    | true => exact iteT (h1 hs r σ G2 H2 (q.mono m.gr) w2 D (fun x y z f m3 => a x y z f (m.trans m3)) (fun x y z f m3 => b x y z f (m.trans m3)) (fun x y z f m3 => e x y z f (m.trans m3)) (fun x y z g m3 => f x y z g (m.trans m3)))
    | false => exact iteF (h2 hs r σ G2 H2 (q.mono m.gr) w2 D (fun x y z f m3 => a x y z f (m.trans m3)) (fun x y z f m3 => b x y z f (m.trans m3)) (fun x y z f m3 => e x y z f (m.trans m3)) (fun x y z g m3 => f x y z g (m.trans m3)))
/-- a test of a drawn number against a written one -/
theorem t_draw {ta tb : TE} {g : Int → Int → Bool} {c : Int} {m : Int} (h : Ev K S ta δ k (fun s => ∃ j, s = .i j ∧ 0 ≤ j ∧ j < m)) (hb : Dt K S tb δ (.i c)) : EvT K S (tTest (tOp (rI0 fun i j => .bl (g i j)) ta tb)) δ k (fun x => ∃ j, 0 ≤ j ∧ j < m ∧ x = g j c) :=
  t_testE ((e_op (k' := 0) (Φ' := fun _ s => s = .i c) h (fun _ _ => hb) fun s s' ⟨j, e, h0, h1⟩ e' => by
    subst e e'
    exact (rv_I0 fun _ => DD.bl _).mono fun z e => ⟨_, e, j, h0, h1, rfl⟩).up (by omega))
end
section
variable {K : PySem.W.Frag} {S : MS} {δ : List SD} {k k' : Nat}
/-- a, b, c = e, f, list(x): the list is one's own, not known yet -/
theorem par3_own {ta tb tx : TE} {u : TS} {Φ : SD → Prop} {Φ' : SD → SD → Prop} {d : PyData} {xs : List PyData} {i j m r : Nat} {σ : L2.St} {G H : Hp} {D : Ends} (ha : Ev K S ta δ k Φ) (hb : ∀ s, Φ s → Ev K S tb δ k' (Φ' s)) (hx : Dt K S tx δ (.dat d)) (hs : IsSeq d xs) (q : SlD K G σ δ) (w : Wd S (r + (k + k')) G H)
    (hu : ∀ s s' G2 H2 l ys σ2, Φ s → Φ' s s' → Mv S.M G H G2 H2 → Wd S r G2 H2 → H2 l = some (.lst ys) → G2 l = none → H l = none → ¬ S.M l → DDs K G2 ys xs → SlD K G2 σ2 (((δ.set i s).set j s').set m (.ref l)) → u D σ2 H2) :
    tSeq (tPar3 i j m (tCons ta (tCons tb (tCons (tCB (fun xs H Q => ∃ p ys, xs = [.ref p] ∧ (SqL K H p ys ∨ SqT K H p ys) ∧ ∀ l, H l = none → Q (.ref l) (upd H l (.lst ys))) (tCons tx tNil)) tNil)))) u D σ H := by
  refine ha (r + k') σ G H q (w.eq (by omega)) _ fun v1 s1 G1 H1 m1 w1 hv1 h1 => ?_
  refine hb s1 h1 r σ G1 H1 (q.mono m1.gr) w1 _ fun v2 s2 G2 H2 m2 w2 hv2 h2 => ?_
  refine hx r σ G2 H2 ((q.mono m1.gr).mono m2.gr) w2 _ fun v3 s3 G3 H3 m3 w3 hv3 h3 => ?_
  subst h3
  have sq : ∃ a ys, v3 = .ref a ∧ (SqL K H3 a ys ∨ SqT K H3 a ys) ∧ DDs K G3 ys xs := by
    rcases hs with rfl | rfl
    · cases hv3 with
      | @lst a ys _ hh t => exact ⟨a, ys, rfl, .inl (.inl (.inl (w3.sub _ _ hh))), t⟩
    · cases hv3 with
      | @tup a ys _ hh t => exact ⟨a, ys, rfl, .inr (.inl (.inl (w3.sub _ _ hh))), t⟩
  obtain ⟨a, ys, rfl, hq, dd⟩ := sq
  refine ⟨a, ys, rfl, hq, fun l nl => ⟨v1, v2, .ref l, rfl, ?_⟩⟩
  have nG : G3 l = none := by
    cases e : G3 l with
    | none => rfl
    | some o =>
      rw [w3.sub l o e] at nl
      cases nl
  have nM : ¬ S.M l := fun z => by
    obtain ⟨o, e⟩ := S.dom w3.inv z
    rw [e] at nl
    cases nl
  have mm := (m1.trans m2).trans m3
  have n0 : H l = none := by
    cases e : H l with
    | none => rfl
    | some o =>
      obtain ⟨o', e'⟩ := mm.dom l o e
      rw [e'] at nl
      cases nl
  exact hu s1 s2 G3 (upd H3 l (.lst ys)) l ys _ h1 h2 (mm.loc n0 nG) (w3.loc nG nM) upd_same nG n0 nM dd ((((q.mono mm.gr).set ((hv1.mono m2.gr).mono m3.gr) i).set (hv2.mono m3.gr) j).set (s := .ref l) rfl m)
theorem SlD.ref {G : Hp} {σ : L2.St} {i : Nat} {b : Addr} (q : SlD K G σ δ) (h : δ[i]? = some (.ref b)) : σ[i]? = some (some (.ref b)) := by
  rcases q.2 i _ h with z | ⟨v, e, hv⟩
  · cases z
  · cases (show v = V.ref b from hv)
    exact e
theorem SlD.int {G : Hp} {σ : L2.St} {i : Nat} {n : Int} (q : SlD K G σ δ) (h : δ[i]? = some (.i n)) : σ[i]? = some (some (.int n)) := by
  rcases q.2 i _ h with z | ⟨v, e, hv⟩
  · cases z
  · cases hv
    exact e
theorem SlD.dat {G : Hp} {σ : L2.St} {i : Nat} {d : PyData} (q : SlD K G σ δ) (h : δ[i]? = some (.dat d)) : ∃ v, σ[i]? = some (some v) ∧ DD K G v d := by
  rcases q.2 i _ h with z | ⟨v, e, hv⟩
  · cases z
  · exact ⟨v, e, hv⟩
end
section
variable {K : PySem.W.Frag} {S : MS} {δ : List SD} {k : Nat} {te : TE}
theorem rc_str {i : Int} (h : i.natAbs.log2 < 1920) : RC K (fun xs H Q => ∃ i : Int, xs = [.int i] ∧ i.natAbs.log2 < 1920 ∧ Q (.str (toString i)) H) [.i i] (fun z => z = .dat (.str (toString i))) := fun vs G H hv hs Q hQ => by
  obtain ⟨v, rfl, hx⟩ := vds1 hv
  cases hx
  exact ⟨i, rfl, h, hQ _ (.dat (.str _)) G H (Mv.refl hs) (DD.str _) rfl⟩
theorem ofString_len (s : String) : (Str.ofString s).length ≤ s.length := by
  rw [PySem.ofString_length]
  exact Nat.le_refl _
theorem rc_strE {i : Int} (h : i.natAbs < 10 ^ 40) : RC K (fun xs H Q => ∃ i : Int, xs = [.int i] ∧ i.natAbs.log2 < 1920 ∧ Q (.str (toString i)) H) [.i i] (fun z => ∃ y : Str, z = .dat (.str y) ∧ y.length ≤ 50) :=
  (rc_str (Nat.lt_of_lt_of_le (PySem.Flt.log2_lt_of (by decide) (show i.natAbs < 2 ^ 140 by omega)) (by decide))).mono fun z e => ⟨_, e, by
    have h1 : (toString i).length ≤ 40 + 1 := int_text_length_le10 (by decide) h
    exact Nat.le_trans (ofString_len _) (by omega)⟩
theorem rv_addS {x y : Str} (h : x.length + y.length ≤ 1000000) : RV K (fun x y H Q => ∃ i j, x = .str i ∧ y = .str j ∧ i.length + j.length ≤ sizeLine ∧ Q (.str (i ++ j)) H) (.dat (.str x)) (.dat (.str y)) (fun z => z = .dat (.str (x ++ y))) := fun u v G H hu hv hs Q hQ => by
  cases hu
  cases hv
  exact ⟨x, y, rfl, rfl, Nat.le_trans h (by decide), hQ _ (.dat (.str _)) G H (Mv.refl hs) (DD.str _) rfl⟩
theorem d_slS {z : Str} {n : Int} {ti : TE} (h : Dt K S te δ (.dat (.str z))) (hi : Dt K S ti δ (.i n)) (hz : z.length ≤ 1000000) : Dt K S (tSl rSlS te (tPart ti) tNoPart) δ (.dat (.str (cutS z (some n) none))) := fun r σ G H q w Q hQ => h r σ G H q w _ fun v s G2 H2 m w2 hv hs => hi r σ G2 H2 (q.mono m.gr) w2 _ fun u s' G3 H3 m3 w3 hu hs' => by
  subst hs hs'
  cases hv
  cases hu
  exact ⟨n, rfl, z, rfl, Nat.le_trans hz (by decide), hQ _ (.dat (.str _)) G3 H3 (m.trans m3) w3 (DD.str _) rfl⟩
theorem d_lower {z : Str} (h : Dt K S te δ (.dat (.str z))) (hz : z.length ≤ 1000000) : Dt K S (tBM0 K "str" (fun x xs H Q => ∃ a, x = .str a ∧ xs = [] ∧ a.length ≤ 5592405 ∧ Q (.str (Txt.lower a)) H) te) δ (.dat (.str (Txt.lower z))) := fun r σ G H q w Q hQ => h r σ G H q w _ fun v s G2 H2 m w2 hv hs => by
  subst hs
  cases hv
  exact ⟨rfl, z, rfl, rfl, by omega, hQ _ (.dat (.str _)) G2 H2 m w2 (DD.str _) rfl⟩
theorem e_revS {z : Str} (h : Dt K S te δ (.dat (.str z))) (hz : z.length ≤ 1000000) : Ev K S (tRevS te) δ 0 (fun s => ∃ y : Str, s = .dat (.str y) ∧ y.length ≤ z.length) := fun r σ G H q w Q hQ => h r σ G H q w _ fun v s G2 H2 m w2 hv hs => by
  subst hs
  cases hv
  exact ⟨z, rfl, Nat.le_trans hz (by decide), fun y hy => hQ _ (.dat (.str y)) G2 H2 m w2 (DD.str _) ⟨y, rfl, hy⟩⟩
theorem str_add_len (x y : Str) : (x ++ y).length = x.length + y.length := by
  show (x.cps ++ y.cps).size = _
  rw [Array.size_append]
  rfl
end
section
variable {K : PySem.W.Frag} {S : MS} {δ : List SD} {k : Nat} {ta : TE} {tr : TA} {s : SD} {Φ : List SD → Prop}
/-- one that is known, then the rest -/
theorem ak_cons (ha : Dt K S ta δ s) (hr : EvA K S tr δ k Φ) : EvA K S (tCons ta tr) δ k (fun ss => ∃ l, ss = s :: l ∧ Φ l) := fun r σ G H q w Q hQ => ha (r + k) σ G H q w _ fun v z G2 H2 m w2 hv hz => hr r σ G2 H2 (q.mono m.gr) w2 _ fun vs ss G3 H3 m3 w3 hvs hss => by
  subst hz
  exact hQ _ (z :: ss) G3 H3 (m.trans m3) w3 (.cons (hv.mono m3.gr) hvs) ⟨ss, rfl, hss⟩
/-- one that is drawn, the last one -/
theorem a_last {Ψ : SD → Prop} (ha : Ev K S ta δ k Ψ) : EvA K S (tCons ta tNil) δ k (fun ss => ∃ z, ss = [z] ∧ Ψ z) := fun r σ G H q w Q hQ => ha r σ G H q w _ fun v z G2 H2 m w2 hv hz => hQ _ [z] G2 H2 m w2 (.cons hv .nil) ⟨z, rfl, hz⟩
end
section
variable {K : PySem.W.Frag} {S : MS} {δ : List SD} {k : Nat} {O : Out}
theorem s_par {ta : TA} {i j : Nat} {Φ : List SD → Prop} (h : EvA K S ta δ k Φ) (hn : ∀ ss, Φ ss → ∃ s s', ss = [s, s'] ∧ O.nx ((δ.set i s).set j s')) : EvS K S (tPar i j ta) δ k O :=
  fun r σ G H q w D a _ _ _ => h r σ G H q w _ fun vs ss G2 H2 m w2 hv hs => by
    obtain ⟨s, s', rfl, hx⟩ := hn ss hs
    obtain ⟨v, u, rfl, h1, h2⟩ := vds2 hv
    exact ⟨v, u, rfl, a _ _ G2 H2 m w2 (((q.mono m.gr).set h1 i).set h2 j) hx⟩
end
end DL

namespace K00
open PySem PySem.Spec PyProof.Rows L2 ZX DL
def topS (i : Nat) : Stmt := PySem.Challenge.pw_breathrows_k00_what_rooms_and_standings.main.body.getD i (.Pass ⟨0, 0, 0, 0⟩)
abbrev s_is_number : Stmt := topS 1
abbrev N_is_number : List Str := ["thing"]
theorem c_is_number : FnScope N_is_number ["thing"] (defScope s_is_number) := ⟨rfl, rfl, rfl, by decide +kernel, rfl, by decide +kernel, by decide +kernel⟩
abbrev s_is_rooms : Stmt := topS 2
abbrev N_is_rooms : List Str := ["thing", "room"]
theorem c_is_rooms : FnScope N_is_rooms ["thing"] (defScope s_is_rooms) := ⟨rfl, rfl, rfl, by decide +kernel, rfl, by decide +kernel, by decide +kernel⟩
abbrev s_is_standing : Stmt := topS 3
abbrev N_is_standing : List Str := ["rooms", "thing", "room", "many"]
theorem c_is_standing : FnScope N_is_standing ["rooms", "thing"] (defScope s_is_standing) := ⟨rfl, rfl, rfl, by decide +kernel, rfl, by decide +kernel, by decide +kernel⟩
abbrev s_bare : Stmt := topS 4
abbrev N_bare : List Str := ["rooms"]
theorem c_bare : FnScope N_bare ["rooms"] (defScope s_bare) := ⟨rfl, rfl, rfl, by decide +kernel, rfl, by decide +kernel, by decide +kernel⟩
abbrev s_full : Stmt := topS 5
abbrev N_full : List Str := ["rooms"]
theorem c_full : FnScope N_full ["rooms"] (defScope s_full) := ⟨rfl, rfl, rfl, by decide +kernel, rfl, by decide +kernel, by decide +kernel⟩
abbrev s_lacking : Stmt := topS 6
abbrev N_lacking : List Str := ["rooms", "standing", "room", "many"]
theorem c_lacking : FnScope N_lacking ["rooms", "standing"] (defScope s_lacking) := ⟨rfl, rfl, rfl, by decide +kernel, rfl, by decide +kernel, by decide +kernel⟩
abbrev s_L_box : Stmt := topS 8
abbrev N_L_box : List Str := ["_law_script", "_law_k", "_law_cell"]
theorem c_L_box : FnScope N_L_box ["_law_script", "_law_k"] (defScope s_L_box) := ⟨rfl, rfl, rfl, by decide +kernel, rfl, by decide +kernel, by decide +kernel⟩
abbrev s_L_take : Stmt := topS 9
abbrev N_L_take : List Str := ["_law_box_here", "_law_bound", "_law_found", "_law_once"]
theorem c_L_take : FnScope N_L_take ["_law_box_here", "_law_bound"] (defScope s_L_take) := ⟨rfl, rfl, rfl, by decide +kernel, rfl, by decide +kernel, by decide +kernel⟩
abbrev s_L_same : Stmt := topS 10
abbrev N_L_same : List Str := ["_law_found", "_law_due", "_law_one", "_law_two"]
theorem c_L_same : FnScope N_L_same ["_law_found", "_law_due"] (defScope s_L_same) := ⟨rfl, rfl, rfl, by decide +kernel, rfl, by decide +kernel, by decide +kernel⟩
abbrev s_L_rooms : Stmt := topS 11
abbrev N_L_rooms : List Str := ["_law_box_here", "_law_most", "_law_many", "_law_place"]
theorem c_L_rooms : FnScope N_L_rooms ["_law_box_here", "_law_most"] (defScope s_L_rooms) := ⟨rfl, rfl, rfl, by decide +kernel, rfl, by decide +kernel, by decide +kernel⟩
abbrev s_L_standing : Stmt := topS 12
abbrev N_L_standing : List Str := ["_law_box_here", "_law_homes", "_law_room"]
theorem c_L_standing : FnScope N_L_standing ["_law_box_here", "_law_homes"] (defScope s_L_standing) := ⟨rfl, rfl, rfl, by decide +kernel, rfl, by decide +kernel, by decide +kernel⟩
abbrev s_L_odd : Stmt := topS 13
abbrev N_L_odd : List Str := ["_law_box_here", "_law_some"]
theorem c_L_odd : FnScope N_L_odd ["_law_box_here"] (defScope s_L_odd) := ⟨rfl, rfl, rfl, by decide +kernel, rfl, by decide +kernel, by decide +kernel⟩
abbrev s_L_otherwise : Stmt := topS 14
abbrev N_L_otherwise : List Str := ["_law_box_here", "_law_item", "_law_at", "_law_way", "_law_some"]
theorem c_L_otherwise : FnScope N_L_otherwise ["_law_box_here", "_law_item"] (defScope s_L_otherwise) := ⟨rfl, rfl, rfl, by decide +kernel, rfl, by decide +kernel, by decide +kernel⟩
abbrev s_L_are_rooms : Stmt := topS 15
abbrev N_L_are_rooms : List Str := ["_law_item", "_law_one"]
theorem c_L_are_rooms : FnScope N_L_are_rooms ["_law_item"] (defScope s_L_are_rooms) := ⟨rfl, rfl, rfl, by decide +kernel, rfl, by decide +kernel, by decide +kernel⟩
abbrev s_L_stands : Stmt := topS 16
abbrev N_L_stands : List Str := ["_law_homes", "_law_item", "_law_room", "_law_one"]
theorem c_L_stands : FnScope N_L_stands ["_law_homes", "_law_item"] (defScope s_L_stands) := ⟨rfl, rfl, rfl, by decide +kernel, rfl, by decide +kernel, by decide +kernel⟩
abbrev s_L_right : Stmt := topS 17
abbrev N_L_right : List Str := ["_law_box_here", "_law_place", "_law_lies", "_law_turn", "_law_one", "_law_two", "_law_told", "_law_due", "_law_lacks", "_law_odd_here", "_law_room", "_law_many", "_law_item"]
theorem c_L_right : FnScope N_L_right ["_law_box_here"] (defScope s_L_right) := ⟨rfl, rfl, rfl, by decide +kernel, rfl, by decide +kernel, by decide +kernel⟩
abbrev s_law : Stmt := topS 18
abbrev N_law : List Str := ["_law_script", "_law_k"]
theorem c_law : FnScope N_law ["_law_script"] (defScope s_law) := ⟨rfl, rfl, rfl, by decide +kernel, rfl, by decide +kernel, by decide +kernel⟩

/-! ### the mathematics: what things are -/
def isNum (d : PyData) : Bool := isI d && !isB d
def ge1 : PyData → Bool
  | .int i => decide (1 ≤ i)
  | _ => false
def areRooms : PyData → Bool
  | .tuple ds => !ds.isEmpty && ds.all fun d => isNum d && ge1 d
  | _ => false
def inR : PyData → PyData → Bool
  | .int n, .int i => decide (0 ≤ i) && decide (i ≤ n)
  | _, _ => false
def fitB : PyData → Bool
  | .tuple [n, d] => isNum d && inR n d
  | _ => false
def standsB (ns : List Int) : PyData → Bool
  | .tuple ds => decide (ds.length = ns.length) && (zipD (ns.map .int) ds).all fitB
  | _ => false
def Sz : PyData → Prop
  | .tuple ds => ds.length ≤ 100000
  | _ => True
def Rnum : List PyData → PyData → Prop := fun ds d => ∃ x, ds = [x] ∧ d = .bool (isNum x)
def Rrooms : List PyData → PyData → Prop := fun ds d => ∃ x, ds = [x] ∧ Sz x ∧ d = .bool (areRooms x)
def Rstands : List PyData → PyData → Prop := fun ds d => ∃ r x ns, ds = [r, x] ∧ IsSeq r (ns.map .int) ∧ Sz x ∧ d = .bool (standsB ns x)
def Rbare : List PyData → PyData → Prop := fun ds d => ∃ (r : PyData) (ns : List Int), ds = [r] ∧ IsSeq r (ns.map .int) ∧ ns ≠ [] ∧ ns.length ≤ 1000 ∧ d = .tuple (List.replicate ns.length (.int 0))
def Rfull : List PyData → PyData → Prop := fun ds d => ∃ (r : PyData) (l : List PyData), ds = [r] ∧ IsSeq r l ∧ d = .tuple l
def Rlack : List PyData → PyData → Prop := fun ds d => ∃ (r x : PyData) (ns ms : List Int), ds = [r, x] ∧ IsSeq r (ns.map .int) ∧ IsSeq x (ms.map .int) ∧ ns.length ≤ 1000 ∧ ms.length = ns.length ∧ d = .tuple ((List.zipWith (fun n m => n - m) ns ms).map .int)
/-- data of at most so many levels, told alike by same -/
def Pl : Nat → PyData → Prop
  | _, .none => True
  | _, .bool _ => True
  | _, .int _ => True
  | _, .str x => PyData.strOk x = true
  | 0, .list _ => False
  | 0, .tuple _ => False
  | n + 1, .list xs => xs.length ≤ 100000 ∧ ∀ y ∈ xs, Pl n y
  | n + 1, .tuple xs => xs.length ≤ 100000 ∧ ∀ y ∈ xs, Pl n y
  | _, .dict _ => False
def Rsame (n : Nat) : List PyData → PyData → Prop := fun ds d => ∃ x, ds = [x, x] ∧ Pl n x ∧ d = .bool true
theorem zip_fst {ns : List Int} {ds : List PyData} {j : Nat} {d : PyData} (h : (zipD (ns.map .int) ds)[j]? = some d) : ∃ (n : Int) (e : PyData), d = .tuple [.int n, e] ∧ ds[j]? = some e ∧ ns[j]? = some n := by
  unfold zipD at h
  rw [List.getElem?_zipWith, List.getElem?_map] at h
  cases h1 : ns[j]? with
  | none =>
    rw [h1] at h
    cases h
  | some n =>
    cases h2 : ds[j]? with
    | none =>
      rw [h1, h2] at h
      cases h
    | some e =>
      rw [h1, h2] at h
      exact ⟨n, e, (Option.some.inj h).symm, rfl, rfl⟩
/-- slots told in the long way -/
theorem slots2 (x y : PyData) (u v : SD) (h : True) : True := trivial
structure Bi (mg : Str → Option Value) : Prop where
  n_len : mg "len" = none
  n_isinstance : mg "isinstance" = none
  n_all : mg "all" = none
  n_zip : mg "zip" = none
  n_range : mg "range" = none
  n_min : mg "min" = none
  n_max : mg "max" = none
  n_abs : mg "abs" = none
  n_int : mg "int" = none
  n_bool : mg "bool" = none
  n_str : mg "str" = none
  n_list : mg "list" = none
  n_tuple : mg "tuple" = none
section
variable {P : Program} {w : World} {K : PySem.W.Frag} {mg : Str → Option Value} {base : Heap} {f : Addr} {fd : FuncData}
/-! ### take -/
theorem ok_take (B : Bi mg) (F : Fun K "_law_take" "_law_take" s_L_take f fd) : FnOk P w K mg base CX0 1 f fd ["_law_box_here", "_law_bound"] (spB K Rtake) := by
  refine F.ok c_L_take (fun vs H Q E h => ?_) (fun cdv A outer s H vs Q E hr h => ?_)
  · obtain ⟨b, vs', G, ds, r, c, Φ, rfl, dd, _, ⟨m, rfl, _⟩, _⟩ := h
    rw [List.length_cons, dd.len]
    rfl
  · obtain ⟨b, vs', G, ds, r, c, Φ, rfl, dd, hw, ⟨m, rfl, m1, m2, rfl, rfl⟩, q⟩ := h
    cases dd with
    | cons d0 dn =>
    cases dn
    cases d0
    obtain ⟨c0, c1, c2, hb, p0, p1, p2, p3, p4⟩ := hw.inv
    have nG : G b = none := hw.no b rfl
    have fin : ∀ (d0 d2 i : Int), 0 ≤ d0 → 0 ≤ d2 → d2 + r ≤ 2 ^ 40 → 0 ≤ i → i < m → Q (.int i) (upd H b (.lst [.int d0, .int c1, .int d2])) := fun d0 d2 i a1 a2 a3 a4 a5 => by
      refine q _ (.int i) G _ ⟨fun _ _ e => e, fun a o e => ?_, fun _ _ _ => rfl, fun a o e n => ?_, fun a o e => ?_⟩ ⟨fun a o e => ?_, hw.no, ⟨d0, c1, d2, upd_same, a1, p1, p2, a2, a3⟩⟩ (.int i) ⟨i, rfl, a4, a5⟩
      · rw [upd_ne (ne_of_none e nG)]
        exact hw.sub a o e
      · rw [upd_ne n]
        exact e
      · by_cases ea : a = b
        · exact ⟨_, by rw [ea]; exact upd_same⟩
        · exact ⟨o, by rw [upd_ne ea]; exact e⟩
      · rw [upd_ne (ne_of_none e nG)]
        exact hw.sub a o e
    refine ⟨_, (pss_cons (ps_if (pt_cmpR op_gt (pe_ix ix_list (pv 0) pe_int (fun _ _ => rfl)) pe_int (nomark _)) (pss_cons (ps_set (i := 2) c_L_take.nd rfl (.inl rfl) (pe_op op_modN (pe_ix ix_list (pv 0) pe_int (fun _ _ => rfl)) (pv 1)))
      (pss_cons (ps_asg (pe_op op_fdivW (pe_ix ix_list (pv 0) pe_int (fun _ _ => rfl)) (pv 1)) (pg_sub (pv 0) pe_int set_list))
      (pss_one (ps_ret (pv 2))))) pss_nil)
      (pss_cons (ps_asg (pe_op op_add (pe_ix ix_list (pv 0) pe_int (fun _ _ => rfl)) pe_int) (pg_sub (pv 0) pe_int set_list))
      (pss_cons (ps_set (i := 3) c_L_take.nd rfl (.inl rfl) (pe_op op_modN (pe_op op_pow (pe_op op_add (pe_ix ix_list (pv 0) pe_int (fun _ _ => rfl)) (pe_op op_mul pe_int (pe_ix ix_list (pv 0) pe_int (fun _ _ => rfl)))) pe_int) pe_int))
      (pss_one (ps_ret (pe_op op_modN (pe_op op_fdivW (pe_op op_modN (pe_op op_add (pe_op op_mul (pv 3) (pe_op op_add (pe_op op_modN (pv 3) pe_int) pe_int)) (pe_op op_mul (pe_ix ix_list (pv 0) pe_int (fun _ _ => rfl)) pe_int)) pe_int) pe_int) (pv 1))))))), ?_⟩
    have hS : SqL K H b [.int c0, .int c1, .int c2] := .inl (.inl hb)
    refine ⟨.ref b, rfl, b, _, 0, .int c0, rfl, rfl, hS, rfl, c0, 0, rfl, rfl, _, rfl, ite2 (fun e => ?_) (fun e => ?_)⟩
    · have e0 : 0 < c0 := of_decide_eq_true e
      refine ⟨.ref b, rfl, b, _, 0, .int c0, rfl, rfl, hS, rfl, .int m, rfl, c0, m, rfl, rfl, by omega, ?_⟩
      refine ⟨.ref b, rfl, b, _, 0, .int c0, rfl, rfl, hS, rfl, .int m, rfl, c0, m, rfl, rfl, wide_div (b := 30) (by omega) (by omega) (by omega) (by omega), ?_⟩
      refine ⟨.ref b, rfl, b, _, 0, 0, rfl, rfl, hb, rfl, ?_⟩
      refine ⟨.int (c0.fmod m), rfl, ?_⟩
      refine fin (c0 / m) c2 (c0.fmod m) (Int.ediv_nonneg p0 (by omega)) p3 (by omega) ?_ ?_
      · rw [Int.fmod_eq_emod_of_nonneg _ (by omega)]
        exact Int.emod_nonneg _ (by omega)
      · rw [Int.fmod_eq_emod_of_nonneg _ (by omega)]
        exact Int.emod_lt_of_pos _ (by omega)
    · refine ⟨.ref b, rfl, b, _, 2, .int c2, rfl, rfl, hS, rfl, c2, 1, rfl, rfl, ?_⟩
      refine ⟨.ref b, rfl, b, _, 2, 2, rfl, rfl, hb, rfl, ?_⟩
      have hS2 : SqL K (upd H b (.lst [.int c0, .int c1, .int (c2 + 1)])) b [.int c0, .int c1, .int (c2 + 1)] := .inl (.inl upd_same)
      refine ⟨.ref b, rfl, b, _, 1, .int c1, rfl, rfl, hS2, rfl, .ref b, rfl, b, _, 2, .int (c2 + 1), rfl, rfl, hS2, rfl, 39373, c2 + 1, rfl, rfl, .inl ⟨by decide, by decide⟩, c1, 39373 * (c2 + 1), rfl, rfl, _, 5, rfl, rfl, ⟨by decide, by decide, ?_⟩, _, 2147483647, rfl, rfl, (show (2147483647 : Int) ≠ 0 by decide), ?_⟩
      · omega
      obtain ⟨z, hz⟩ : ∃ z, ((c1 + 39373 * (c2 + 1)) ^ (Int.toNat 5)).fmod 2147483647 = z := ⟨_, rfl⟩
      have z0 : 0 ≤ z := by
        rw [← hz, Int.fmod_eq_emod_of_nonneg _ (by decide)]
        exact Int.emod_nonneg _ (by decide)
      have z1 : z < 2147483647 := by
        rw [← hz, Int.fmod_eq_emod_of_nonneg _ (by decide)]
        exact Int.emod_lt_of_pos _ (by decide)
      refine ⟨.int z, by rw [← hz]; rfl, .int z, by rw [← hz]; rfl, z, 40009, rfl, rfl, (show (40009 : Int) ≠ 0 by decide), _, 7, rfl, rfl, z, _, rfl, rfl, .inl ⟨by omega, by omega⟩, .ref b, rfl, b, _, 2, .int (c2 + 1), rfl, rfl, hS2, rfl, c2 + 1, 7919, rfl, rfl, .inr ⟨by decide, by decide⟩, _, _, rfl, rfl, _, 2147483629, rfl, rfl, (show (2147483629 : Int) ≠ 0 by decide), _, 64, rfl, rfl, wide_div (b := 7) (by decide) (by decide) (by decide) (by decide), .int m, rfl, _, m, rfl, rfl, by omega, ?_⟩
      refine fin c0 (c2 + 1) _ p0 (by omega) (by omega) ?_ ?_
      · rw [Int.fmod_eq_emod_of_nonneg _ (by omega : 0 ≤ m)]
        exact Int.emod_nonneg _ (by omega)
      · rw [Int.fmod_eq_emod_of_nonneg _ (by omega : 0 ≤ m)]
        exact Int.emod_lt_of_pos _ (by omega)
/-! ### is_number .. lacking -/
theorem ok_num (B : Bi mg) (F : Fun K "is_number" "is_number" s_is_number f fd) : FnOk P w K mg base CX0 1 f fd ["thing"] (spP K Rnum) := by
  refine fn_pure F c_is_number (fun ds d ⟨x, e, _⟩ => by rw [e]; rfl) fun cdv A outer s H E hr => ⟨_, (pss_one (ps_ret (pe_and (pe_callB call_isi (by rfl) B.n_isinstance (by decide +kernel) (pa_cons (pv 0) (pa_cons (pe_bltn (v := .ty "int") (by rfl) B.n_int (by decide +kernel) rfl) pa_nil))) (pe_one (pe_not (pe_callB call_isi (by rfl) B.n_isinstance (by decide +kernel) (pa_cons (pv 0) (pa_cons (pe_bltn (v := .ty "bool") (by rfl) B.n_bool (by decide +kernel) rfl) pa_nil)))))))), ?_⟩
  rintro ds d ⟨x, rfl, rfl⟩
  exact s_ret (e_andV (e_isi (e_vd rfl) (kb_int _)) fun _ => e_notV (e_isi (e_vd rfl) (kb_bool _)))
structure C1 (P : Program) (w : World) (K : PySem.W.Frag) (mg : Str → Option Value) (base : Heap) : Prop where
  is_number : Cl P w K mg base 1 "is_number" s_is_number ["thing"] (spP K Rnum)
theorem num_int {d : PyData} (h : isNum d = true) : ∃ i, d = .int i := by
  cases d with
  | int i => exact ⟨i, rfl⟩
  | none => cases h
  | bool b => cases h
  | str s => cases h
  | list l => cases h
  | tuple l => cases h
  | dict l => cases h
theorem ok_rooms (B : Bi mg) (C : C1 P w K mg base) (F : Fun K "is_rooms" "is_rooms" s_is_rooms f fd) : FnOk P w K mg base CX0 2 f fd ["thing"] (spP K Rrooms) := by
  refine fn_pure F c_is_rooms (fun ds d ⟨x, e, _⟩ => by rw [e]; rfl) fun cdv A outer s H E hr => ⟨_, (pss_cons (ps_if (PW.pt (pw_or (pt_not (pt_val (pe_callB call_isi (by rfl) B.n_isinstance (by decide +kernel) (pa_cons (pv 0) (pa_cons (pe_bltn (v := .ty "tuple") (by rfl) B.n_tuple (by decide +kernel) rfl) pa_nil))))) (pw_or1 (pt_cmpR (op_eqE hr.units) (pv 0) (pe_tup pa_nil) (nomark _))))) (pss_one (ps_ret pe_bl)) pss_nil)
      (pss_one (ps_ret (pe_callB (cr_all rfl) (by rfl) B.n_all (by decide +kernel) (pa_cons (pe_lc (own := [("room", 1)]) (g := gName 1) (tt := tYes) rfl c_is_rooms.nd (pi_tup (pv 0)) (blkOk_by (N := N_is_rooms) (sc := defScope s_is_rooms) (by decide +kernel)) (fun _ _ _ _ _ => (pg_name (i := 1) c_is_rooms.nd rfl (.inl rfl))) (fun _ _ _ _ _ => pts_nil) (fun _ _ _ _ _ => (pe_and (pe_cl C.is_number hr (by omega) (by rfl) (pa_cons (pv 1) pa_nil)) (pe_one (pe_cmpR op_ge (pv 1) pe_int (nomark _)))))) pa_nil))))), ?_⟩
  rintro ds d ⟨x, rfl, hz, rfl⟩
  by_cases hT : isT x = true
  · obtain ⟨l, rfl⟩ : ∃ l, x = .tuple l := by
      cases x <;> first | exact ⟨_, rfl⟩ | cases hT
    refine s_if0 (c := l.isEmpty) ((t_or (t_not (t_val (e_isi (e_vd rfl) (kb_tup _)))) fun _ => t_test (e_eqE (e_vd rfl) (d_tup (ds := []) a_nil))).mono fun c h => by rw [h]; rfl) (fun h => s_retSeq (e_bl.mono fun s e => ?_)) (fun h => s_ret ?_)
    · rw [e]
      show _ = SD.dat (.bool (!l.isEmpty && _))
      rw [h]
      rfl
    · refine (e_all (g := fun d => isNum d && ge1 d) (d_lc (i_tup (e_vd rfl)) (fun j d _ => tg_name) (fun j d _ => ?_) hz)).mono fun s e => ?_
      · refine e_andV (d_call (da_cons (e_vd rfl) a_nil) ⟨d, rfl, rfl⟩) fun hd => ?_
        obtain ⟨i, rfl⟩ := num_int hd
        exact d_op (e_vd rfl) e_int (rv_I0 fun _ => DD.bl _)
      · rw [e]
        show SD.dat _ = SD.dat (.bool (!l.isEmpty && _))
        rw [h]
        rfl
  · refine s_if0 (c := true) ((t_or (d := true) (t_not (t_val (e_isi (e_vd rfl) (kb_tup _)))) fun z => ?_).mono fun c h => by rw [h, Bool.eq_false_iff.mpr hT]; rfl) (fun h => s_retSeq (e_bl.mono fun s e => ?_)) (fun h => nomatch h)
    · rw [Bool.eq_false_iff.mpr hT] at z
      cases z
    · rw [e]
      cases x <;> first | rfl | exact absurd rfl hT
theorem ok_standing (B : Bi mg) (C : C1 P w K mg base) (F : Fun K "is_standing" "is_standing" s_is_standing f fd) : FnOk P w K mg base CX0 2 f fd ["rooms", "thing"] (spP K Rstands) := by
  refine fn_pure F c_is_standing (fun ds d ⟨r, x, ns, e, _⟩ => by rw [e]; rfl) fun cdv A outer s H E hr => ⟨_, (pss_cons (ps_if (PW.pt (pw_or (pt_not (pt_val (pe_callB call_isi (by rfl) B.n_isinstance (by decide +kernel) (pa_cons (pv 1) (pa_cons (pe_bltn (v := .ty "tuple") (by rfl) B.n_tuple (by decide +kernel) rfl) pa_nil))))) (pw_or1 (pt_cmpR op_ne (pe_callB call_len_seq (by rfl) B.n_len (by decide +kernel) (pa_cons (pv 1) pa_nil)) (pe_callB call_len_seq (by rfl) B.n_len (by decide +kernel) (pa_cons (pv 0) pa_nil)) (nomark _))))) (pss_one (ps_ret pe_bl)) pss_nil)
      (pss_one (ps_ret (pe_callB (cr_all rfl) (by rfl) B.n_all (by decide +kernel) (pa_cons (pe_lc (own := [("room", 2), ("many", 3)]) (g := gTup K 2 (gCons (gName 2) (gCons (gName 3) gNil))) (tt := tYes) rfl c_is_standing.nd (pi_zipX (by rfl) B.n_zip (pa_cons (pv 0) (pa_cons (pv 1) pa_nil))) (blkOk_by (N := N_is_standing) (sc := defScope s_is_standing) (by decide +kernel)) (fun _ _ _ _ _ => (pg_tup rfl (pgs_cons (pg_name (i := 2) c_is_standing.nd rfl (.inl rfl)) (pgs_cons (pg_name (i := 3) c_is_standing.nd rfl (.inl rfl)) pgs_nil)))) (fun _ _ _ _ _ => pts_nil) (fun _ _ _ _ _ => (pe_and (pe_cl C.is_number hr (by omega) (by rfl) (pa_cons (pv 3) pa_nil)) (pe_one (pe_chain op_le op_le pe_int (pv 3) (pv 2)))))) pa_nil))))), ?_⟩
  rintro ds d ⟨r, x, ns, rfl, hs, hz, rfl⟩
  by_cases hT : isT x = true
  · obtain ⟨l, rfl⟩ : ∃ l, x = .tuple l := by
      cases x <;> first | exact ⟨_, rfl⟩ | cases hT
    have hlen : Dt K pu (tCB (fun xs H Q => ∃ p ys, xs = [.ref p] ∧ (SqL K H p ys ∨ SqT K H p ys) ∧ Q (.int ys.length) H) (tCons (tVar 0) tNil)) (startD N_is_standing [r, .tuple l]) (.i ns.length) := by
      rcases hs with rfl | rfl
      · exact (d_cb (da_cons (e_vd rfl) a_nil) rc_lenL).mono fun s e => by rw [e, List.length_map]
      · exact (d_cb (da_cons (e_vd rfl) a_nil) rc_lenT).mono fun s e => by rw [e, List.length_map]
    refine s_if0 (c := !decide ((l.length : Int) = ns.length)) ((t_or (t_not (t_val (e_isi (e_vd rfl) (kb_tup _)))) fun _ => t_test (d_op (d_cb (da_cons (e_vd rfl) a_nil) rc_lenT) hlen rv_neI)).mono fun c h => by rw [h]; rfl) (fun h => s_retSeq (e_bl.mono fun s e => ?_)) (fun h => s_ret ?_)
    · rw [e]
      have h2 : ¬ (l.length = ns.length) := fun z => by
        rw [z] at h
        simp at h
      show _ = SD.dat (.bool (decide (l.length = ns.length) && _))
      rw [decide_eq_false h2]
      rfl
    · have h2 : l.length = ns.length := by
        by_cases z : l.length = ns.length
        · exact z
        · rw [decide_eq_false (by omega)] at h
          cases h
      refine (e_all (g := fitB) (d_lc (δg := fun d => match d with | .tuple [a, b] => [.dat r, .dat (.tuple l), .dat a, .dat b] | _ => []) (i_zip (da_cons (e_vd rfl) (da_cons (e_vd rfl) a_nil)) hs (.inr rfl)) (fun j d hd => ?_) (fun j d hd => ?_) ?_)).mono fun s e => ?_
      · obtain ⟨n, e, rfl, _, _⟩ := zip_fst hd
        exact tg_pair
      · obtain ⟨n, e, rfl, _, _⟩ := zip_fst hd
        refine e_andV (d_call (da_cons (e_vd rfl) a_nil) ⟨e, rfl, rfl⟩) fun hd => ?_
        obtain ⟨i, rfl⟩ := num_int hd
        exact e_chain (s1 := .i 0) (s2 := .i i) (s3 := .i n) e_int (e_vd rfl) (rv_I0 fun _ => DD.bl _) (fun _ => e_vd rfl) fun _ => rv_I0 fun _ => DD.bl _
      · show (zipD _ _).length ≤ 100000
        unfold zipD
        rw [List.length_zipWith]
        exact Nat.le_trans (Nat.min_le_right _ _) hz
      · rw [e]
        show _ = SD.dat (.bool (decide (l.length = ns.length) && _))
        rw [decide_eq_true h2]
        rfl
  · refine s_if0 (c := true) ((t_or (d := true) (t_not (t_val (e_isi (e_vd rfl) (kb_tup _)))) fun z => ?_).mono fun c h => by rw [h, Bool.eq_false_iff.mpr hT]; rfl) (fun h => s_retSeq (e_bl.mono fun s e => ?_)) (fun h => nomatch h)
    · rw [Bool.eq_false_iff.mpr hT] at z
      cases z
    · rw [e]
      cases x <;> first | rfl | exact absurd rfl hT
theorem flat_one (n : Nat) (d : PyData) : (List.replicate n [d]).flatten = List.replicate n d := by
  induction n with
  | zero => rfl
  | succ n ih =>
    rw [List.replicate_succ, List.flatten_cons, ih]
    rfl
theorem e_lenS {S : MS} {δ : List SD} {te : TE} {d : PyData} {l : List PyData} (h : Dt K S te δ (.dat d)) (hs : IsSeq d l) : Dt K S (tCB (fun xs H Q => ∃ p ys, xs = [.ref p] ∧ (SqL K H p ys ∨ SqT K H p ys) ∧ Q (.int ys.length) H) (tCons te tNil)) δ (.i l.length) := by
  rcases hs with rfl | rfl
  · exact d_cb (da_cons h a_nil) rc_lenL
  · exact d_cb (da_cons h a_nil) rc_lenT
theorem ok_bare (B : Bi mg) (F : Fun K "bare" "bare" s_bare f fd) : FnOk P w K mg base CX0 1 f fd ["rooms"] (spP K Rbare) := by
  refine fn_pure F c_bare (fun ds d ⟨r, ns, e, _⟩ => by rw [e]; rfl) fun cdv A outer s H E hr => ⟨_, (pss_one (ps_ret (pe_op op_repX (pe_tup (pa_cons pe_int pa_nil)) (pe_callB call_len_seq (by rfl) B.n_len (by decide +kernel) (pa_cons (pv 0) pa_nil))))), ?_⟩
  rintro ds d ⟨r, ns, rfl, hs, hn, hl, rfl⟩
  have hp : 0 < ns.length := List.length_pos_iff.mpr hn
  refine s_ret ((e_repX (d_tup (ds := [.int 0]) (da_cons e_int a_nil)) (e_lenS (e_vd rfl) hs) (by simp) ?_ (by decide)).mono fun s e => ?_)
  · rw [List.length_map]
    omega
  · rw [e, List.length_map, flat_one]
    rfl
theorem ok_full (B : Bi mg) (F : Fun K "full" "full" s_full f fd) : FnOk P w K mg base CX0 1 f fd ["rooms"] (spP K Rfull) := by
  refine fn_pure F c_full (fun ds d ⟨r, ns, e, _⟩ => by rw [e]; rfl) fun cdv A outer s H E hr => ⟨_, (pss_one (ps_ret (pe_callTy call_tuple_of (by rfl) B.n_tuple (by decide +kernel) (pa_cons (pv 0) pa_nil)))), ?_⟩
  rintro ds d ⟨r, l, rfl, hs, rfl⟩
  rcases hs with rfl | rfl
  · exact s_ret (d_cb (da_cons (e_vd rfl) a_nil) rc_tupL)
  · exact s_ret (d_cb (da_cons (e_vd rfl) a_nil) rc_tupT)
theorem ok_lacking (B : Bi mg) (F : Fun K "lacking" "lacking" s_lacking f fd) : FnOk P w K mg base CX0 1 f fd ["rooms", "standing"] (spP K Rlack) := by
  refine fn_pure F c_lacking (fun ds d ⟨r, x, ns, ms, e, _⟩ => by rw [e]; rfl) fun cdv A outer s H E hr => ⟨_, (pss_one (ps_ret (pe_callTy call_tuple_of (by rfl) B.n_tuple (by decide +kernel) (pa_cons (pe_lc (own := [("room", 2), ("many", 3)]) (g := gTup K 2 (gCons (gName 2) (gCons (gName 3) gNil))) (tt := tYes) rfl c_lacking.nd (pi_zipX (by rfl) B.n_zip (pa_cons (pv 0) (pa_cons (pv 1) pa_nil))) (blkOk_by (N := N_lacking) (sc := defScope s_lacking) (by decide +kernel)) (fun _ _ _ _ _ => (pg_tup rfl (pgs_cons (pg_name (i := 2) c_lacking.nd rfl (.inl rfl)) (pgs_cons (pg_name (i := 3) c_lacking.nd rfl (.inl rfl)) pgs_nil)))) (fun _ _ _ _ _ => pts_nil) (fun _ _ _ _ _ => (pe_op op_sub (pv 2) (pv 3)))) pa_nil)))), ?_⟩
  rintro ds d ⟨r, x, ns, ms, rfl, hs, hx, hl, he, rfl⟩
  have hz : ∀ (j : Nat) (d : PyData), (zipD (ns.map .int) (ms.map .int))[j]? = some d → ∃ n m : Int, d = .tuple [.int n, .int m] := fun j d hd => by
    obtain ⟨n, e, rfl, h1, _⟩ := zip_fst hd
    rw [List.getElem?_map] at h1
    obtain ⟨m, _, rfl⟩ := Option.map_eq_some_iff.mp h1
    exact ⟨n, m, rfl⟩
  refine s_ret (d_cb (ss := [.dat (.list ((List.zipWith (fun n m => n - m) ns ms).map .int))]) (da_cons ((d_lc (f := fun d => match d with | .tuple [.int n, .int m] => .int (n - m) | _ => .none) (δg := fun d => match d with | .tuple [a, b] => [.dat r, .dat x, .dat a, .dat b] | _ => []) (i_zip (da_cons (e_vd rfl) (da_cons (e_vd rfl) a_nil)) hs hx) (fun j d hd => ?_) (fun j d hd => ?_) ?_).mono fun s e => ?_) a_nil) rc_tupL)
  · obtain ⟨n, m, rfl⟩ := hz j d hd
    exact tg_pair
  · obtain ⟨n, m, rfl⟩ := hz j d hd
    exact d_op (e_vd rfl) (e_vd rfl) (rv_I0 fun _ => DD.int _)
  · unfold zipD
    rw [List.length_zipWith, List.length_map, List.length_map]
    omega
  · rw [e]
    congr 2
    clear hs hx hl he hz e
    induction ns generalizing ms with
    | nil => rfl
    | cons n ns ih =>
      cases ms with
      | nil => rfl
      | cons m ms => exact congrArg (_ :: ·) (ih ms)
/-! ### same -/
def RsameN : Nat → List PyData → PyData → Prop
  | 0 => fun _ _ => False
  | n + 1 => Rsame n
structure Cs (P : Program) (w : World) (K : PySem.W.Frag) (mg : Str → Option Value) (base : Heap) (n : Nat) : Prop where
  L_same : Cl P w K mg base n "_law_same" s_L_same ["_law_found", "_law_due"] (spP K (RsameN n))
theorem zip_same {xs : List PyData} {j : Nat} {d : PyData} (h : (zipD xs xs)[j]? = some d) : ∃ e, d = .tuple [e, e] ∧ e ∈ xs := by
  unfold zipD at h
  rw [List.getElem?_zipWith] at h
  cases h1 : xs[j]? with
  | none =>
    rw [h1] at h
    cases h
  | some e =>
    rw [h1] at h
    exact ⟨e, (Option.some.inj h).symm, List.mem_of_getElem? h1⟩
theorem ok_same_step (B : Bi mg) {n : Nat} (C : Cs P w K mg base n) (F : Fun K "_law_same" "_law_same" s_L_same f fd) : FnOk P w K mg base CX0 (n + 1) f fd ["_law_found", "_law_due"] (spP K (RsameN (n + 1))) := by
  refine fn_pure F c_L_same (fun ds d ⟨x, e, _⟩ => by rw [e]; rfl) fun cdv A outer s H E hr => ⟨_, (pss_cons (ps_if (pt_val (pe_callB call_isiT (by rfl) B.n_isinstance (by decide +kernel) (pa_cons (pv 1) (pa_cons (pe_tup (pa_cons (pe_bltn (v := .ty "list") (by rfl) B.n_list (by decide +kernel) rfl) (pa_cons (pe_bltn (v := .ty "tuple") (by rfl) B.n_tuple (by decide +kernel) rfl) pa_nil))) pa_nil)))) (pss_cons (ps_if (PW.pt (pw_or (pt_cmpR op_ne (pe_callB call_isi (by rfl) B.n_isinstance (by decide +kernel) (pa_cons (pv 0) (pa_cons (pe_bltn (v := .ty "list") (by rfl) B.n_list (by decide +kernel) rfl) pa_nil))) (pe_callB call_isi (by rfl) B.n_isinstance (by decide +kernel) (pa_cons (pv 1) (pa_cons (pe_bltn (v := .ty "list") (by rfl) B.n_list (by decide +kernel) rfl) pa_nil))) (nomark _)) (pw_or1 (pt_cmpR op_ne (pe_callB call_isi (by rfl) B.n_isinstance (by decide +kernel) (pa_cons (pv 0) (pa_cons (pe_bltn (v := .ty "tuple") (by rfl) B.n_tuple (by decide +kernel) rfl) pa_nil))) (pe_callB call_isi (by rfl) B.n_isinstance (by decide +kernel) (pa_cons (pv 1) (pa_cons (pe_bltn (v := .ty "tuple") (by rfl) B.n_tuple (by decide +kernel) rfl) pa_nil))) (nomark _))))) (pss_one (ps_ret pe_bl)) pss_nil)
      (pss_cons (ps_if (pt_cmpR op_ne (pe_callB call_len_seq (by rfl) B.n_len (by decide +kernel) (pa_cons (pv 0) pa_nil)) (pe_callB call_len_seq (by rfl) B.n_len (by decide +kernel) (pa_cons (pv 1) pa_nil)) (nomark _)) (pss_one (ps_ret pe_bl)) pss_nil)
      (pss_one (ps_ret (pe_callB (cr_all rfl) (by rfl) B.n_all (by decide +kernel) (pa_cons (pe_lc (own := [("_law_one", 2), ("_law_two", 3)]) (g := gTup K 2 (gCons (gName 2) (gCons (gName 3) gNil))) (tt := tYes) rfl c_L_same.nd (pi_zipX (by rfl) B.n_zip (pa_cons (pv 0) (pa_cons (pv 1) pa_nil))) (blkOk_by (N := N_L_same) (sc := defScope s_L_same) (by decide +kernel)) (fun _ _ _ _ _ => (pg_tup rfl (pgs_cons (pg_name (i := 2) c_L_same.nd rfl (.inl rfl)) (pgs_cons (pg_name (i := 3) c_L_same.nd rfl (.inl rfl)) pgs_nil)))) (fun _ _ _ _ _ => pts_nil) (fun _ _ _ _ _ => (pe_cl C.L_same hr (Nat.le_refl _) (by rfl) (pa_cons (pv 2) (pa_cons (pv 3) pa_nil))))) pa_nil)))))) pss_nil)
      (pss_cons (ps_if (PW.pt (pw_or (pt_cmpR op_isN (pv 1) pe_non (nomark _)) (pw_or1 (pt_val (pe_callB call_isi (by rfl) B.n_isinstance (by decide +kernel) (pa_cons (pv 1) (pa_cons (pe_bltn (v := .ty "str") (by rfl) B.n_str (by decide +kernel) rfl) pa_nil))))))) (pss_one (ps_ret (pe_and (pe_cmpR (op_eqD hr.units) (pv 0) (pv 1) (nomark _)) (pe_one (pe_cmpR op_eq (pe_callB call_isi (by rfl) B.n_isinstance (by decide +kernel) (pa_cons (pv 0) (pa_cons (pe_bltn (v := .ty "str") (by rfl) B.n_str (by decide +kernel) rfl) pa_nil))) (pe_callB call_isi (by rfl) B.n_isinstance (by decide +kernel) (pa_cons (pv 1) (pa_cons (pe_bltn (v := .ty "str") (by rfl) B.n_str (by decide +kernel) rfl) pa_nil))) (nomark _)))))) pss_nil)
      (pss_one (ps_ret (pe_and (pe_callB call_isi (by rfl) B.n_isinstance (by decide +kernel) (pa_cons (pv 0) (pa_cons (pe_bltn (v := .ty "int") (by rfl) B.n_int (by decide +kernel) rfl) pa_nil))) (pe_and (pe_cmpR op_eq (pe_callB call_isi (by rfl) B.n_isinstance (by decide +kernel) (pa_cons (pv 0) (pa_cons (pe_bltn (v := .ty "bool") (by rfl) B.n_bool (by decide +kernel) rfl) pa_nil))) (pe_callB call_isi (by rfl) B.n_isinstance (by decide +kernel) (pa_cons (pv 1) (pa_cons (pe_bltn (v := .ty "bool") (by rfl) B.n_bool (by decide +kernel) rfl) pa_nil))) (nomark _)) (pe_one (pe_cmpR (op_eqD hr.units) (pv 0) (pv 1) (nomark _))))))))), ?_⟩
  rintro ds d ⟨x, rfl, hp, rfl⟩
  have seq : ∀ (m : Nat) (xs : List PyData), n = m + 1 → IsSeq x xs → xs.length ≤ 100000 → (∀ y ∈ xs, Pl m y) →
      Dt K pu (tCB (rAll K) (tCons (tLc (iZipX K (tCons (tVar 0) (tCons (tVar 1) tNil))) (gTup K 2 (gCons (gName 2) (gCons (gName 3) gNil))) tYes (tCall (spP K (RsameN n)) [] E0 (tCons (tVar 2) (tCons (tVar 3) tNil))) [2, 3]) tNil)) (startD N_L_same [x, x]) (.b true) := fun m xs em hs hl hy => by
    subst em
    refine (e_all (g := fun _ => true) (d_lc (δg := fun d => match d with | .tuple [a, b] => [.dat x, .dat x, .dat a, .dat b] | _ => []) (i_zip (da_cons (e_vd rfl) (da_cons (e_vd rfl) a_nil)) hs hs) (fun j d hd => ?_) (fun j d hd => ?_) ?_)).mono fun s e => ?_
    · obtain ⟨e, rfl, _⟩ := zip_same hd
      exact tg_pair
    · obtain ⟨e, rfl, he⟩ := zip_same hd
      exact d_call (ds := [e, e]) (da_cons (e_vd rfl) (da_cons (e_vd rfl) a_nil)) ⟨e, rfl, hy e he, rfl⟩
    · unfold zipD
      rw [List.length_zipWith]
      omega
    · rw [e]
      simp
  have isq : isL x = true ∨ isT x = true → ∃ (m : Nat) (xs : List PyData), n = m + 1 ∧ IsSeq x xs ∧ xs.length ≤ 100000 ∧ ∀ y ∈ xs, Pl m y := fun h => by
    cases n with
    | zero => cases x <;> first | exact hp.elim | (rcases h with h | h <;> cases h)
    | succ m =>
      cases x with
      | list xs => exact ⟨m, xs, rfl, .inl rfl, hp.1, hp.2⟩
      | tuple xs => exact ⟨m, xs, rfl, .inr rfl, hp.1, hp.2⟩
      | none => rcases h with h | h <;> cases h
      | bool b => rcases h with h | h <;> cases h
      | int b => rcases h with h | h <;> cases h
      | str b => rcases h with h | h <;> cases h
      | dict b => rcases h with h | h <;> cases h
  have shp : isL x = false → isT x = false → SeqAt.shaped x = true := fun h1 h2 => by
    cases x with
    | none => rfl
    | bool b => rfl
    | int b => rfl
    | str b =>
      have hq : PyData.strOk b = true := by
        cases n <;> exact hp
      show (PyData.strOk b && true) = true
      rw [hq]
      rfl
    | list l => cases h1
    | tuple l => cases h2
    | dict l => cases n <;> exact hp.elim
  refine s_if0 (c := isL x || isT x) (t_val (e_isiT (e_vd rfl) (kb_list _) (kb_tup _))) (fun h => s_end ?_) (fun h => ?_)
  · obtain ⟨m, xs, em, hs, hl, hy⟩ := isq (by simpa using h)
    refine s_if0 (c := false) ((t_or (t_test (d_op (e_isi (e_vd rfl) (kb_list _)) (e_isi (e_vd rfl) (kb_list _)) rv_neB)) fun _ => t_test (d_op (e_isi (e_vd rfl) (kb_tup _)) (e_isi (e_vd rfl) (kb_tup _)) rv_neB)).mono fun c h => by rw [h]; simp) (fun h => nomatch h) fun _ => ?_
    refine s_if0 (c := false) ((t_test (d_op (e_lenS (e_vd rfl) hs) (e_lenS (e_vd rfl) hs) rv_neI)).mono fun c h => by rw [h]; simp) (fun h => nomatch h) fun _ => ?_
    exact s_ret (seq m xs em hs hl hy)
  · have hL : isL x = false := by
      cases hq : isL x with
      | false => rfl
      | true =>
        rw [hq] at h
        cases h
    have hT : isT x = false := by
      cases hq : isT x with
      | false => rfl
      | true =>
        rw [hq, hL] at h
        cases h
    have hsh := shp hL hT
    have hev : PyData.eqv x x = true := SeqAt.eqv_refl x (SeqAt.canLay_of_shaped hsh)
    refine s_if0 (t_or (t_test (d_op (e_vd rfl) e_non (rv_isN (s := .unk)))) fun _ => t_val (e_isi (e_vd rfl) (kb_str _))) (fun _ => s_retSeq ?_) (fun h2 => s_ret ?_)
    · exact (e_andV (d_op (e_vd rfl) (e_vd rfl) (rv_eqD hsh hsh)) fun _ => d_op (e_isi (e_vd rfl) (kb_str _)) (e_isi (e_vd rfl) (kb_str _)) rv_eqB).mono fun s e => by
        rw [e, hev]
        simp
    · refine (e_andV (e_isi (e_vd rfl) (kb_int _)) fun _ => e_andV (d_op (e_isi (e_vd rfl) (kb_bool _)) (e_isi (e_vd rfl) (kb_bool _)) rv_eqB) fun _ => d_op (e_vd rfl) (e_vd rfl) (rv_eqD hsh hsh)).mono fun s e => ?_
      rw [e, hev]
      cases x with
      | int b => rfl
      | bool b => simp [isI, isB]
      | none => cases h2
      | str b => cases h2
      | list b => cases hL
      | tuple b => cases hT
      | dict b => cases n <;> exact hp.elim
theorem cl_same (B : Bi mg) (F : Fun K "_law_same" "_law_same" s_L_same f fd) (hm : mg "_law_same" = some (.ref f)) (b : Binds K fd ["_law_found", "_law_due"] []) : ∀ n, Cs P w K mg base n
  | 0 => ⟨⟨f, fd, F, ⟨fun vs H Q E ⟨_, _, _, _, _, h, _⟩ => h.elim, fun _ _ _ _ _ _ _ _ _ _ _ _ _ ⟨_, _, _, _, _, h, _⟩ => h.elim⟩, hm, b⟩⟩
  | n + 1 => ⟨⟨f, fd, F, ok_same_step B (cl_same B F hm b n) F, hm, b⟩⟩
/-! ### are_rooms, stands -/
theorem ok_are (B : Bi mg) (F : Fun K "_law_are_rooms" "_law_are_rooms" s_L_are_rooms f fd) : FnOk P w K mg base CX0 1 f fd ["_law_item"] (spP K Rrooms) := by
  refine fn_pure F c_L_are_rooms (fun ds d ⟨x, e, _⟩ => by rw [e]; rfl) fun cdv A outer s H E hr => ⟨_, (pss_cons (ps_if (PW.pt (pw_or (pt_not (pt_val (pe_callB call_isi (by rfl) B.n_isinstance (by decide +kernel) (pa_cons (pv 0) (pa_cons (pe_bltn (v := .ty "tuple") (by rfl) B.n_tuple (by decide +kernel) rfl) pa_nil))))) (pw_or1 (pt_cmpR op_eq (pe_callB call_len_seq (by rfl) B.n_len (by decide +kernel) (pa_cons (pv 0) pa_nil)) pe_int (nomark _))))) (pss_one (ps_ret pe_bl)) pss_nil)
      (pss_one (ps_ret (pe_callB (cr_all rfl) (by rfl) B.n_all (by decide +kernel) (pa_cons (pe_lc (own := [("_law_one", 1)]) (g := gName 1) (tt := tYes) rfl c_L_are_rooms.nd (pi_tup (pv 0)) (blkOk_by (N := N_L_are_rooms) (sc := defScope s_L_are_rooms) (by decide +kernel)) (fun _ _ _ _ _ => (pg_name (i := 1) c_L_are_rooms.nd rfl (.inl rfl))) (fun _ _ _ _ _ => pts_nil) (fun _ _ _ _ _ => (pe_and (pe_callB (ki_isi (K := K) rfl) (by rfl) B.n_isinstance (by decide +kernel) (pa_cons (pv 1) (pa_cons (pe_bltn (v := .ty "int") (by rfl) B.n_int (by decide +kernel) rfl) pa_nil))) (pe_and (pe_not (pe_callB (ki_isi (K := K) rfl) (by rfl) B.n_isinstance (by decide +kernel) (pa_cons (pv 1) (pa_cons (pe_bltn (v := .ty "bool") (by rfl) B.n_bool (by decide +kernel) rfl) pa_nil)))) (pe_one (pe_cmpR op_gt (pv 1) pe_int (nomark _))))))) pa_nil))))), ?_⟩
  rintro ds d ⟨x, rfl, hz, rfl⟩
  by_cases hT : isT x = true
  · obtain ⟨l, rfl⟩ : ∃ l, x = .tuple l := by
      cases x <;> first | exact ⟨_, rfl⟩ | cases hT
    have hE : decide ((l.length : Int) = 0) = l.isEmpty := by
      cases l with
      | nil => rfl
      | cons a b =>
        rw [decide_eq_false (by rw [List.length_cons]; omega)]
        rfl
    refine s_if0 (c := l.isEmpty) ((t_or (t_not (t_val (e_isi (e_vd rfl) (kb_tup _)))) fun _ => t_test (d_op (d_cb (da_cons (e_vd rfl) a_nil) rc_lenT) e_int rv_eqI)).mono fun c h => by rw [h, hE]; rfl) (fun h => s_retSeq (e_bl.mono fun s e => ?_)) (fun h => s_ret ?_)
    · rw [e]
      show _ = SD.dat (.bool (!l.isEmpty && _))
      rw [h]
      rfl
    · refine (e_all (g := fun d => isI d && (!isB d && ge1 d)) (d_lc (i_tup (e_vd rfl)) (fun j d _ => tg_name) (fun j d _ => ?_) hz)).mono fun s e => ?_
      · refine e_andV (e_isi (e_vd rfl) (kb_int _)) fun h1 => e_andV (e_notV (e_isi (e_vd rfl) (kb_bool _))) fun h2 => ?_
        obtain ⟨i, rfl⟩ := num_int (show isNum d = true by unfold isNum; rw [h1, h2]; rfl)
        exact (d_op (e_vd rfl) e_int (rv_I0 fun _ => DD.bl _)).mono fun s e => by
          rw [e]
          congr 3
      · rw [e]
        show SD.dat _ = SD.dat (.bool (!l.isEmpty && _))
        rw [h]
        congr 3
        funext d
        unfold isNum
        rw [Bool.and_assoc]
  · refine s_if0 (c := true) ((t_or (d := true) (t_not (t_val (e_isi (e_vd rfl) (kb_tup _)))) fun z => ?_).mono fun c h => by rw [h, Bool.eq_false_iff.mpr hT]; rfl) (fun h => s_retSeq (e_bl.mono fun s e => ?_)) (fun h => nomatch h)
    · rw [Bool.eq_false_iff.mpr hT] at z
      cases z
    · rw [e]
      cases x <;> first | rfl | exact absurd rfl hT
end
end K00

namespace K00
open PySem PySem.Spec PyProof.Rows L2 ZX DL
section
variable {P : Program} {w : World} {K : PySem.W.Frag} {mg : Str → Option Value} {base : Heap} {f : Addr} {fd : FuncData}
theorem fitB_pair (n i : Int) : fitB (.tuple [.int n, .int i]) = (decide (0 ≤ i) && decide (i ≤ n)) := rfl
theorem ok_stands (B : Bi mg) (F : Fun K "_law_stands" "_law_stands" s_L_stands f fd) : FnOk P w K mg base CX0 1 f fd ["_law_homes", "_law_item"] (spP K Rstands) := by
  refine fn_pure F c_L_stands (fun ds d ⟨r, x, ns, e, _⟩ => by rw [e]; rfl) fun cdv A outer s H E hr => ⟨_, (pss_cons (ps_if (PW.pt (pw_or (pt_not (pt_val (pe_callB call_isi (by rfl) B.n_isinstance (by decide +kernel) (pa_cons (pv 1) (pa_cons (pe_bltn (v := .ty "tuple") (by rfl) B.n_tuple (by decide +kernel) rfl) pa_nil))))) (pw_or1 (pt_cmpR op_ne (pe_callB call_len_seq (by rfl) B.n_len (by decide +kernel) (pa_cons (pv 1) pa_nil)) (pe_callB call_len_seq (by rfl) B.n_len (by decide +kernel) (pa_cons (pv 0) pa_nil)) (nomark _))))) (pss_one (ps_ret pe_bl)) pss_nil)
      (pss_cons (ps_for PassesOwn.never rfl (pi_zipX (by rfl) B.n_zip (pa_cons (pv 0) (pa_cons (pv 1) pa_nil))) (pg_tup rfl (pgs_cons (pg_name (i := 2) c_L_stands.nd rfl (.inl rfl)) (pgs_cons (pg_name (i := 3) c_L_stands.nd rfl (.inl rfl)) pgs_nil))) (pss_one (ps_if (PW.pt (pw_or (pt_not (pt_val (pe_callB call_isi (by rfl) B.n_isinstance (by decide +kernel) (pa_cons (pv 3) (pa_cons (pe_bltn (v := .ty "int") (by rfl) B.n_int (by decide +kernel) rfl) pa_nil))))) (pw_or (pt_val (pe_callB call_isi (by rfl) B.n_isinstance (by decide +kernel) (pa_cons (pv 3) (pa_cons (pe_bltn (v := .ty "bool") (by rfl) B.n_bool (by decide +kernel) rfl) pa_nil)))) (pw_or (pt_cmpR op_lt (pv 3) pe_int (nomark _)) (pw_or1 (pt_cmpR op_gt (pv 3) (pv 2) (nomark _))))))) (pss_one (ps_ret pe_bl)) pss_nil)))
      (pss_one (ps_ret pe_bl)))), ?_⟩
  rintro ds d ⟨r, x, ns, rfl, hs, hz, rfl⟩
  by_cases hT : isT x = true
  · obtain ⟨l, rfl⟩ : ∃ l, x = .tuple l := by
      cases x <;> first | exact ⟨_, rfl⟩ | cases hT
    refine s_if0 (c := !decide ((l.length : Int) = ns.length)) ((t_or (t_not (t_val (e_isi (e_vd rfl) (kb_tup _)))) fun _ => t_test (d_op (d_cb (da_cons (e_vd rfl) a_nil) rc_lenT) (e_lenS (e_vd rfl) hs) rv_neI)).mono fun c h => by rw [h, List.length_map]; rfl) (fun h => s_retSeq (e_bl.mono fun s e => ?_)) (fun h => ?_)
    · rw [e]
      have h2 : ¬ (l.length = ns.length) := fun z => by
        rw [z] at h
        simp at h
      show _ = SD.dat (.bool (decide (l.length = ns.length) && _))
      rw [decide_eq_false h2]
      rfl
    · have h2 : l.length = ns.length := by
        by_cases z : l.length = ns.length
        · exact z
        · rw [decide_eq_false (by omega)] at h
          cases h
      have val : standsB ns (.tuple l) = (zipD (ns.map .int) l).all fitB := by
        show (decide (l.length = ns.length) && _) = _
        rw [decide_eq_true h2]
        rfl
      rw [val]
      refine (s_seq (k := 0 + 0 * (zipD (ns.map .int) l).length) (k' := 0) (N := fun _ => (zipD (ns.map .int) l).all fitB = true) (s_for (vs := [2, 3]) (fun j δ' => (∃ u v, δ' = [.dat r, .dat (.tuple l), u, v]) ∧ ∀ (i : Nat) (d : PyData), i < j → (zipD (ns.map .int) l)[i]? = some d → fitB d = true)
        (i_zip (da_cons (e_vd rfl) (da_cons (e_vd rfl) a_nil)) hs (.inr rfl)) ⟨⟨.unk, .unk, rfl⟩, fun i d hi => absurd hi (by omega)⟩ ?_ ?_) ?_).up (by omega)
      · rintro j d δ' hd ⟨⟨u, v, rfl⟩, hall⟩
        obtain ⟨n, e, rfl, he, hn⟩ := zip_fst hd
        refine ⟨_, tg_pair, ?_⟩
        have bad : fitB (.tuple [.int n, e]) = false → (zipD (ns.map .int) l).all fitB = false := fun hb => by
          rw [Bool.eq_false_iff]
          intro ht
          have := List.all_eq_true.mp ht _ (List.mem_of_getElem? hd)
          rw [hb] at this
          cases this
        by_cases hi : isNum e = true
        · obtain ⟨i, rfl⟩ := num_int hi
          refine s_if (c := decide (i < 0) || decide (n < i)) ((t_or (t_not (t_val (e_isi (e_vd rfl) (kb_int _)))) fun _ => t_or (t_val (e_isi (e_vd rfl) (kb_bool _))) fun _ => t_or (t_test (d_op (e_vd rfl) e_int (rv_I0 fun _ => DD.bl _))) fun _ => t_test (d_op (e_vd rfl) (e_vd rfl) (rv_I0 fun _ => DD.bl _))).mono fun c h => by rw [h]; rfl) (fun hc => s_ret (e_bl.mono fun s e => ?_)) (fun hc => s_next ?_)
          · rw [e]
            show SD.dat (.bool false) = _
            rw [bad (by
              rw [fitB_pair, Bool.eq_false_iff]
              intro ht
              simp at ht hc
              omega)]
          · refine ⟨⟨_, _, rfl⟩, fun i' d' hi' hd' => ?_⟩
            by_cases ej : i' = j
            · subst ej
              cases hd'.symm.trans hd
              rw [fitB_pair]
              simp at hc ⊢
              omega
            · exact hall i' d' (by omega) hd'
        · have hf : fitB (.tuple [.int n, e]) = false := by
            show (isNum e && _) = false
            rw [Bool.eq_false_iff.mpr hi]
            rfl
          have hi2 : (!isI e || isB e) = true := by
            have : isNum e = false := Bool.eq_false_iff.mpr hi
            unfold isNum at this
            cases h1 : isI e <;> cases h2 : isB e <;> simp [h1, h2] at this ⊢
          refine s_if (c := true) ((t_or (d := isB e || true) (t_not (t_val (e_isi (e_vd rfl) (kb_int _)))) fun z => (t_or (d := true) (t_val (e_isi (e_vd rfl) (kb_bool _))) fun z2 => ?_)).mono fun c h => by rw [h]; simp) (fun hc => s_ret (e_bl.mono fun s e => ?_)) (fun hc => nomatch hc)
          · rw [z, z2] at hi2
            cases hi2
          · rw [e]
            show SD.dat (.bool false) = _
            rw [bad hf]
      · rintro δ' ⟨_, hall⟩
        refine List.all_eq_true.mpr (idx_mem fun j d hd => hall j d (List.getElem?_eq_some_iff.mp hd).1 hd)
      · intro δ' ht
        exact s_ret (e_bl.mono fun s e => by rw [e, ht])
  · refine s_if0 (c := true) ((t_or (d := true) (t_not (t_val (e_isi (e_vd rfl) (kb_tup _)))) fun z => ?_).mono fun c h => by rw [h, Bool.eq_false_iff.mpr hT]; rfl) (fun h => s_retSeq (e_bl.mono fun s e => ?_)) (fun h => nomatch h)
    · rw [Bool.eq_false_iff.mpr hT] at z
      cases z
    · rw [e]
      cases x <;> first | rfl | exact absurd rfl hT
/-! ### rooms, standing -/
structure C2 (P : Program) (w : World) (K : PySem.W.Frag) (mg : Str → Option Value) (base : Heap) : Prop where
  L_take : Cl P w K mg base 1 "_law_take" s_L_take ["_law_box_here", "_law_bound"] (spB K Rtake)
def Rdraw : List PyData → Nat → (PyData → Prop) → Prop := fun ds c Φ => ∃ m : Int, ds = [.int m] ∧ 1 ≤ m ∧ m ≤ 12 ∧ c = 26 ∧ Φ = fun d => ∃ ns : List Int, d = .tuple (ns.map .int) ∧ ns ≠ [] ∧ ns.length ≤ 12 ∧ ∀ n ∈ ns, 1 ≤ n ∧ n ≤ 9
theorem at4 {a b c d : PyData} {j : Int} (h : 0 ≤ j ∧ j < 4) : ∃ x, atI [a, b, c, d] j = some x ∧ (x = a ∨ x = b ∨ x = c ∨ x = d) := by
  have : j = 0 ∨ j = 1 ∨ j = 2 ∨ j = 3 := by omega
  rcases this with rfl | rfl | rfl | rfl
  · exact ⟨a, rfl, .inl rfl⟩
  · exact ⟨b, rfl, .inr (.inl rfl)⟩
  · exact ⟨c, rfl, .inr (.inr (.inl rfl))⟩
  · exact ⟨d, rfl, .inr (.inr (.inr rfl))⟩
theorem at3 {a b c : PyData} {j : Int} (h : 0 ≤ j ∧ j < 3) : ∃ x, atI [a, b, c] j = some x ∧ (x = a ∨ x = b ∨ x = c) := by
  have : j = 0 ∨ j = 1 ∨ j = 2 := by omega
  rcases this with rfl | rfl | rfl
  · exact ⟨a, rfl, .inl rfl⟩
  · exact ⟨b, rfl, .inr (.inl rfl)⟩
  · exact ⟨c, rfl, .inr (.inr rfl)⟩
theorem ok_draw (B : Bi mg) (C : C2 P w K mg base) (F : Fun K "_law_rooms" "_law_rooms" s_L_rooms f fd) : FnOk P w K mg base CX0 2 f fd ["_law_box_here", "_law_most"] (spB K Rdraw) := by
  refine fn_box F c_L_rooms (fun ds c Φ ⟨m, e, _⟩ => by rw [e]; rfl) fun cdv A outer s H E hr => ⟨_, (pss_cons (ps_set (i := 2) c_L_rooms.nd rfl (.inl rfl) (pe_op op_add pe_int (pe_cl C.L_take hr (by omega) (by rfl) (pa_cons (pv 0) (pa_cons (pe_ix ix_list (pe_lst (pa_cons (pe_callB (call_min2 rfl) (by rfl) B.n_min (by decide +kernel) (pa_cons pe_int (pa_cons (pv 1) pa_nil))) (pa_cons (pe_callB (call_min2 rfl) (by rfl) B.n_min (by decide +kernel) (pa_cons pe_int (pa_cons (pv 1) pa_nil))) (pa_cons (pv 1) pa_nil)))) (pe_cl C.L_take hr (by omega) (by rfl) (pa_cons (pv 0) (pa_cons pe_int pa_nil))) (fun _ _ => rfl)) pa_nil)))))
      (pss_one (ps_ret (pe_callTy call_tuple_of (by rfl) B.n_tuple (by decide +kernel) (pa_cons (pe_lc (own := [("_law_place", 3)]) (g := gName 3) (tt := tYes) rfl c_L_rooms.nd (pi_range1 (by rfl) B.n_range (pa_cons (pv 2) pa_nil)) (blkOk_by (N := N_L_rooms) (sc := defScope s_L_rooms) (by decide +kernel)) (fun _ _ _ _ _ => (pg_name (i := 3) c_L_rooms.nd rfl (.inl rfl))) (fun _ _ _ _ _ => pts_nil) (fun _ _ _ _ _ => (pe_ix (ki_ixL (K := K) rfl) (pe_lst (pa_cons pe_int (pa_cons pe_int (pa_cons pe_int (pa_cons (pe_op op_add pe_int (pe_cl C.L_take hr (by omega) (by rfl) (pa_cons (pv 0) (pa_cons pe_int pa_nil)))) pa_nil))))) (pe_cl C.L_take hr (by omega) (by rfl) (pa_cons (pv 0) (pa_cons pe_int pa_nil))) (fun _ _ => rfl)))) pa_nil))))), ?_⟩
  rintro b ds c Φ ⟨m, rfl, m1, m2, rfl, rfl⟩
  refine (s_set (k := 0 + (0 + 1 + 1)) (k' := 24) (Φ := fun s => ∃ n, s = .i n ∧ 1 ≤ n ∧ n ≤ 12) (e_op (Φ := fun s => s = .i 1) e_int (fun _ _ => e_takeE (lo := 1) (hi' := 12) rfl (e_op (k := 0) (k' := 1) (Φ := fun s => ∃ p q : Int, s = .dat (.list [.int p, .int q, .int m]) ∧ (1 ≤ p ∧ p ≤ 12) ∧ 1 ≤ q ∧ q ≤ 12) (Φ' := fun _ s => ∃ j, s = .i j ∧ 0 ≤ j ∧ j < 3)
      ((d_lst (ds := [_, _, _]) (da_cons (d_cb (da_cons e_int (da_cons (e_vd rfl) a_nil)) rc_min) (da_cons (d_cb (da_cons e_int (da_cons (e_vd rfl) a_nil)) rc_min) (da_cons (e_vd rfl) a_nil)))).mono fun s e => ⟨_, _, e, ?_, ?_⟩) (fun _ _ => e_take rfl e_int (by decide) (by decide)) ?_) (by decide) (by decide)) ?_) ?_).up (by omega)
  · split <;> omega
  · split <;> omega
  · rintro s s' ⟨p, q, rfl, hp, hq⟩ ⟨j, rfl, hj⟩
    obtain ⟨x, hx, hc⟩ := at3 (a := .int p) (b := .int q) (c := .int m) hj
    refine fun u v G H hu hv hs Q hQ => rv_ixL hx u v G H hu hv hs Q fun y z G2 H2 mm hy hz => hQ y z G2 H2 mm hy ?_
    rw [hz]
    rcases hc with rfl | rfl | rfl
    · exact ⟨_, rfl, hp⟩
    · exact ⟨_, rfl, hq⟩
    · exact ⟨_, rfl, m1, m2⟩
  · rintro s s' rfl ⟨j, rfl, h0, h1⟩
    refine fun u v G H hu hv hs Q hQ => rv_I0 (d := .int (1 + j)) (fun _ => DD.int _) u v G H hu hv hs Q fun y z G2 H2 mm hy hz => hQ y z G2 H2 mm hy ⟨1 + j, hz, by omega, by omega⟩
  · rintro s ⟨n, rfl, n1, n2⟩
    have ln : (rangeD 0 n.toNat).length = n.toNat := rangeD_len _ _
    refine s_ret ((e_cb (Φ := fun ss => ∃ l : List PyData, ss = [.dat (.list l)] ∧ l.length = n.toNat ∧ ∀ (j : Nat) (d : PyData), l[j]? = some d → ∃ i, d = .int i ∧ 1 ≤ i ∧ i ≤ 9) (k := 0 + 2 * (rangeD 0 n.toNat).length + 0) (fun r σ G H q w Q hQ => a_cons (k' := 0) (Φ' := fun _ l => l = []) (e_lc (Ψ := fun _ d => ∃ i, d = .int i ∧ 1 ≤ i ∧ i ≤ 9) (i_rngE (da_cons (e_vd rfl) a_nil) (by omega) (by omega)) (fun j d _ => tg_name) (fun j d hd => ?_) (by omega)) (fun _ _ => a_nil) r σ G H q w Q fun vs ss G2 H2 m2 w2 hv ⟨s, l, e, ⟨ds, e2, e3, e4⟩, e5⟩ => hQ vs ss G2 H2 m2 w2 hv ⟨ds, by rw [e, e2, e5], by rw [e3, ln], e4⟩) ?_).up (by omega))
    · refine (e_op (k := 1) (k' := 1) (Φ := fun s => ∃ i : Int, s = .dat (.list [.int 1, .int 2, .int 3, .int i]) ∧ 1 ≤ i ∧ i ≤ 9) (Φ' := fun _ s => ∃ j, s = .i j ∧ 0 ≤ j ∧ j < 4) ?_ (fun _ _ => e_take rfl e_int (by decide) (by decide)) ?_)
      · refine (e_lst (k := 0 + (0 + (0 + (0 + 1 + 0)))) (a_cons e_int fun _ _ => a_cons e_int fun _ _ => a_cons e_int fun _ _ => a_cons (Φ := fun s => ∃ i, s = .i i ∧ 1 ≤ i ∧ i ≤ 9) (e_op (Φ := fun s => s = .i 1) e_int (fun _ _ => e_take rfl e_int (by decide) (by decide)) ?_) fun _ _ => a_nil) ?_).up (by omega)
        · rintro s s' rfl ⟨j, rfl, h0, h1⟩
          refine fun u v G H hu hv hs Q hQ => rv_I0 (d := .int (1 + j)) (fun _ => DD.int _) u v G H hu hv hs Q fun y z G2 H2 mm hy hz => hQ y z G2 H2 mm hy ⟨1 + j, hz, by omega, by omega⟩
        · rintro ss ⟨s1, l1, rfl, rfl, s2, l2, rfl, rfl, s3, l3, rfl, rfl, s4, l4, rfl, ⟨i, rfl, h1, h2⟩, rfl⟩
          exact ⟨[.int 1, .int 2, .int 3, .int i], ⟨rfl, rfl, rfl, rfl, trivial⟩, by simp, i, rfl, h1, h2⟩
      · rintro s s' ⟨i, rfl, h1, h2⟩ ⟨j, rfl, hj⟩
        obtain ⟨x, hx, hc⟩ := at4 (a := .int 1) (b := .int 2) (c := .int 3) (d := .int i) hj
        refine fun u v G H hu hv hs Q hQ => rv_ixL hx u v G H hu hv hs Q fun y z G2 H2 mm hy hz => hQ y z G2 H2 mm hy ?_
        rw [hz]
        rcases hc with rfl | rfl | rfl | rfl
        · exact ⟨_, rfl, 1, rfl, by omega, by omega⟩
        · exact ⟨_, rfl, 2, rfl, by omega, by omega⟩
        · exact ⟨_, rfl, 3, rfl, by omega, by omega⟩
        · exact ⟨_, rfl, i, rfl, by omega, by omega⟩
    · rintro ss ⟨l, rfl, el, hl⟩
      obtain ⟨ns, rfl, hn⟩ := ints_of (idx_mem hl)
      refine fun vs G H hv hs Q hQ => rc_tupL vs G H hv hs Q fun y z G2 H2 mm hy hz => hQ y z G2 H2 mm hy ⟨_, hz, ns, rfl, ?_, ?_, hn⟩
      · intro z
        subst z
        simp at el
        omega
      · rw [List.length_map] at el
        omega
end
end K00

namespace K00
open PySem PySem.Spec PyProof.Rows L2 ZX DL
/-- data of so many levels at most, so great at most -/
def Od : Nat → Nat → PyData → Prop
  | _, _, .none => True
  | _, _, .bool _ => True
  | _, L, .int i => i.natAbs ≤ 10 ^ 30 + L
  | _, L, .str x => x.length ≤ 50 * 4 ^ L
  | 0, _, .list _ => False
  | 0, _, .tuple _ => False
  | n + 1, L, .list xs => xs.length ≤ 30 + L ∧ ∀ y ∈ xs, Od n L y
  | n + 1, L, .tuple xs => xs.length ≤ 30 + L ∧ ∀ y ∈ xs, Od n L y
  | _, _, .dict _ => False
theorem Od.up : ∀ {n n' L L' : Nat} {d : PyData}, n ≤ n' → L ≤ L' → Od n L d → Od n' L' d
  | n, n', L, L', .none, _, _, _ => by cases n' <;> trivial
  | n, n', L, L', .bool b, _, _, _ => by cases n' <;> trivial
  | n, n', L, L', .int i, _, hl, h => by
    have h' : i.natAbs ≤ 10 ^ 30 + L := by cases n <;> exact h
    have : i.natAbs ≤ 10 ^ 30 + L' := by omega
    cases n' <;> exact this
  | n, n', L, L', .str x, _, hl, h => by
    have h' : x.length ≤ 50 * 4 ^ L := by cases n <;> exact h
    have h4 : 4 ^ L ≤ 4 ^ L' := Nat.pow_le_pow_right (by decide) hl
    have : x.length ≤ 50 * 4 ^ L' := by omega
    cases n' <;> exact this
  | 0, _, _, _, .list xs, _, _, h => h.elim
  | 0, _, _, _, .tuple xs, _, _, h => h.elim
  | n + 1, 0, _, _, .list xs, hn, _, h => by omega
  | n + 1, 0, _, _, .tuple xs, hn, _, h => by omega
  | n + 1, n' + 1, L, L', .list xs, hn, hl, h => ⟨Nat.le_trans h.1 (by omega), fun y hy => Od.up (by omega) hl (h.2 y hy)⟩
  | n + 1, n' + 1, L, L', .tuple xs, hn, hl, h => ⟨Nat.le_trans h.1 (by omega), fun y hy => Od.up (by omega) hl (h.2 y hy)⟩
  | n, _, _, _, .dict xs, _, _, h => by cases n <;> exact h.elim
section
variable {P : Program} {w : World} {K : PySem.W.Frag} {mg : Str → Option Value} {base : Heap} {f : Addr} {fd : FuncData}
def Fits (ns ms : List Int) : Prop := ms.length = ns.length ∧ ∀ (j : Nat) (n m : Int), ns[j]? = some n → ms[j]? = some m → 0 ≤ m ∧ m ≤ n
def Rlie : List PyData → Nat → (PyData → Prop) → Prop := fun ds c Φ => ∃ ns : List Int, ds = [.tuple (ns.map .int)] ∧ ns.length ≤ 12 ∧ (∀ n ∈ ns, 1 ≤ n ∧ n ≤ 99) ∧ c = 36 ∧ Φ = fun d => ∃ ms : List Int, d = .tuple (ms.map .int) ∧ Fits ns ms
theorem ok_lie (B : Bi mg) (C : C2 P w K mg base) (F : Fun K "_law_standing" "_law_standing" s_L_standing f fd) : FnOk P w K mg base CX0 2 f fd ["_law_box_here", "_law_homes"] (spB K Rlie) := by
  refine fn_box F c_L_standing (fun ds c Φ ⟨m, e, _⟩ => by rw [e]; rfl) fun cdv A outer s H E hr => ⟨_, (pss_one (ps_ret (pe_callTy call_tuple_of (by rfl) B.n_tuple (by decide +kernel) (pa_cons (pe_lc (own := [("_law_room", 2)]) (g := gName 2) (tt := tYes) rfl c_L_standing.nd (pi_tup (pv 1)) (blkOk_by (N := N_L_standing) (sc := defScope s_L_standing) (by decide +kernel)) (fun _ _ _ _ _ => (pg_name (i := 2) c_L_standing.nd rfl (.inl rfl))) (fun _ _ _ _ _ => pts_nil) (fun _ _ _ _ _ => (pe_ix (ki_ixL (K := K) rfl) (pe_lst (pa_cons pe_int (pa_cons (pv 2) (pa_cons (pe_cl C.L_take hr (by omega) (by rfl) (pa_cons (pv 0) (pa_cons (pe_op op_add (pv 2) pe_int) pa_nil))) (pa_cons (pe_cl C.L_take hr (by omega) (by rfl) (pa_cons (pv 0) (pa_cons (pe_op op_add (pv 2) pe_int) pa_nil))) pa_nil))))) (pe_cl C.L_take hr (by omega) (by rfl) (pa_cons (pv 0) (pa_cons pe_int pa_nil))) (fun _ _ => rfl)))) pa_nil)))), ?_⟩
  rintro b ds c Φ ⟨ns, rfl, hl, hn, rfl, rfl⟩
  refine s_ret ((e_cb (Φ := fun ss => ∃ l : List PyData, ss = [.dat (.list l)] ∧ l.length = ns.length ∧ ∀ (j : Nat) (d : PyData), l[j]? = some d → ∃ i n, d = .int i ∧ ns[j]? = some n ∧ 0 ≤ i ∧ i ≤ n) (k := 0 + 3 * (ns.map PyData.int).length + 0) (fun r σ G H q w Q hQ => a_cons (k' := 0) (Φ' := fun _ l => l = []) (e_lc (Ψ := fun j d => ∃ i n, d = .int i ∧ ns[j]? = some n ∧ 0 ≤ i ∧ i ≤ n) (i_tup (e_vd rfl)) (fun j d _ => tg_name) (fun j d hd => ?_) (by rw [List.length_map]; omega)) (fun _ _ => a_nil) r σ G H q w Q fun vs ss G2 H2 m2 w2 hv ⟨s, l, e, ⟨ds, e2, e3, e4⟩, e5⟩ => hQ vs ss G2 H2 m2 w2 hv ⟨ds, by rw [e, e2, e5], by rw [e3, List.length_map], e4⟩) ?_).up (by rw [List.length_map]; omega))
  · rw [List.getElem?_map] at hd
    obtain ⟨n, hj, rfl⟩ := Option.map_eq_some_iff.mp hd
    have hb := hn n (List.mem_of_getElem? hj)
    refine (e_op (k := 2) (k' := 1) (Φ := fun s => ∃ x y : Int, s = .dat (.list [.int 0, .int n, .int x, .int y]) ∧ (0 ≤ x ∧ x ≤ n) ∧ 0 ≤ y ∧ y ≤ n) (Φ' := fun _ s => ∃ j, s = .i j ∧ 0 ≤ j ∧ j < 4) ?_ (fun _ _ => e_take rfl e_int (by decide) (by decide)) ?_)
    · refine (e_lst (k := 0 + (0 + (1 + (1 + 0)))) (a_cons e_int fun _ _ => a_cons (e_vd rfl) fun _ _ => a_cons (e_take (m := n + 1) rfl (d_op (e_vd rfl) e_int (rv_I0 fun _ => DD.int _)) (by omega) (by omega)) fun _ _ => a_cons (e_take (m := n + 1) rfl (d_op (e_vd rfl) e_int (rv_I0 fun _ => DD.int _)) (by omega) (by omega)) fun _ _ => a_nil) ?_).up (by omega)
      rintro ss ⟨s1, l1, rfl, rfl, s2, l2, rfl, rfl, s3, l3, rfl, ⟨x, rfl, h1, h2⟩, s4, l4, rfl, ⟨y, rfl, h3, h4⟩, rfl⟩
      exact ⟨[.int 0, .int n, .int x, .int y], ⟨rfl, rfl, rfl, rfl, trivial⟩, by simp, x, y, rfl, ⟨h1, by omega⟩, h3, by omega⟩
    · rintro s s' ⟨x, y, rfl, hx0, hy0⟩ ⟨j', rfl, hj'⟩
      obtain ⟨z, hz, hc⟩ := at4 (a := .int 0) (b := .int n) (c := .int x) (d := .int y) hj'
      refine (rv_ixL hz).mono fun z' e => ?_
      rw [e]
      rcases hc with rfl | rfl | rfl | rfl
      · exact ⟨_, rfl, 0, n, rfl, hj, by omega, by omega⟩
      · exact ⟨_, rfl, n, n, rfl, hj, by omega, by omega⟩
      · exact ⟨_, rfl, x, n, rfl, hj, hx0.1, hx0.2⟩
      · exact ⟨_, rfl, y, n, rfl, hj, hy0.1, hy0.2⟩
  · rintro ss ⟨l, rfl, el, hl2⟩
    obtain ⟨ms, rfl, _⟩ := ints_of (p := fun _ => True) (idx_mem fun j d hd => by
      obtain ⟨i, n, e, _⟩ := hl2 j d hd
      exact ⟨i, e, trivial⟩)
    refine rc_tupL.mono fun z e => ⟨_, e, ms, rfl, by rw [← el, List.length_map], fun j n m h1 h2 => ?_⟩
    obtain ⟨i, n', e1, e2, e3⟩ := hl2 j (.int m) (by rw [List.getElem?_map, h2]; rfl)
    cases e1
    cases h1.symm.trans e2
    exact e3
/-! ### odd -/
def oddL : List PyData := [.none, .bool true, .bool false, .int (-1), .int 0, .int 1, .int 2, .int (10 ^ 30), .str (Str.ofString ""), .str (Str.ofString "a"), .str (Str.ofString "L+"), .tuple [], .list [], .tuple [.int 0], .list [.int 1], .tuple [.int 1, .int 1], .list [.list [.int 1]], .tuple [.tuple [.int 1]]]
def oddM : List PyData := [.tuple [.str (Str.ofString "L+"), .int 1], .list [.tuple [.str (Str.ofString "L+"), .int 1]], .list [.tuple [.str (Str.ofString "L+"), .bool true]], .tuple [.tuple [.str (Str.ofString "L+"), .int 1]]]
theorem odd_ok : ∀ d ∈ oddL ++ oddM, Od 2 0 d := by
  intro d hd
  simp only [oddL, oddM, List.cons_append, List.nil_append, List.mem_cons, List.not_mem_nil, or_false] at hd
  rcases hd with rfl | rfl | rfl | rfl | rfl | rfl | rfl | rfl | rfl | rfl | rfl | rfl | rfl | rfl | rfl | rfl | rfl | rfl | rfl | rfl | rfl | rfl <;> simp [Od] <;> decide
def Rodd : List PyData → Nat → (PyData → Prop) → Prop := fun ds c Φ => ds = [] ∧ c = 1 ∧ Φ = Od 2 0
theorem ok_odd (B : Bi mg) (C : C2 P w K mg base) (F : Fun K "_law_odd" "_law_odd" s_L_odd f fd) : FnOk P w K mg base CX0 2 f fd ["_law_box_here"] (spB K Rodd) := by
  refine fn_box F c_L_odd (fun ds c Φ ⟨e, _⟩ => by rw [e]; rfl) fun cdv A outer s H E hr => ⟨_, (pss_cons (ps_set (i := 1) c_L_odd.nd rfl (.inl rfl) (pe_lst (pa_cons pe_non (pa_cons pe_bl (pa_cons pe_bl (pa_cons (pe_un un_neg pe_int) (pa_cons pe_int (pa_cons pe_int (pa_cons pe_int (pa_cons (pe_op op_pow pe_int pe_int) (pa_cons pe_str (pa_cons pe_str (pa_cons pe_str (pa_cons (pe_tup pa_nil) (pa_cons (pe_lst pa_nil) (pa_cons (pe_tup (pa_cons pe_int pa_nil)) (pa_cons (pe_lst (pa_cons pe_int pa_nil)) (pa_cons (pe_tup (pa_cons pe_int (pa_cons pe_int pa_nil))) (pa_cons (pe_lst (pa_cons (pe_lst (pa_cons pe_int pa_nil)) pa_nil)) (pa_cons (pe_tup (pa_cons (pe_tup (pa_cons pe_int pa_nil)) pa_nil)) pa_nil))))))))))))))))))))
      (pss_one (ps_ret (pe_ix ix_list (pe_op op_cat (pv 1) (pe_lst (pa_cons (pe_tup (pa_cons pe_str (pa_cons pe_int pa_nil))) (pa_cons (pe_lst (pa_cons (pe_tup (pa_cons pe_str (pa_cons pe_int pa_nil))) pa_nil)) (pa_cons (pe_lst (pa_cons (pe_tup (pa_cons pe_str (pa_cons pe_bl pa_nil))) pa_nil)) (pa_cons (pe_tup (pa_cons (pe_tup (pa_cons pe_str (pa_cons pe_int pa_nil))) pa_nil)) pa_nil)))))) (pe_cl C.L_take hr (by omega) (by rfl) (pa_cons (pv 0) (pa_cons pe_int pa_nil))) (fun _ _ => rfl))))), ?_⟩
  rintro b ds c Φ ⟨rfl, rfl, rfl⟩
  refine sd_set (s := .dat (.list oddL)) (d_lst (ds := oddL) (da_cons e_non (da_cons e_bl (da_cons e_bl (da_cons (d_un e_int fun _ => DD.int _) (da_cons e_int (da_cons e_int (da_cons e_int (da_cons (d_op e_int e_int (rv_I ⟨by decide, by decide, by decide⟩ fun _ => DD.int _)) (da_cons e_str (da_cons e_str (da_cons e_str (da_cons (d_tup (ds := []) a_nil) (da_cons (d_lst (ds := []) a_nil) (da_cons (d_tup (ds := [.int 0]) (da_cons e_int a_nil)) (da_cons (d_lst (ds := [.int 1]) (da_cons e_int a_nil)) (da_cons (d_tup (ds := [.int 1, .int 1]) (da_cons e_int (da_cons e_int a_nil))) (da_cons (d_lst (ds := [.list [.int 1]]) (da_cons (d_lst (ds := [.int 1]) (da_cons e_int a_nil)) a_nil)) (da_cons (d_tup (ds := [.tuple [.int 1]]) (da_cons (d_tup (ds := [.int 1]) (da_cons e_int a_nil)) a_nil)) a_nil)))))))))))))))))) (by decide)) ?_
  refine s_ret ((e_op (k := 0) (k' := 1) (Φ := fun s => s = .dat (.list (oddL ++ oddM))) (Φ' := fun _ s => ∃ j, s = .i j ∧ 0 ≤ j ∧ j < 22) (d_op (e_vd rfl) (d_lst (ds := oddM) (da_cons (d_tup (ds := [.str (Str.ofString "L+"), .int 1]) (da_cons e_str (da_cons e_int a_nil))) (da_cons (d_lst (ds := [.tuple [.str (Str.ofString "L+"), .int 1]]) (da_cons (d_tup (ds := [.str (Str.ofString "L+"), .int 1]) (da_cons e_str (da_cons e_int a_nil))) a_nil)) (da_cons (d_lst (ds := [.tuple [.str (Str.ofString "L+"), .bool true]]) (da_cons (d_tup (ds := [.str (Str.ofString "L+"), .bool true]) (da_cons e_str (da_cons e_bl a_nil))) a_nil)) (da_cons (d_tup (ds := [.tuple [.str (Str.ofString "L+"), .int 1]]) (da_cons (d_tup (ds := [.str (Str.ofString "L+"), .int 1]) (da_cons e_str (da_cons e_int a_nil))) a_nil)) a_nil)))) (by decide)) (rv_cat (by decide))) (fun _ _ => e_take rfl e_int (by decide) (by decide)) ?_).up (by omega))
  rintro s s' rfl ⟨j, rfl, h0, h1⟩
  obtain ⟨d, hd, hm⟩ := atI_in (ds := oddL ++ oddM) h0 h1
  exact (rv_ixL hd).mono fun z e => ⟨d, e, odd_ok d hm⟩
end
end K00

namespace K00
open PySem PySem.Spec PyProof.Rows L2 ZX DL
def Roth (n : Nat) : List PyData → Nat → (PyData → Prop) → Prop := fun ds c Φ => ∃ x L, ds = [x] ∧ Od n L x ∧ L ≤ 5 ∧ c = 4 * (n + 1) ∧ Φ = Od (n + 2) (L + 1)
def RothN : Nat → List PyData → Nat → (PyData → Prop) → Prop
  | 0 => fun _ _ _ => False
  | n + 1 => Roth n
structure Co (P : Program) (w : World) (K : PySem.W.Frag) (mg : Str → Option Value) (base : Heap) (n : Nat) : Prop where
  L_take : Cl P w K mg base 1 "_law_take" s_L_take ["_law_box_here", "_law_bound"] (spB K Rtake)
  L_odd : Cl P w K mg base 2 "_law_odd" s_L_odd ["_law_box_here"] (spB K Rodd)
  L_otherwise : Cl P w K mg base (n + 2) "_law_otherwise" s_L_otherwise ["_law_box_here", "_law_item"] (spB K (RothN n))
section
variable {P : Program} {w : World} {K : PySem.W.Frag} {mg : Str → Option Value} {base : Heap} {f : Addr} {fd : FuncData}
/-- the end: what lies in the list at l, as a list or as a tuple -/
theorem oth_fin {b l : Addr} {r : Nat} {G H G4 H4 : Hp} {ys : List V} {xs : List PyData} {σ : L2.St} {D : Ends} {x : PyData} {q1 q2 : Bool} {n L : Nat} {tt : TT} (hs : σ[4]? = some (some (.ref l))) (m4 : Mv (bx b).M G H G4 H4) (w4 : Wd (bx b) r G4 H4) (h4 : H4 l = some (.lst ys)) (n4 : G4 l = none) (n0 : H l = none) (hb : l ≠ b) (dd : DDs K G4 ys xs)
    (ht : ∀ Q : Bool → Hp → Prop, Q q1 H4 → tt σ H4 Q) (hl : xs.length ≤ 30 + (L + 1)) (ho : ∀ y ∈ xs, Od (n + 2) (L + 1) y)
    (hrt : ∀ v s G2 H2, Mv (bx b).M G H G2 H2 → Wd (bx b) r G2 H2 → VD K G2 v s → (∃ d, s = .dat d ∧ Od (n + 1 + 2) (L + 1) d) → D.rt v H2) :
    tRet (tIf tt (tVar 4) (tCB (fun xs H Q => ∃ p ys, xs = [.ref p] ∧ ((SqL K H p ys ∧ ∀ l, H l = none → Q (.ref l) (upd H l (.tup ys))) ∨ (SqT K H p ys ∧ Q (.ref p) H))) (tCons (tVar 4) tNil))) D σ H4 := by
  refine ht _ ?_
  cases q1 with
  | true =>
    refine iteT ⟨_, hs, hrt (.ref l) (.dat (.list xs)) (upd G4 l (.lst ys)) H4 (m4.know n0 n4 h4) (w4.know h4 hb) (DD.lst upd_same (dd.mono fun a o e => ?_)) ⟨_, rfl, hl, ho⟩⟩
    rw [upd_ne (ne_of_none e n4)]
    exact e
  | false =>
    refine iteF ⟨_, hs, l, ys, rfl, .inl ⟨.inl (.inl h4), fun p np => ?_⟩⟩
    have mm : Mv (bx b).M G4 H4 (upd G4 p (.tup ys)) (upd H4 p (.tup ys)) := Mv.new w4.sub np
    exact hrt (.ref p) (.dat (.tuple xs)) _ _ (m4.trans mm) (w4.new np) (DD.tup upd_same (dd.mono mm.gr)) ⟨_, rfl, hl, ho⟩
theorem isi_now {b : Addr} {r : Nat} {G H : Hp} {σ : L2.St} {δ : List SD} {x : PyData} {nm : String} {c : Bool} (q : SlD K G σ δ) (w : Wd (bx b) r G H) (hx : δ[1]? = some (.dat x)) (hk : kitB (tyD x) nm = some c) (Q : Bool → Hp → Prop) (h : Q c H) : tB (tCB (rIsi K) (tCons (tVar 1) (tCons (tC (.ty nm)) tNil))) σ H Q := by
  rcases q.2 1 _ hx with z | ⟨v, e, hv⟩
  · cases z
  · exact ⟨v, e, v, .ty nm, _, _, c, rfl, .ty nm, tyX (show DD K G v x from hv) w.sub, kit_ty hk, c, rfl, h⟩
theorem DDs.set {G : Hp} {v : V} {d : PyData} : ∀ {ys : List V} {xs : List PyData} (j : Nat), DDs K G ys xs → DD K G v d → DDs K G (ys.set j v) (xs.set j d)
  | _, _, _, .nil, _ => .nil
  | _, _, 0, .cons _ t, h => .cons h t
  | _, _, j + 1, .cons a t, h => .cons a (DDs.set j t h)
theorem DDs.erase {G : Hp} : ∀ {ys : List V} {xs : List PyData} (j : Nat), DDs K G ys xs → DDs K G (ys.eraseIdx j) (xs.eraseIdx j)
  | _, _, _, .nil => .nil
  | _, _, 0, .cons _ t => t
  | _, _, j + 1, .cons a t => .cons a (DDs.erase j t)
/-- what may be read by its place -/
theorem ix_now {G H : Hp} {v : V} {x : PyData} {xs : List PyData} {j : Nat} (hx : DD K G v x) (hs : IsSeq x xs) (sub : ∀ a o, G a = some o → H a = some o) (hj : j < xs.length) (Q : VK) (h : ∀ u, DD K G u xs[j] → Q u H) : rIx K v (.int (j : Int)) H Q := by
  rcases hs with rfl | rfl
  · cases hx with
    | @lst a ys _ hh t =>
      obtain ⟨u, hu, du⟩ := t.got (List.getElem?_eq_getElem hj)
      exact .inl ⟨a, ys, _, u, rfl, rfl, .inl (.inl (sub _ _ hh)), atI_nat hu, h u du⟩
  · cases hx with
    | @tup a ys _ hh t =>
      obtain ⟨u, hu, du⟩ := t.got (List.getElem?_eq_getElem hj)
      exact .inr (.inl ⟨a, ys, _, u, rfl, rfl, .inl (.inl (sub _ _ hh)), atI_nat hu, h u du⟩)
set_option maxHeartbeats 400000 in
theorem ok_oth_step (B : Bi mg) {n : Nat} (C : Co P w K mg base n) (F : Fun K "_law_otherwise" "_law_otherwise" s_L_otherwise f fd) : FnOk P w K mg base CX0 (n + 3) f fd ["_law_box_here", "_law_item"] (spB K (RothN (n + 1))) := by
  refine fn_box F c_L_otherwise (fun ds c Φ ⟨x, L, e, _⟩ => by rw [e]; rfl) fun cdv A outer s H E hr => ⟨_, (pss_cons (ps_if (PW.pt (pw_and (pt_val (pe_callB call_isiT (by rfl) B.n_isinstance (by decide +kernel) (pa_cons (pv 1) (pa_cons (pe_tup (pa_cons (pe_bltn (v := .ty "list") (by rfl) B.n_list (by decide +kernel) rfl) (pa_cons (pe_bltn (v := .ty "tuple") (by rfl) B.n_tuple (by decide +kernel) rfl) pa_nil))) pa_nil)))) (pw_and (pt_cmpR op_gt (pe_callB call_len_seq (by rfl) B.n_len (by decide +kernel) (pa_cons (pv 1) pa_nil)) pe_int (nomark _)) (pw_and1 (pt_cmpR op_gt (pe_cl C.L_take hr (by omega) (by rfl) (pa_cons (pv 0) (pa_cons pe_int pa_nil))) pe_int (nomark _)))))) (pss_cons (ps_par3 (i := 2) (j := 3) (l := 4) (by rfl) c_L_otherwise.nd rfl rfl rfl (by decide) (by decide) (by decide) rfl rfl rfl (pa_cons (pe_cl C.L_take hr (by omega) (by rfl) (pa_cons (pv 0) (pa_cons (pe_callB call_len_seq (by rfl) B.n_len (by decide +kernel) (pa_cons (pv 1) pa_nil)) pa_nil))) (pa_cons (pe_cl C.L_take hr (by omega) (by rfl) (pa_cons (pv 0) (pa_cons pe_int pa_nil))) (pa_cons (pe_callTy call_list_of (by rfl) B.n_list (by decide +kernel) (pa_cons (pv 1) pa_nil)) pa_nil))) (by rfl))
      (pss_cons (ps_if (pt_cmpR op_lt (pv 3) pe_int (nomark _)) (pss_one (ps_asg (pe_cl C.L_otherwise hr (Nat.le_refl _) (by rfl) (pa_cons (pv 0) (pa_cons (pe_ix ix_seq (pv 1) (pv 2) (fun _ _ => rfl)) pa_nil))) (pg_sub (pv 4) (pv 2) set_list))) (pss_one (ps_if (pt_cmpR op_eq (pv 3) pe_int (nomark _)) (pss_one (ps_expr (pe_bm PySem.F.plainAttrs_list PySem.F.slot_list_pop PySem.F.type_list_pop mt_popAt (pv 4) (pa_cons (pv 2) pa_nil)))) (pss_one (ps_if (pt_cmpR op_eq (pv 3) pe_int (nomark _)) (pss_one (ps_expr (pe_bm PySem.F.plainAttrs_list PySem.F.slot_list_insert PySem.F.type_list_insert mt_insert (pv 4) (pa_cons (pv 2) (pa_cons (pe_ix ix_seq (pv 1) (pv 2) (fun _ _ => rfl)) pa_nil))))) (pss_one (ps_if (pt_cmpR op_eq (pv 3) pe_int (nomark _)) (pss_one (ps_expr (pe_bm0 PySem.F.plainAttrs_list PySem.F.slot_list_reverse PySem.F.type_list_reverse mt_reverse (pv 4)))) (pss_one (ps_ret (pe_ifExp (pt_val (pe_callB call_isi (by rfl) B.n_isinstance (by decide +kernel) (pa_cons (pv 1) (pa_cons (pe_bltn (v := .ty "tuple") (by rfl) B.n_tuple (by decide +kernel) rfl) pa_nil)))) (pv 4) (pe_callTy call_tuple_of (by rfl) B.n_tuple (by decide +kernel) (pa_cons (pv 4) pa_nil))))))))))))
      (pss_one (ps_ret (pe_ifExp (pt_val (pe_callB call_isi (by rfl) B.n_isinstance (by decide +kernel) (pa_cons (pv 1) (pa_cons (pe_bltn (v := .ty "list") (by rfl) B.n_list (by decide +kernel) rfl) pa_nil)))) (pv 4) (pe_callTy call_tuple_of (by rfl) B.n_tuple (by decide +kernel) (pa_cons (pv 4) pa_nil))))))) pss_nil)
      (pss_cons (ps_if (PW.pt (pw_and (pt_val (pe_callB call_isi (by rfl) B.n_isinstance (by decide +kernel) (pa_cons (pv 1) (pa_cons (pe_bltn (v := .ty "int") (by rfl) B.n_int (by decide +kernel) rfl) pa_nil)))) (pw_and (pt_not (pt_val (pe_callB call_isi (by rfl) B.n_isinstance (by decide +kernel) (pa_cons (pv 1) (pa_cons (pe_bltn (v := .ty "bool") (by rfl) B.n_bool (by decide +kernel) rfl) pa_nil))))) (pw_and1 (pt_cmpR op_gt (pe_cl C.L_take hr (by omega) (by rfl) (pa_cons (pv 0) (pa_cons pe_int pa_nil))) pe_int (nomark _)))))) (pss_one (ps_ret (pe_ix ix_list (pe_lst (pa_cons (pe_op op_add (pv 1) pe_int) (pa_cons (pe_op op_sub (pv 1) pe_int) (pa_cons pe_int (pa_cons (pe_un un_neg (pv 1)) (pa_cons (pe_cmpR (op_eqD hr.units) (pv 1) pe_int (nomark _)) (pa_cons (pe_callTy call_str_int (by rfl) B.n_str (by decide +kernel) (pa_cons (pv 1) pa_nil)) pa_nil))))))) (pe_cl C.L_take hr (by omega) (by rfl) (pa_cons (pv 0) (pa_cons pe_int pa_nil))) (fun _ _ => rfl)))) pss_nil)
      (pss_cons (ps_if (PW.pt (pw_and (pt_val (pe_callB call_isi (by rfl) B.n_isinstance (by decide +kernel) (pa_cons (pv 1) (pa_cons (pe_bltn (v := .ty "str") (by rfl) B.n_str (by decide +kernel) rfl) pa_nil)))) (pw_and1 (pt_cmpR op_gt (pe_cl C.L_take hr (by omega) (by rfl) (pa_cons (pv 0) (pa_cons pe_int pa_nil))) pe_int (nomark _))))) (pss_one (ps_ret (pe_ix ix_list (pe_lst (pa_cons (pe_op op_add_str (pv 1) pe_str) (pa_cons (pe_slice sl_str (pv 1) (po_some pe_int) po_none) (pa_cons (pe_bm0 PySem.F.plainAttrs_str PySem.F.slot_str_lower PySem.F.type_str_lower mt_lower (pv 1)) (pa_cons (pe_op op_add_str (pv 1) pe_str) (pa_cons (pe_tup (pa_cons (pv 1) pa_nil)) (pa_cons (pe_revS (pv 1)) pa_nil))))))) (pe_cl C.L_take hr (by omega) (by rfl) (pa_cons (pv 0) (pa_cons pe_int pa_nil))) (fun _ _ => rfl)))) pss_nil)
      (pss_one (ps_ret (pe_cl C.L_odd hr (by omega) (by rfl) (pa_cons (pv 0) pa_nil))))))), ?_⟩
  rintro b ds c Φ ⟨x, L, rfl, ho, hL, rfl, rfl⟩
  have hseq : (isL x || isT x) = true → ∃ xs, IsSeq x xs := fun h => by
    cases x with
    | list xs => exact ⟨xs, .inl rfl⟩
    | tuple xs => exact ⟨xs, .inr rfl⟩
    | none => cases h
    | bool b => cases h
    | int b => cases h
    | str b => cases h
    | dict b => cases h
  refine (s_ifE0 (k := 0 + (0 + 1)) (k' := 4 * n + 3) (Φ := fun c => c = true → ∃ xs, IsSeq x xs ∧ xs ≠ []) (EvT.mono (t_andE (Φ2 := fun c => c = true → ∃ xs, IsSeq x xs ∧ xs ≠ []) (t_val (e_isiT (e_vd rfl) (kb_list _) (kb_tup _))) (fun h => ?t1)) (fun c hc hct => ?t2)) (fun h => ?b1) (fun _ => ?b2)).up (by omega)
  case t1 =>
    obtain ⟨xs, hs⟩ := hseq h.symm
    refine EvT.mono (t_andE (t_test (d_op (e_lenS (e_vd rfl) hs) e_int (rv_I0 fun _ => DD.bl _))) fun h2 => t_draw (e_take rfl e_int (by decide) (by decide)) e_int) fun c hc hct => ?_
    rcases hc with ⟨h1, _⟩ | ⟨h1, _⟩
    · rw [h1] at hct
      cases hct
    · refine ⟨xs, hs, fun z => ?_⟩
      subst z
      cases h1
  case t2 =>
    rcases hc with ⟨h1, _⟩ | ⟨_, h2⟩
    · rw [h1] at hct
      cases hct
    · exact h2 hct
  case b1 =>
    obtain ⟨xs, hs, hne⟩ := h rfl
    obtain ⟨m, rfl⟩ : ∃ m, n = m + 1 := by
      cases n with
      | zero => rcases hs with rfl | rfl <;> exact ho.elim
      | succ m => exact ⟨m, rfl⟩
    have ho2 : xs.length ≤ 30 + L ∧ ∀ y ∈ xs, Od m L y := by
      rcases hs with rfl | rfl <;> exact ho
    have hpos : 0 < xs.length := List.length_pos_iff.mpr hne
    have hup : ∀ y ∈ xs, Od (m + 2) (L + 1) y := fun y hy => (ho2.2 y hy).up (by omega) (by omega)
    refine s_end ?_
    intro r σ G H q w D _ brt _ _
    refine par3_own (k := 1) (k' := 1) (r := r + 4 * (m + 1)) (e_take (m := xs.length) rfl (e_lenS (e_vd rfl) hs) (by omega) (by omega)) (fun _ _ => e_take rfl e_int (by decide) (by decide)) (e_vd rfl) hs q (Wd.dn (j := 1) (w.eq (by omega))) ?_
    rintro s1 s2 G2 H2 l ys σ2 ⟨jj, rfl, j0, j1⟩ ⟨wy, rfl, y0, y1⟩ m2 w2 hl nG n0 nM dd q2
    obtain ⟨j, rfl⟩ := Int.eq_ofNat_of_zero_le j0
    have hj : j < xs.length := by omega
    have hlen := dd.len
    have z0 := q2.ref (i := 0) rfl
    obtain ⟨v1, z1, d1⟩ := q2.dat (i := 1) rfl
    have z2 := q2.int (i := 2) rfl
    have z3 := q2.int (i := 3) rfl
    have z4 := q2.ref (i := 4) rfl
    have hlb : l ≠ b := nM
    have fin : ∀ (G4 H4 : Hp) (ys' : List V) (xs' : List PyData), Mv (bx b).M G H G4 H4 → Wd (bx b) r G4 H4 → H4 l = some (.lst ys') → G4 l = none → (∀ a o, G2 a = some o → G4 a = some o) → DDs K G4 ys' xs' → xs'.length ≤ 30 + (L + 1) → (∀ y ∈ xs', Od (m + 2) (L + 1) y) →
        tRet (tIf (tB (tCB (rIsi K) (tCons (tVar 1) (tCons (tC (.ty "list")) tNil)))) (tVar 4) (tCB (fun xs H Q => ∃ p ys, xs = [.ref p] ∧ ((SqL K H p ys ∧ ∀ l, H l = none → Q (.ref l) (upd H l (.tup ys))) ∨ (SqT K H p ys ∧ Q (.ref p) H))) (tCons (tVar 4) tNil))) D σ2 H4 :=
      fun G4 H4 ys' xs' m4 w4 h4 n4 gg dd' hl' ho' => oth_fin (x := x) (q1 := isL x) (q2 := true) z4 m4 w4 h4 n4 n0 hlb dd' (fun Q hQ => isi_now (q2.mono gg) w4 rfl (kb_list x) Q hQ) hl' ho' brt
    have wr : Wd (bx b) r G2 H2 := Wd.dn (j := 4 * (m + 1)) w2
    refine ⟨_, z3, wy, 6, rfl, rfl, _, rfl, ite2 (fun e => ?_) (fun e => ?_)⟩
    · -- one item otherwise
      refine ⟨_, z0, v1, z1, _, z2, ix_now d1 hs w2.sub hj _ fun u du => ?_⟩
      refine ⟨b, [u], G2, [xs[j]], r, 4 * (m + 1), Od (m + 2) (L + 1), rfl, .cons du .nil, w2, ⟨xs[j], L, rfl, ho2.2 _ (List.getElem_mem hj), hL, rfl, rfl⟩, fun v d G3 H3 m3 w3 dv hd => ?_⟩
      have h3 : H3 l = some (.lst ys) := m3.kp l _ hl nM
      have n3 : G3 l = none := (m3.old l _ hl).trans nG
      refine ⟨_, z4, _, z2, l, ys, (j : Int), j, rfl, rfl, h3, ?_, ?_⟩
      · unfold ixN
        rw [if_pos (by omega), if_pos (by omega)]
        simp
      · refine fin G3 _ _ _ ((m2.trans m3).loc n0 n3) (w3.loc n3 nM) upd_same n3 m3.gr (DDs.set j (dd.mono m3.gr) dv) (by rw [List.length_set]; omega) fun y hy => ?_
        rcases List.mem_or_eq_of_mem_set hy with hy | rfl
        · exact hup y hy
        · exact hd
    · refine ⟨_, z3, rfl, _, rfl, ite2 (fun e => ?_) (fun e => ?_)⟩
      · -- pop
        obtain ⟨y, hy⟩ : ∃ y, ys[j]? = some y := ⟨_, List.getElem?_eq_getElem (by omega)⟩
        refine ⟨_, z4, .inl ⟨rfl, _, .inl (.inl hl)⟩, _, z2, l, ys, (j : Int), j, y, rfl, rfl, hl, by omega, by omega, ?_, hy, ?_⟩
        · exact seqIndex_of (by omega) (by omega)
        · refine fin G2 _ _ _ (m2.loc n0 nG) (wr.loc nG nM) upd_same nG (fun _ _ e => e) (DDs.erase j dd) (by rw [List.length_eraseIdx]; split <;> omega) fun y hy => hup y (List.mem_of_mem_eraseIdx hy)
      · refine ⟨_, z3, rfl, _, rfl, ite2 (fun e => ?_) (fun e => ?_)⟩
        · -- insert
          refine ⟨_, z4, .inl ⟨rfl, _, .inl (.inl hl)⟩, _, z2, v1, z1, _, z2, ix_now d1 hs w2.sub hj _ fun u du => ?_⟩
          refine ⟨l, ys, (j : Int), u, rfl, rfl, hl, Nat.lt_of_le_of_lt (show ys.length ≤ 100 by omega) (by decide), by omega, by omega, ?_⟩
          refine fin G2 _ _ (xs.take j ++ [xs[j]] ++ xs.drop j) (m2.loc n0 nG) (wr.loc nG nM) upd_same nG (fun _ _ e => e) (((dd.take j).append (.cons du .nil)).append (dd.drop j)) ?_ fun y hy => ?_
          · rw [List.length_append, List.length_append, List.length_take, List.length_drop, List.length_singleton]
            omega
          · rcases List.mem_append.mp hy with hy | hy
            · rcases List.mem_append.mp hy with hy | hy
              · exact hup y (List.mem_of_mem_take hy)
              · rw [List.mem_singleton.mp hy]
                exact hup _ (List.getElem_mem hj)
            · exact hup y (List.mem_of_mem_drop hy)
        · refine ⟨_, z3, rfl, _, rfl, ite2 (fun e => ?_) (fun e => ?_)⟩
          · -- reverse
            refine ⟨_, z4, .inl ⟨rfl, _, .inl (.inl hl)⟩, l, ys, rfl, rfl, hl, ?_⟩
            exact fin G2 _ _ _ (m2.loc n0 nG) (wr.loc nG nM) upd_same nG (fun _ _ e => e) dd.reverse (by rw [List.length_reverse]; omega) fun y hy => hup y (List.mem_reverse.mp hy)
          · -- the other kind
            exact oth_fin (x := x) (q1 := isT x) (q2 := true) z4 m2 wr hl nG n0 hlb dd (fun Q hQ => isi_now q2 wr rfl (kb_tup x) Q hQ) (by omega) hup brt
  case b2 =>
    refine (s_ifE0 (k := 0 + (0 + 1)) (k' := 2) (Φ := fun c => c = true → ∃ i, x = .int i) (EvT.mono (t_andE (t_val (e_isi (e_vd rfl) (kb_int _))) fun h1 => t_andE (t_not (t_val (e_isi (e_vd rfl) (kb_bool _)))) fun h2 => t_draw (e_take rfl e_int (by decide) (by decide)) e_int) (fun c hc hct => ?u1)) (fun h => s_retSeq ?u2) (fun _ => ?u3)).up (by omega)
    case u1 =>
      rcases hc with ⟨h1, _⟩ | ⟨h1, ⟨h2, _⟩ | ⟨h2, _⟩⟩
      · rw [h1] at hct
        cases hct
      · rw [h2] at hct
        cases hct
      · exact num_int (show isNum x = true by
          unfold isNum
          rw [← h1, ← h2]
          rfl)
    case u2 =>
      obtain ⟨i, rfl⟩ := h rfl
      have hi : i.natAbs ≤ 10 ^ 30 + L := by cases n <;> exact ho
      refine (e_op (k := 0) (k' := 1) (Φ := fun s => ∃ (c : Bool) (y : Str), s = .dat (.list [.int (i + 1), .int (i - 1), .int 0, .int (-i), .bool c, .str y]) ∧ y.length ≤ 50) (Φ' := fun _ s => ∃ j, s = .i j ∧ 0 ≤ j ∧ j < 6) ?w3 (fun _ _ => e_take rfl e_int (by decide) (by decide)) ?w4).up (by omega)
      case w3 =>
        have h40 : i.natAbs < 10 ^ 40 := Nat.lt_of_le_of_lt hi (by omega)
        refine e_lst (ak_cons (s := .i (i + 1)) (d_op (e_vd rfl) e_int (rv_I0 fun _ => DD.int _)) (ak_cons (s := .i (i - 1)) (d_op (e_vd rfl) e_int (rv_I0 fun _ => DD.int _)) (ak_cons (s := .i 0) e_int (ak_cons (s := .i (-i)) (d_un (e_vd rfl) fun _ => DD.int _) (ak_cons (s := .b (PyData.eqv (.int i) (.int 1))) (d_op (e_vd rfl) e_int (rv_eqD rfl rfl)) (a_last (d_cb (da_cons (e_vd rfl) a_nil) (rc_strE h40)))))))) ?_
        rintro ss ⟨l1, rfl, l2, rfl, l3, rfl, l4, rfl, l5, rfl, z, rfl, y, rfl, hy⟩
        exact ⟨[.int (i + 1), .int (i - 1), .int 0, .int (-i), .bool _, .str y], ⟨rfl, rfl, rfl, rfl, rfl, rfl, trivial⟩, by simp, _, y, rfl, hy⟩
      case w4 =>
        rintro s s' ⟨c, y, rfl, hy⟩ ⟨j, rfl, h0, h1⟩
        obtain ⟨d, hd, hm⟩ := atI_in (ds := ([.int (i + 1), .int (i - 1), .int 0, .int (-i), .bool c, .str y] : List PyData)) h0 h1
        refine (rv_ixL hd).mono fun z e => ⟨d, e, ?_⟩
        simp only [List.mem_cons, List.not_mem_nil, or_false] at hm
        rcases hm with rfl | rfl | rfl | rfl | rfl | rfl
        · show (i + 1).natAbs ≤ 10 ^ 30 + (L + 1)
          omega
        · show (i - 1).natAbs ≤ 10 ^ 30 + (L + 1)
          omega
        · show (0 : Int).natAbs ≤ 10 ^ 30 + (L + 1)
          omega
        · show (-i).natAbs ≤ 10 ^ 30 + (L + 1)
          omega
        · trivial
        · show y.length ≤ 50 * 4 ^ (L + 1)
          have h3 : 1 ≤ 4 ^ (L + 1) := Nat.one_le_pow _ _ (by decide)
          omega
    case u3 =>
      refine (s_ifE0 (k := 0 + 1) (k' := 1) (Φ := fun c => c = true → ∃ z, x = .str z) (EvT.mono (t_andE (t_val (e_isi (e_vd rfl) (kb_str _))) fun h1 => t_draw (e_take rfl e_int (by decide) (by decide)) e_int) (fun c hc hct => ?v1)) (fun h => s_retSeq ?v2) (fun _ => s_ret ?v3)).up (by omega)
      case v1 =>
        rcases hc with ⟨h1, _⟩ | ⟨h1, _⟩
        · rw [h1] at hct
          cases hct
        · cases x with
          | str z => exact ⟨z, rfl⟩
          | none => cases h1
          | bool b => cases h1
          | int b => cases h1
          | list b => cases h1
          | tuple b => cases h1
          | dict b => cases h1
      case v2 =>
        obtain ⟨z, rfl⟩ := h rfl
        have hz : z.length ≤ 50 * 4 ^ L := by cases n <;> exact ho
        have hp : 4 ^ L ≤ 4 ^ 5 := Nat.pow_le_pow_right (by decide) hL
        have hp1 : 1 ≤ 4 ^ L := Nat.one_le_pow _ _ (by decide)
        have hp2 : 4 ^ (L + 1) = 4 ^ L * 4 := Nat.pow_succ ..
        have hz2 : z.length ≤ 1000000 := by omega
        have hcut := cutS_length z (some 1) none
        have hlow := len_lower z
        refine (e_op (k := 0) (k' := 1) (Φ := fun s => ∃ y : Str, s = .dat (.list [.str (z ++ Str.ofString "+"), .str (cutS z (some 1) none), .str (Txt.lower z), .str (z ++ Str.ofString " "), .tuple [.str z], .str y]) ∧ y.length ≤ z.length) (Φ' := fun _ s => ∃ j, s = .i j ∧ 0 ≤ j ∧ j < 6) ?w1 (fun _ _ => e_take rfl e_int (by decide) (by decide)) ?w2).up (by omega)
        case w1 =>
          have h1 : z.length + (Str.ofString "+").length ≤ 1000000 := by
            show z.length + 1 ≤ _
            omega
          have h2 : z.length + (Str.ofString " ").length ≤ 1000000 := by
            show z.length + 1 ≤ _
            omega
          refine e_lst (ak_cons (s := .dat (.str (z ++ Str.ofString "+"))) (d_op (e_vd rfl) e_str (rv_addS h1)) (ak_cons (s := .dat (.str (cutS z (some 1) none))) (d_slS (e_vd rfl) e_int hz2) (ak_cons (s := .dat (.str (Txt.lower z))) (d_lower (e_vd rfl) hz2) (ak_cons (s := .dat (.str (z ++ Str.ofString " "))) (d_op (e_vd rfl) e_str (rv_addS h2)) (ak_cons (s := .dat (.tuple [.str z])) (d_tup (ds := [.str z]) (da_cons (e_vd rfl) a_nil)) (a_last (e_revS (e_vd rfl) hz2))))))) ?_
          rintro ss ⟨l1, rfl, l2, rfl, l3, rfl, l4, rfl, l5, rfl, z', rfl, y, rfl, hy⟩
          exact ⟨[.str (z ++ Str.ofString "+"), .str (cutS z (some 1) none), .str (Txt.lower z), .str (z ++ Str.ofString " "), .tuple [.str z], .str y], ⟨rfl, rfl, rfl, rfl, rfl, rfl, trivial⟩, by simp, y, rfl, hy⟩
        case w2 =>
          rintro s s' ⟨y, rfl, hy⟩ ⟨j, rfl, h0, h1⟩
          obtain ⟨d, hd, hm⟩ := atI_in (ds := ([.str (z ++ Str.ofString "+"), .str (cutS z (some 1) none), .str (Txt.lower z), .str (z ++ Str.ofString " "), .tuple [.str z], .str y] : List PyData)) h0 h1
          refine (rv_ixL hd).mono fun t e => ⟨d, e, ?_⟩
          simp only [List.mem_cons, List.not_mem_nil, or_false] at hm
          rcases hm with rfl | rfl | rfl | rfl | rfl | rfl
          · show (z ++ Str.ofString "+").length ≤ 50 * 4 ^ (L + 1)
            rw [str_add_len]
            show z.length + 1 ≤ _
            omega
          · show (cutS z (some 1) none).length ≤ 50 * 4 ^ (L + 1)
            omega
          · show (Txt.lower z).length ≤ 50 * 4 ^ (L + 1)
            omega
          · show (z ++ Str.ofString " ").length ≤ 50 * 4 ^ (L + 1)
            rw [str_add_len]
            show z.length + 1 ≤ _
            omega
          · refine ⟨by simp; omega, fun y hy => ?_⟩
            rw [List.mem_singleton.mp hy]
            show z.length ≤ 50 * 4 ^ (L + 1)
            omega
          · show y.length ≤ 50 * 4 ^ (L + 1)
            omega
      case v3 =>
        exact (e_callB (c := 1) (k := 0) (P := Rodd) rfl a_nil fun ss e => ⟨[], _, e ▸ trivial, ⟨rfl, rfl, rfl⟩, fun d hd => ⟨d, rfl, hd.up (by omega) (by omega)⟩⟩).up (by omega)
theorem cl_oth (B : Bi mg) (C2' : C2 P w K mg base) (hodd : Cl P w K mg base 2 "_law_odd" s_L_odd ["_law_box_here"] (spB K Rodd)) (F : Fun K "_law_otherwise" "_law_otherwise" s_L_otherwise f fd) (hm : mg "_law_otherwise" = some (.ref f)) (b : Binds K fd ["_law_box_here", "_law_item"] []) : ∀ n, Co P w K mg base n
  | 0 => ⟨C2'.L_take, hodd, ⟨f, fd, F, ⟨fun vs H Q E ⟨_, _, _, _, _, _, _, _, _, _, h, _⟩ => h.elim, fun _ _ _ _ _ _ _ _ _ _ _ _ _ ⟨_, _, _, _, _, _, _, _, _, _, h, _⟩ => h.elim⟩, hm, b⟩⟩
  | n + 1 => ⟨C2'.L_take, hodd, ⟨f, fd, F, ok_oth_step B (cl_oth B C2' hodd F hm b n) F, hm, b⟩⟩
end
end K00

namespace K00
open PySem PySem.Spec PyProof.Rows L2 ZX DL
/-! ### the mathematics of the law -/
theorem rooms_ok {ns : List Int} (h : ns ≠ []) (hn : ∀ n ∈ ns, 1 ≤ n) : areRooms (.tuple (ns.map .int)) = true := by
  show (!(ns.map PyData.int).isEmpty && (ns.map PyData.int).all fun d => isNum d && ge1 d) = true
  have h1 : (ns.map PyData.int).isEmpty = false := by
    cases ns with
    | nil => exact absurd rfl h
    | cons a l => rfl
  rw [h1]
  show ((ns.map PyData.int).all fun d => isNum d && ge1 d) = true
  rw [List.all_map, List.all_eq_true]
  intro n hm
  show (true && decide (1 ≤ n)) = true
  rw [decide_eq_true (hn n hm)]
  rfl
theorem stands_ok {ns ms : List Int} (h : Fits ns ms) : standsB ns (.tuple (ms.map .int)) = true := by
  show (decide ((ms.map PyData.int).length = ns.length) && (zipD (ns.map .int) (ms.map .int)).all fitB) = true
  rw [decide_eq_true (by rw [List.length_map]; exact h.1)]
  show (zipD (ns.map .int) (ms.map .int)).all fitB = true
  rw [List.all_eq_true]
  refine idx_mem fun j d hd => ?_
  obtain ⟨n, e, rfl, h1, h2⟩ := zip_fst hd
  rw [List.getElem?_map] at h1
  obtain ⟨m, hm, rfl⟩ := Option.map_eq_some_iff.mp h1
  rw [fitB_pair]
  have := h.2 j n m h2 hm
  simp
  exact this
theorem fits_bare {ns : List Int} (hn : ∀ n ∈ ns, 1 ≤ n) : Fits ns (List.replicate ns.length 0) := by
  refine ⟨List.length_replicate, fun j n m h1 h2 => ?_⟩
  have h3 := hn n (List.mem_of_getElem? h1)
  have h4 : m = 0 := by
    have := List.mem_of_getElem? h2
    exact List.eq_of_mem_replicate this
  omega
theorem fits_full {ns : List Int} (hn : ∀ n ∈ ns, 1 ≤ n) : Fits ns ns := by
  refine ⟨rfl, fun j n m h1 h2 => ?_⟩
  have h3 := hn n (List.mem_of_getElem? h1)
  cases h1.symm.trans h2
  omega
theorem lack_twice : ∀ {ns ms : List Int}, ms.length = ns.length → List.zipWith (fun n m => n - m) ns (List.zipWith (fun n m => n - m) ns ms) = ms
  | [], [], _ => rfl
  | n :: ns, m :: ms, h => by
    have ih := lack_twice (ns := ns) (ms := ms) (by simpa using h)
    show (n - (n - m)) :: _ = m :: ms
    rw [ih]
    congr 1
    omega
  | [], _ :: _, h => by cases h
  | _ :: _, [], h => by cases h
def subD : PyData → PyData
  | .tuple [.int n, .int m] => .int (n - m)
  | _ => .none
theorem sub_map : ∀ (ns ms : List Int), (zipD (ns.map .int) (ms.map .int)).map subD = (List.zipWith (fun n m => n - m) ns ms).map .int
  | [], _ => by
    unfold zipD
    simp
  | _ :: _, [] => by
    unfold zipD
    simp
  | n :: ns, m :: ms => congrArg (PyData.int (n - m) :: ·) (sub_map ns ms)
theorem odd_last (ns : List Int) : areRooms (.tuple (ns.map .int ++ [.int 0])) = false := by
  show (!(ns.map PyData.int ++ [PyData.int 0]).isEmpty && (ns.map PyData.int ++ [PyData.int 0]).all fun d => isNum d && ge1 d) = false
  rw [List.all_append]
  have : ([PyData.int 0].all fun d => isNum d && ge1 d) = false := rfl
  rw [this, Bool.and_false, Bool.and_false]
theorem od_ints {ns : List Int} (hl : ns.length ≤ 30) (hb : ∀ n ∈ ns, n.natAbs ≤ 1000) : Od 3 0 (.tuple (ns.map .int)) := by
  refine ⟨by rw [List.length_map]; omega, fun y hy => ?_⟩
  obtain ⟨n, hn, rfl⟩ := List.mem_map.mp hy
  show n.natAbs ≤ 10 ^ 30 + 0
  have := hb n hn
  omega
theorem od_sz {n L : Nat} {d : PyData} (h : Od n L d) (hL : L ≤ 5) : Sz d := by
  cases d with
  | tuple l =>
    cases n with
    | zero => exact h.elim
    | succ n =>
      have := h.1
      show l.length ≤ 100000
      omega
  | none => trivial
  | bool b => trivial
  | int b => trivial
  | str b => trivial
  | list b => trivial
  | dict b => trivial
theorem pl_ints {n : Nat} {ns : List Int} (h : ns.length ≤ 100000) : Pl (n + 1) (.tuple (ns.map .int)) := by
  refine ⟨by rw [List.length_map]; exact h, fun y hy => ?_⟩
  obtain ⟨m, _, rfl⟩ := List.mem_map.mp hy
  cases n <;> trivial
theorem pl_bools {n : Nat} {bs : List Bool} (h : bs.length ≤ 100000) : Pl (n + 1) (.list (bs.map .bool)) := by
  refine ⟨by rw [List.length_map]; exact h, fun y hy => ?_⟩
  obtain ⟨m, _, rfl⟩ := List.mem_map.mp hy
  cases n <;> trivial
/-! ### calls by keywords -/
section
variable {K : PySem.W.Frag}
theorem k_is_rooms_thing (f : Addr) (fd : FuncData) (F : Fun K "is_rooms" "is_rooms" s_is_rooms f fd) : KBn K fd ["thing"] 0 ["thing"] (fun _ ws => ws) (fun _ zs => zs) :=
  kb_of F (fun _ _ _ _ _ _ us ws h1 h2 => match us, ws, h1, h2 with | [], [_], _, _ => rfl) fun _ r => r
theorem k_full_rooms (f : Addr) (fd : FuncData) (F : Fun K "full" "full" s_full f fd) : KBn K fd ["rooms"] 0 ["rooms"] (fun _ ws => ws) (fun _ zs => zs) :=
  kb_of F (fun _ _ _ _ _ _ us ws h1 h2 => match us, ws, h1, h2 with | [], [_], _, _ => rfl) fun _ r => r
theorem k_is_standing_thing (f : Addr) (fd : FuncData) (F : Fun K "is_standing" "is_standing" s_is_standing f fd) : KBn K fd ["rooms", "thing"] 1 ["thing"] (fun us ws => us ++ ws) (fun vs zs => vs ++ zs) :=
  kb_of F (fun _ _ _ _ _ _ us ws h1 h2 => match us, ws, h1, h2 with | [_], [_], _, _ => rfl) fun r s => r.append s
theorem k_lacking_standing_rooms (f : Addr) (fd : FuncData) (F : Fun K "lacking" "lacking" s_lacking f fd) : KBn K fd ["rooms", "standing"] 0 ["standing", "rooms"] (fun _ ws => ws.reverse) (fun _ zs => zs.reverse) :=
  kb_of F (fun _ _ _ _ _ _ us ws h1 h2 => match us, ws, h1, h2 with | [], [_, _], _, _ => rfl) fun _ r => r.reverse
end
def RothU (N : Nat) : List PyData → Nat → (PyData → Prop) → Prop := fun ds c Φ => ∃ n, n ≤ N ∧ Roth n ds c Φ
section
variable {P : Program} {w : World} {K : PySem.W.Frag} {mg : Str → Option Value} {base : Heap} {f : Addr} {fd : FuncData}
structure Cr (P : Program) (w : World) (K : PySem.W.Frag) (mg : Str → Option Value) (base : Heap) : Prop where
  is_rooms : Cl P w K mg base 2 "is_rooms" s_is_rooms ["thing"] (spP K Rrooms)
  is_standing : Cl P w K mg base 2 "is_standing" s_is_standing ["rooms", "thing"] (spP K Rstands)
  bare : Cl P w K mg base 1 "bare" s_bare ["rooms"] (spP K Rbare)
  full : Cl P w K mg base 1 "full" s_full ["rooms"] (spP K Rfull)
  lacking : Cl P w K mg base 1 "lacking" s_lacking ["rooms", "standing"] (spP K Rlack)
  L_take : Cl P w K mg base 1 "_law_take" s_L_take ["_law_box_here", "_law_bound"] (spB K Rtake)
  L_same : Cl P w K mg base 3 "_law_same" s_L_same ["_law_found", "_law_due"] (spP K (RsameN 3))
  L_rooms : Cl P w K mg base 2 "_law_rooms" s_L_rooms ["_law_box_here", "_law_most"] (spB K Rdraw)
  L_standing : Cl P w K mg base 2 "_law_standing" s_L_standing ["_law_box_here", "_law_homes"] (spB K Rlie)
  L_otherwise : Cl P w K mg base 8 "_law_otherwise" s_L_otherwise ["_law_box_here", "_law_item"] (spB K (RothU 5))
  L_are_rooms : Cl P w K mg base 1 "_law_are_rooms" s_L_are_rooms ["_law_item"] (spP K Rrooms)
  L_stands : Cl P w K mg base 1 "_law_stands" s_L_stands ["_law_homes", "_law_item"] (spP K Rstands)
def Rright : List PyData → Nat → (PyData → Prop) → Prop := fun ds c Φ => ds = [] ∧ c = 2000 ∧ Φ = fun d => d = .bool true
theorem e_oth {b : Addr} {δ : List SD} {E : XK} {i : Nat} {n L : Nat} {x : PyData} {te : TE} (hi : δ[i]? = some (.ref b)) (h : Dt K (bx b) te δ (.dat x)) (ho : Od n L x) (hn : n ≤ 5) (hL : L ≤ 5) :
    Ev K (bx b) (tCall (spB K (RothU 5)) [] E (tCons (tVar i) (tCons te tNil))) δ 24 (fun s => ∃ d, s = .dat d ∧ Od (n + 2) (L + 1) d) :=
  (e_callB (c := 4 * (n + 1)) hi (da_cons h a_nil) fun ss e => ⟨[x], _, e ▸ ⟨rfl, trivial⟩, ⟨n, hn, x, L, rfl, ho, hL, rfl, rfl⟩, fun d hd => ⟨d, rfl, hd⟩⟩).up (by omega)
theorem e_draw {b : Addr} {δ : List SD} {E : XK} {i : Nat} {te : TE} (hi : δ[i]? = some (.ref b)) (h : Dt K (bx b) te δ (.i 12)) :
    Ev K (bx b) (tCall (spB K Rdraw) [] E (tCons (tVar i) (tCons te tNil))) δ 26 (fun s => ∃ ns : List Int, s = .dat (.tuple (ns.map .int)) ∧ ns ≠ [] ∧ ns.length ≤ 12 ∧ ∀ n ∈ ns, 1 ≤ n ∧ n ≤ 9) :=
  (e_callB (c := 26) hi (da_cons h a_nil) fun ss e => ⟨[.int 12], _, e ▸ ⟨rfl, trivial⟩, ⟨12, rfl, by decide, by decide, rfl, rfl⟩, fun d ⟨ns, e, r⟩ => ⟨ns, by rw [e], r⟩⟩).up (by omega)
theorem e_lie {b : Addr} {δ : List SD} {E : XK} {i : Nat} {te : TE} {ns : List Int} (hi : δ[i]? = some (.ref b)) (h : Dt K (bx b) te δ (.dat (.tuple (ns.map .int)))) (hl : ns.length ≤ 12) (hb : ∀ n ∈ ns, 1 ≤ n ∧ n ≤ 99) :
    Ev K (bx b) (tCall (spB K Rlie) [] E (tCons (tVar i) (tCons te tNil))) δ 36 (fun s => ∃ ms : List Int, s = .dat (.tuple (ms.map .int)) ∧ Fits ns ms) :=
  (e_callB (c := 36) hi (da_cons h a_nil) fun ss e => ⟨[.tuple (ns.map .int)], _, e ▸ ⟨rfl, trivial⟩, ⟨ns, rfl, hl, hb, rfl, rfl⟩, fun d ⟨ms, e, r⟩ => ⟨ms, by rw [e], r⟩⟩).up (by omega)
theorem fits_abs {ns ms : List Int} (h : Fits ns ms) (hb : ∀ n ∈ ns, 1 ≤ n ∧ n ≤ 9) : ∀ m ∈ ms, m.natAbs ≤ 1000 := fun m hm => by
  obtain ⟨j, hj⟩ := List.mem_iff_getElem?.mp hm
  have lt : j < ms.length := (List.getElem?_eq_some_iff.mp hj).1
  have lt2 : j < ns.length := by rw [← h.1]; exact lt
  have h1 : ns[j]? = some ns[j] := List.getElem?_eq_getElem lt2
  have h2 := h.2 j _ m h1 hj
  have h3 := hb _ (List.getElem_mem lt2)
  omega
set_option maxHeartbeats 1000000 in
theorem ok_right (B : Bi mg) (C : Cr P w K mg base) (F : Fun K "_law_right" "_law_right" s_L_right f fd) : FnOk P w K mg base CX0 9 f fd ["_law_box_here"] (spB K Rright) := by
  refine fn_box F c_L_right (fun ds c Φ ⟨e, _⟩ => by rw [e]; rfl) fun cdv A outer s H E hr => ⟨_, (pss_cons (ps_set (i := 1) c_L_right.nd rfl (.inl rfl) (pe_cl C.L_rooms hr (by omega) (by rfl) (pa_cons (pv 0) (pa_cons pe_int pa_nil))))
      (pss_cons (ps_set (i := 2) c_L_right.nd rfl (.inl rfl) (pe_cl C.L_standing hr (by omega) (by rfl) (pa_cons (pv 0) (pa_cons (pv 1) pa_nil))))
      (pss_cons (ps_for PassesOwn.never rfl (pi_range1 (by rfl) B.n_range (pa_cons pe_int pa_nil)) (pg_name (i := 3) c_L_right.nd rfl (.inl rfl)) (pss_cons (ps_par (i := 4) (j := 5) (by rfl) c_L_right.nd rfl rfl (by decide) rfl rfl (pa_cons (pe_cl C.L_otherwise hr (by omega) (by rfl) (pa_cons (pv 0) (pa_cons (pv 1) pa_nil))) (pa_cons (pe_cl C.L_otherwise hr (by omega) (by rfl) (pa_cons (pv 0) (pa_cons (pv 2) pa_nil))) pa_nil)) (by rfl))
      (pss_cons (ps_if (pt_cmpR op_eq (pe_cl C.L_take hr (by omega) (by rfl) (pa_cons (pv 0) (pa_cons pe_int pa_nil))) pe_int (nomark _)) (pss_one (ps_par (i := 4) (j := 5) (by rfl) c_L_right.nd rfl rfl (by decide) rfl rfl (pa_cons (pe_cl C.L_otherwise hr (by omega) (by rfl) (pa_cons (pv 0) (pa_cons (pv 4) pa_nil))) (pa_cons (pe_cl C.L_otherwise hr (by omega) (by rfl) (pa_cons (pv 0) (pa_cons (pv 5) pa_nil))) pa_nil)) (by rfl))) pss_nil)
      (pss_cons (ps_set (i := 6) c_L_right.nd rfl (.inl rfl) (pe_lst (pa_cons (pe_cl C.is_rooms hr (by omega) (by rfl) (pa_cons (pv 4) pa_nil)) (pa_cons (pe_clk0 C.is_rooms hr (by omega) (by rfl) (k_is_rooms_thing) (pk_cons (pv 5) pk_nil)) (pa_cons (pe_cl C.is_standing hr (by omega) (by rfl) (pa_cons (pv 1) (pa_cons (pv 5) pa_nil))) (pa_cons (pe_clk C.is_standing hr (by omega) (by rfl) (k_is_standing_thing) (pa_cons (pe_callTy call_list_of (by rfl) B.n_list (by decide +kernel) (pa_cons (pv 1) pa_nil)) pa_nil) (pk_cons (pv 4) pk_nil)) pa_nil))))))
      (pss_cons (ps_set (i := 7) c_L_right.nd rfl (.inl rfl) (pe_lst (pa_cons (pe_cl C.L_are_rooms hr (by omega) (by rfl) (pa_cons (pv 4) pa_nil)) (pa_cons (pe_cl C.L_are_rooms hr (by omega) (by rfl) (pa_cons (pv 5) pa_nil)) (pa_cons (pe_cl C.L_stands hr (by omega) (by rfl) (pa_cons (pv 1) (pa_cons (pv 5) pa_nil))) (pa_cons (pe_cl C.L_stands hr (by omega) (by rfl) (pa_cons (pv 1) (pa_cons (pv 4) pa_nil))) pa_nil))))))
      (pss_one (ps_if (pt_not (pt_val (pe_cl C.L_same hr (by omega) (by rfl) (pa_cons (pv 6) (pa_cons (pv 7) pa_nil))))) (pss_one (ps_ret pe_bl)) pss_nil)))))))
      (pss_cons (ps_set (i := 6) c_L_right.nd rfl (.inl rfl) (pe_lst (pa_cons (pe_cl C.is_rooms hr (by omega) (by rfl) (pa_cons (pv 1) pa_nil)) (pa_cons (pe_cl C.is_standing hr (by omega) (by rfl) (pa_cons (pv 1) (pa_cons (pv 2) pa_nil))) (pa_cons (pe_cl C.is_standing hr (by omega) (by rfl) (pa_cons (pv 1) (pa_cons (pe_cl C.bare hr (by omega) (by rfl) (pa_cons (pv 1) pa_nil)) pa_nil))) (pa_cons (pe_cl C.is_standing hr (by omega) (by rfl) (pa_cons (pv 1) (pa_cons (pe_cl C.full hr (by omega) (by rfl) (pa_cons (pv 1) pa_nil)) pa_nil))) pa_nil))))))
      (pss_cons (ps_if (PW.pt (pw_or (pt_cmpR (op_neD hr.units) (pv 6) (pe_op op_rep (pe_lst (pa_cons pe_bl pa_nil)) pe_int) (nomark _)) (pw_or1 (pt_not (pt_val (pe_cl C.L_same hr (by omega) (by rfl) (pa_cons (pe_lst (pa_cons (pe_cl C.bare hr (by omega) (by rfl) (pa_cons (pe_callTy call_list_of (by rfl) B.n_list (by decide +kernel) (pa_cons (pv 1) pa_nil)) pa_nil)) (pa_cons (pe_clk0 C.full hr (by omega) (by rfl) (k_full_rooms) (pk_cons (pv 1) pk_nil)) pa_nil))) (pa_cons (pe_lst (pa_cons (pe_op op_repX (pe_tup (pa_cons pe_int pa_nil)) (pe_callB call_len_seq (by rfl) B.n_len (by decide +kernel) (pa_cons (pv 1) pa_nil))) (pa_cons (pv 1) pa_nil))) pa_nil)))))))) (pss_one (ps_ret pe_bl)) pss_nil)
      (pss_cons (ps_set (i := 8) c_L_right.nd rfl (.inl rfl) (pe_callTy call_tuple_of (by rfl) B.n_tuple (by decide +kernel) (pa_cons (pe_lc (own := [("_law_room", 10), ("_law_many", 11)]) (g := gTup K 2 (gCons (gName 10) (gCons (gName 11) gNil))) (tt := tYes) rfl c_L_right.nd (pi_zipX (by rfl) B.n_zip (pa_cons (pv 1) (pa_cons (pv 2) pa_nil))) (blkOk_by (N := N_L_right) (sc := defScope s_L_right) (by decide +kernel)) (fun _ _ _ _ _ => (pg_tup rfl (pgs_cons (pg_name (i := 10) c_L_right.nd rfl (.inl rfl)) (pgs_cons (pg_name (i := 11) c_L_right.nd rfl (.inl rfl)) pgs_nil)))) (fun _ _ _ _ _ => pts_nil) (fun _ _ _ _ _ => (pe_op op_sub (pv 10) (pv 11)))) pa_nil)))
      (pss_cons (ps_if (pt_not (pt_val (pe_cl C.L_same hr (by omega) (by rfl) (pa_cons (pe_lst (pa_cons (pe_cl C.lacking hr (by omega) (by rfl) (pa_cons (pv 1) (pa_cons (pe_callTy call_list_of (by rfl) B.n_list (by decide +kernel) (pa_cons (pv 2) pa_nil)) pa_nil))) (pa_cons (pe_clk0 C.lacking hr (by omega) (by rfl) (k_lacking_standing_rooms) (pk_cons (pv 8) (pk_cons (pe_callTy call_list_of (by rfl) B.n_list (by decide +kernel) (pa_cons (pv 1) pa_nil)) pk_nil))) pa_nil))) (pa_cons (pe_lst (pa_cons (pv 8) (pa_cons (pv 2) pa_nil))) pa_nil))))) (pss_one (ps_ret pe_bl)) pss_nil)
      (pss_cons (ps_set (i := 9) c_L_right.nd rfl (.inl rfl) (pe_lst (pa_cons (pe_tup pa_nil) (pa_cons (pe_lst pa_nil) (pa_cons pe_non (pa_cons (pe_op op_catT (pv 1) (pe_tup (pa_cons pe_int pa_nil))) (pa_cons (pe_callTy call_list_of (by rfl) B.n_list (by decide +kernel) (pa_cons (pv 1) pa_nil)) (pa_cons pe_int (pa_cons (pe_tup (pa_cons pe_bl pa_nil)) (pa_cons pe_str pa_nil))))))))))
      (pss_one (ps_ret (pe_cmpR (op_eqD hr.units) (pe_lc (own := [("_law_item", 12)]) (g := gName 12) (tt := tYes) rfl c_L_right.nd (pi_list (pv 9)) (blkOk_by (N := N_L_right) (sc := defScope s_L_right) (by decide +kernel)) (fun _ _ _ _ _ => (pg_name (i := 12) c_L_right.nd rfl (.inl rfl))) (fun _ _ _ _ _ => pts_nil) (fun _ _ _ _ _ => (pe_cl C.is_rooms hr (by omega) (by rfl) (pa_cons (pv 12) pa_nil)))) (pe_op op_rep (pe_lst (pa_cons pe_bl pa_nil)) pe_int) (nomark _)))))))))))), ?_⟩
  rintro b ds c Φ ⟨rfl, rfl, rfl⟩
  refine (s_set (k := 26) (k' := 1900) (e_draw rfl e_int) ?_).up (by omega)
  rintro s ⟨ns, rfl, hne, hl, hb⟩
  refine (s_set (k := 36) (k' := 1800) (e_lie rfl (e_vd rfl) hl fun n hn => ⟨(hb n hn).1, by have := (hb n hn).2; omega⟩) ?_).up (by omega)
  rintro s ⟨ms, rfl, hf⟩
  have h1 : ∀ n ∈ ns, 1 ≤ n := fun n hn => (hb n hn).1
  have oP : Od 3 0 (.tuple (ns.map .int)) := od_ints (by omega) fun n hn => by have := hb n hn; omega
  have oL : Od 3 0 (.tuple (ms.map .int)) := od_ints (by rw [hf.1]; omega) (fits_abs hf hb)
  refine (s_seq (k := 0 + 150 * (rangeD 0 (Int.toNat 8)).length) (k' := 0) (N := fun δ' => ∃ u3 u4 u5 u6 u7, δ' = [.ref b, .dat (.tuple (ns.map .int)), .dat (.tuple (ms.map .int)), u3, u4, u5, u6, u7, .unk, .unk, .unk, .unk, .unk])
    (s_for (vs := [3]) (fun _ δ' => ∃ u3 u4 u5 u6 u7, δ' = [.ref b, .dat (.tuple (ns.map .int)), .dat (.tuple (ms.map .int)), u3, u4, u5, u6, u7, .unk, .unk, .unk, .unk, .unk]) (i_rngE (n := 8) (da_cons e_int a_nil) (by decide) (by decide)) ⟨_, _, _, _, _, rfl⟩ ?turn (fun _ h => h)) ?rest).up (by rw [rangeD_len]; decide)
  case turn =>
    rintro j d δ' hd ⟨u3, u4, u5, u6, u7, rfl⟩
    refine ⟨_, tg_name, ?_⟩
    refine (s_seq (k := 48) (k' := 102) (N := fun δ' => ∃ d1 d2, δ' = [.ref b, .dat (.tuple (ns.map .int)), .dat (.tuple (ms.map .int)), .dat d, .dat d1, .dat d2, u6, u7, .unk, .unk, .unk, .unk, .unk] ∧ Od 5 1 d1 ∧ Od 5 1 d2)
      (s_par (a_cons (k := 24) (k' := 24) (e_oth rfl (e_vd rfl) oP (by decide) (by decide)) fun _ _ => a_last (e_oth rfl (e_vd rfl) oL (by decide) (by decide))) ?p1) ?p2).up (by omega)
    case p1 =>
      rintro ss ⟨s1, l1, rfl, ⟨d1, rfl, o1⟩, s2, rfl, d2, rfl, o2⟩
      exact ⟨_, _, rfl, d1, d2, rfl, o1, o2⟩
    case p2 =>
      rintro δ' ⟨d1, d2, rfl, o1, o2⟩
      refine (s_seq (k := 1 + 48) (k' := 0) (N := fun δ' => ∃ e1 e2, δ' = [.ref b, .dat (.tuple (ns.map .int)), .dat (.tuple (ms.map .int)), .dat d, .dat e1, .dat e2, u6, u7, .unk, .unk, .unk, .unk, .unk] ∧ Od 7 2 e1 ∧ Od 7 2 e2)
        (s_ifE (Φ := fun _ => True) (t_testE ((e_op (k := 1) (k' := 0) (Φ' := fun _ s => s = .i 0) (e_take rfl e_int (by decide) (by decide)) (fun _ _ => e_int) ?i1))) (fun _ => s_par (a_cons (k := 24) (k' := 24) (e_oth rfl (e_vd rfl) o1 (by decide) (by decide)) fun _ _ => a_last (e_oth rfl (e_vd rfl) o2 (by decide) (by decide))) ?i2) (fun _ => (s_next ?i3).up (by omega))) ?i4).up (by omega)
      case i1 =>
        rintro s s' ⟨j, rfl, _, _⟩ rfl
        exact rv_eqI.mono fun z e => ⟨_, e, trivial⟩
      case i2 =>
        rintro ss ⟨s1, l1, rfl, ⟨e1, rfl, p1⟩, s2, rfl, e2, rfl, p2⟩
        exact ⟨_, _, rfl, e1, e2, rfl, p1, p2⟩
      case i3 => exact ⟨d1, d2, rfl, o1.up (by decide) (by decide), o2.up (by decide) (by decide)⟩
      case i4 =>
        rintro δ' ⟨e1, e2, rfl, p1, p2⟩
        have z1 := od_sz p1 (by decide)
        have z2 := od_sz p2 (by decide)
        refine sd_set (s := .dat (.list ([areRooms e1, areRooms e2, standsB ns e2, standsB ns e1].map .bool))) (d_lst (ds := [.bool (areRooms e1), .bool (areRooms e2), .bool (standsB ns e2), .bool (standsB ns e1)]) (da_cons (d_call (ds := [e1]) (da_cons (e_vd rfl) a_nil) ⟨e1, rfl, z1, rfl⟩) (da_cons (d_callN (ds := []) (es := [e2]) (gD := [e2]) a_nil (da_cons (e_vd rfl) a_nil) (fun _ _ _ _ h => h) ⟨e2, rfl, z2, rfl⟩) (da_cons (d_call (ds := [.tuple (ns.map .int), e2]) (da_cons (e_vd rfl) (da_cons (e_vd rfl) a_nil)) ⟨_, e2, ns, rfl, .inr rfl, z2, rfl⟩)
          (da_cons (d_callN (ds := [.list (ns.map .int)]) (es := [e1]) (gD := [.list (ns.map .int), e1]) (da_cons (d_cb (da_cons (e_vd rfl) a_nil) rc_listT) a_nil) (da_cons (e_vd rfl) a_nil) (fun _ _ _ h h' => h.append h') ⟨_, e1, ns, rfl, .inl rfl, z1, rfl⟩) a_nil))))) ?_
        refine sd_set (s := .dat (.list ([areRooms e1, areRooms e2, standsB ns e2, standsB ns e1].map .bool))) (d_lst (ds := [.bool (areRooms e1), .bool (areRooms e2), .bool (standsB ns e2), .bool (standsB ns e1)]) (da_cons (d_call (ds := [e1]) (da_cons (e_vd rfl) a_nil) ⟨e1, rfl, z1, rfl⟩) (da_cons (d_call (ds := [e2]) (da_cons (e_vd rfl) a_nil) ⟨e2, rfl, z2, rfl⟩) (da_cons (d_call (ds := [.tuple (ns.map .int), e2]) (da_cons (e_vd rfl) (da_cons (e_vd rfl) a_nil)) ⟨_, e2, ns, rfl, .inr rfl, z2, rfl⟩)
          (da_cons (d_call (ds := [.tuple (ns.map .int), e1]) (da_cons (e_vd rfl) (da_cons (e_vd rfl) a_nil)) ⟨_, e1, ns, rfl, .inr rfl, z1, rfl⟩) a_nil))))) ?_
        refine s_if (c := false) ((t_not (t_val (d_call (ds := [_, _]) (da_cons (e_vd rfl) (da_cons (e_vd rfl) a_nil)) ⟨_, rfl, pl_bools (n := 1) (by simp), rfl⟩))).mono fun c h => by rw [h]; rfl) (fun h => nomatch h) fun _ => s_next ?_
        exact ⟨_, _, _, _, _, rfl⟩
  case rest =>
    rintro δ' ⟨u3, u4, u5, u6, u7, rfl⟩
    have hP : areRooms (.tuple (ns.map .int)) = true := rooms_ok hne h1
    have hL : standsB ns (.tuple (ms.map .int)) = true := stands_ok hf
    have hB : standsB ns (.tuple (List.replicate ns.length (.int 0))) = true := by
      have := stands_ok (fits_bare h1)
      rw [List.map_replicate] at this
      exact this
    have hF : standsB ns (.tuple (ns.map .int)) = true := stands_ok (fits_full h1)
    have lP : (ns.map PyData.int).length ≤ 100000 := by rw [List.length_map]; omega
    have lL : (ms.map PyData.int).length ≤ 100000 := by rw [List.length_map, hf.1]; omega
    have dBare : ∀ {δ : List SD} {te : TE} {d : PyData}, Dt K (bx b) te δ (.dat d) → IsSeq d (ns.map .int) → Dt K (bx b) (tCall (spP K Rbare) [] E0 (tCons te tNil)) δ (.dat (.tuple (List.replicate ns.length (.int 0)))) := fun h hs => d_call (ds := [_]) (da_cons h a_nil) ⟨_, ns, rfl, hs, hne, by omega, rfl⟩
    refine sd_set (s := .dat (.list [.bool true, .bool true, .bool true, .bool true])) (d_lst (ds := [.bool true, .bool true, .bool true, .bool true]) (da_cons (d_call (ds := [.tuple (ns.map .int)]) (da_cons (e_vd rfl) a_nil) ⟨_, rfl, lP, by rw [hP]⟩) (da_cons (d_call (ds := [.tuple (ns.map .int), .tuple (ms.map .int)]) (da_cons (e_vd rfl) (da_cons (e_vd rfl) a_nil)) ⟨_, _, ns, rfl, .inr rfl, lL, by rw [hL]⟩)
      (da_cons (d_call (ds := [.tuple (ns.map .int), .tuple (List.replicate ns.length (.int 0))]) (da_cons (e_vd rfl) (da_cons (dBare (e_vd rfl) (.inr rfl)) a_nil)) ⟨_, _, ns, rfl, .inr rfl, by show (List.replicate _ _).length ≤ _; rw [List.length_replicate]; omega, by rw [hB]⟩)
      (da_cons (d_call (ds := [.tuple (ns.map .int), .tuple (ns.map .int)]) (da_cons (e_vd rfl) (da_cons (d_call (ds := [.tuple (ns.map .int)]) (da_cons (e_vd rfl) a_nil) ⟨_, _, rfl, .inr rfl, rfl⟩) a_nil)) ⟨_, _, ns, rfl, .inr rfl, lP, by rw [hF]⟩) a_nil))))) ?_
    have plS : Pl 2 (.list [.tuple (List.replicate ns.length (.int 0)), .tuple (ns.map .int)]) := by
      refine ⟨by simp, fun y hy => ?_⟩
      rcases List.mem_cons.mp hy with rfl | hy
      · have := pl_ints (n := 0) (ns := List.replicate ns.length 0) (by rw [List.length_replicate]; omega)
        rw [List.map_replicate] at this
        exact this
      · rw [List.mem_singleton.mp hy]
        exact pl_ints (by omega)
    refine s_if0 (c := false) ((t_or (c := false) (d := false) ((t_test (d_op (e_vd rfl) (e_rep (ds := [.bool true]) (d_lst (ds := [.bool true]) (da_cons e_bl a_nil)) e_int (by decide) (by decide)) (rv_neD rfl rfl))).mono fun c h => by rw [h]; rfl) fun _ => (t_not (t_val (d_call (ds := [.list [.tuple (List.replicate ns.length (.int 0)), .tuple (ns.map .int)], .list [.tuple (List.replicate ns.length (.int 0)), .tuple (ns.map .int)]])
      (da_cons (d_lst (ds := [.tuple (List.replicate ns.length (.int 0)), .tuple (ns.map .int)]) (da_cons (dBare (d_cb (da_cons (e_vd rfl) a_nil) rc_listT) (.inl rfl)) (da_cons (d_callN (ds := []) (es := [.tuple (ns.map .int)]) (gD := [.tuple (ns.map .int)]) a_nil (da_cons (e_vd rfl) a_nil) (fun _ _ _ _ h => h) ⟨_, _, rfl, .inr rfl, rfl⟩) a_nil)))
        (da_cons (d_lst (ds := [.tuple (List.replicate ns.length (.int 0)), .tuple (ns.map .int)]) (da_cons ((e_repX (d_tup (ds := [.int 0]) (da_cons e_int a_nil)) (e_lenS (e_vd rfl) (.inr rfl)) (by simp) ?g1 (by decide)).mono fun s e => ?g2) (da_cons (e_vd rfl) a_nil))) a_nil)) ⟨_, rfl, plS, rfl⟩))).mono fun c h => by rw [h]; rfl).mono fun c h => by rw [h]; rfl) (fun h => nomatch h) fun _ => ?_
    case g1 =>
      rw [List.length_map]
      have := List.length_pos_iff.mpr hne
      omega
    case g2 =>
      rw [e, List.length_map, flat_one]
      rfl
    -- what each lacks
    generalize hk : List.zipWith (fun n m => n - m) ns ms = ks
    have hz : ∀ (j : Nat) (d : PyData), (zipD (ns.map .int) (ms.map .int))[j]? = some d → ∃ n m : Int, d = .tuple [.int n, .int m] := fun j d hd => by
      obtain ⟨n, e, rfl, h1, _⟩ := zip_fst hd
      rw [List.getElem?_map] at h1
      obtain ⟨m, _, rfl⟩ := Option.map_eq_some_iff.mp h1
      exact ⟨n, m, rfl⟩
    refine sd_set (s := .dat (.tuple (ks.map .int))) (d_cb (ss := [.dat (.list (ks.map .int))]) (da_cons ((d_lc (f := subD) (δg := fun d => match d with | .tuple [x, y] => [.ref b, .dat (.tuple (ns.map .int)), .dat (.tuple (ms.map .int)), u3, u4, u5, .dat (.list [.bool true, .bool true, .bool true, .bool true]), u7, .unk, .unk, .dat x, .dat y, .unk] | _ => []) (i_zip (da_cons (e_vd rfl) (da_cons (e_vd rfl) a_nil)) (.inr rfl) (.inr rfl)) (fun j d hd => ?l1) (fun j d hd => ?l2) ?l3).mono fun s e => ?l4) a_nil) rc_tupL) ?_
    case l1 =>
      obtain ⟨n, m, rfl⟩ := hz j d hd
      exact tg_pair
    case l2 =>
      obtain ⟨n, m, rfl⟩ := hz j d hd
      exact d_op (e_vd rfl) (e_vd rfl) (rv_I0 fun _ => DD.int _)
    case l3 =>
      unfold zipD
      rw [List.length_zipWith]
      omega
    case l4 =>
      rw [e, ← hk, sub_map]
    have ek : List.zipWith (fun n m => n - m) ns ks = ms := by
      rw [← hk]
      exact lack_twice hf.1
    have lk : ks.length = ns.length := by
      rw [← hk, List.length_zipWith, hf.1]
      omega
    have plT : Pl 2 (.list [.tuple (ks.map .int), .tuple (ms.map .int)]) := by
      refine ⟨by simp, fun y hy => ?_⟩
      rcases List.mem_cons.mp hy with rfl | hy
      · exact pl_ints (by omega)
      · rw [List.mem_singleton.mp hy]
        exact pl_ints (by rw [hf.1]; omega)
    refine s_if0 (c := false) ((t_not (t_val (d_call (ds := [.list [.tuple (ks.map .int), .tuple (ms.map .int)], .list [.tuple (ks.map .int), .tuple (ms.map .int)]])
      (da_cons (d_lst (ds := [.tuple (ks.map .int), .tuple (ms.map .int)]) (da_cons (d_call (ds := [.tuple (ns.map .int), .list (ms.map .int)]) (da_cons (e_vd rfl) (da_cons (d_cb (da_cons (e_vd rfl) a_nil) rc_listT) a_nil)) ⟨_, _, ns, ms, rfl, .inr rfl, .inl rfl, by omega, hf.1, by rw [hk]⟩) (da_cons (d_callN (ds := []) (es := [.tuple (ks.map .int), .list (ns.map .int)]) (gD := [.list (ns.map .int), .tuple (ks.map .int)]) a_nil (da_cons (e_vd rfl) (da_cons (d_cb (da_cons (e_vd rfl) a_nil) rc_listT) a_nil)) (fun _ _ _ _ h => h.reverse) ⟨_, _, ns, ks, rfl, .inl rfl, .inr rfl, by omega, lk, by rw [ek]⟩) a_nil)))
        (da_cons (d_lst (ds := [.tuple (ks.map .int), .tuple (ms.map .int)]) (da_cons (e_vd rfl) (da_cons (e_vd rfl) a_nil))) a_nil)) ⟨_, rfl, plT, rfl⟩))).mono fun c h => by rw [h]; rfl) (fun h => nomatch h) fun _ => ?_
    refine sd_set (s := .dat (.list [.tuple [], .list [], .none, .tuple (ns.map .int ++ [.int 0]), .list (ns.map .int), .int 7, .tuple [.bool true], .str (Str.ofString "1")])) (d_lst (ds := [.tuple [], .list [], .none, .tuple (ns.map .int ++ [.int 0]), .list (ns.map .int), .int 7, .tuple [.bool true], .str (Str.ofString "1")]) (da_cons (d_tup (ds := []) a_nil) (da_cons (d_lst (ds := []) a_nil) (da_cons e_non (da_cons (d_op (e_vd rfl) (d_tup (ds := [.int 0]) (da_cons e_int a_nil)) (rv_catT (by rw [List.length_map]; simp; omega) (by simpa using hne))) (da_cons (d_cb (da_cons (e_vd rfl) a_nil) rc_listT) (da_cons e_int (da_cons (d_tup (ds := [.bool true]) (da_cons e_bl a_nil)) (da_cons e_str a_nil))))))))) ?_
    refine s_ret ((d_op (s := .dat (.list [.bool false, .bool false, .bool false, .bool false, .bool false, .bool false, .bool false, .bool false])) ((d_lc (f := fun d => .bool (areRooms d)) (i_list (e_vd rfl)) (fun j d _ => tg_name) (fun j d hd => d_call (ds := [d]) (da_cons (e_vd rfl) a_nil) ⟨d, rfl, ?q1, rfl⟩) (by simp)).mono fun s e => ?q2) (e_rep (ds := [.bool false]) (d_lst (ds := [.bool false]) (da_cons e_bl a_nil)) e_int (by decide) (by decide)) (rv_eqD rfl rfl)).mono fun s e => ⟨_, e, rfl⟩)
    case q1 =>
      have hm := List.mem_of_getElem? hd
      simp only [List.mem_cons, List.not_mem_nil, or_false] at hm
      rcases hm with rfl | rfl | rfl | rfl | rfl | rfl | rfl | rfl
      · exact Nat.zero_le _
      · trivial
      · trivial
      · show (ns.map PyData.int ++ [PyData.int 0]).length ≤ 100000
        rw [List.length_append, List.length_map]
        simp
        omega
      · trivial
      · trivial
      · show 1 ≤ 100000
        decide
      · trivial
    case q2 =>
      rw [e]
      simp only [List.map_cons, List.map_nil, odd_last]
      rfl
end
end K00

namespace K00
open PySem PySem.Spec PyProof.Rows L2 ZX DL
section
variable {P : Program} {w : World} {K : PySem.W.Frag} {mg : Str → Option Value} {base : Heap} {f : Addr} {fd : FuncData}
theorem b01 (c : Bool) : 0 ≤ (if c = true then (1 : Int) else 0) ∧ (if c = true then (1 : Int) else 0) ≤ 1 := by
  cases c <;> decide
def spBox (K : PySem.W.Frag) : Sp := fun vs H Q _ => ∃ (a : Addr) (ns : List Int) (k : Int), vs = [.ref a, .int k] ∧ SqL K H a (ns.map V.int) ∧ 0 ≤ k ∧ k ≤ 100 ∧ ∀ p (c0 c1 : Int), H p = none → 0 ≤ c0 → 0 ≤ c1 → c1 < 2 ^ 33 → Q (.ref p) (upd H p (.lst [.int c0, .int c1, .int 0]))
theorem ok_box (B : Bi mg) (F : Fun K "_law_box" "_law_box" s_L_box f fd) : FnOk P w K mg base CX0 1 f fd ["_law_script", "_law_k"] (spBox K) := by
  refine F.ok c_L_box (fun vs H Q E h => ?_) (fun cdv A outer s H vs Q E hr h => ?_)
  · obtain ⟨a, ns, k, rfl, _⟩ := h
    rfl
  · obtain ⟨a, ns, k, rfl, hS, k0, k1, q⟩ := h
    refine ⟨_, (pss_cons (ps_set (i := 2) c_L_box.nd rfl (.inl rfl) pe_int)
      (pss_cons (ps_if (pt_cmpR op_lt (pv 1) (pe_callB call_len_seq (by rfl) B.n_len (by decide +kernel) (pa_cons (pv 0) pa_nil)) (nomark _)) (pss_one (ps_set (i := 2) c_L_box.nd rfl (.inl rfl) (pe_ix ix_list (pv 0) (pv 1) (fun _ _ => rfl)))) pss_nil)
      (pss_one (ps_ret (pe_lst (pa_cons (pe_op op_mul (pe_callB call_abs (by rfl) B.n_abs (by decide +kernel) (pa_cons (pv 2) pa_nil)) (pe_callTy call_int1 (by rfl) B.n_int (by decide +kernel) (pa_cons (pe_cmpR op_ge (pe_callB call_abs (by rfl) B.n_abs (by decide +kernel) (pa_cons (pv 2) pa_nil)) (pe_op op_pow pe_int pe_int) (nomark _)) pa_nil))) (pa_cons (pe_op op_add (pe_op op_add (pe_op op_modN (pv 2) pe_int) (pe_op op_mul pe_int (pv 1))) pe_int) (pa_cons pe_int pa_nil)))))))), ?_⟩
    have fin : ∀ z : Int, ∀ Qr : VK, (∀ p (c0 c1 : Int), H p = none → 0 ≤ c0 → 0 ≤ c1 → c1 < 2 ^ 33 → Qr (.ref p) (upd H p (.lst [.int c0, .int c1, .int 0]))) → ∀ p, H p = none → Qr (.ref p) (upd H p (.lst [.int ((if z < 0 then -z else z) * (if decide (10 ^ (Int.toNat 18) ≤ (if z < 0 then -z else z)) = true then 1 else 0)), .int (z.fmod 2147483629 + 7919 * k + 11), .int 0])) := fun z Qr h p np => by
      have f0 : 0 ≤ z.fmod 2147483629 := by
        rw [Int.fmod_eq_emod_of_nonneg _ (by decide)]
        exact Int.emod_nonneg _ (by decide)
      have f1 : z.fmod 2147483629 < 2147483629 := by
        rw [Int.fmod_eq_emod_of_nonneg _ (by decide)]
        exact Int.emod_lt_of_pos _ (by decide)
      refine h p _ _ np ?_ (by omega) (by omega)
      refine Int.mul_nonneg ?_ ?_
      · split <;> omega
      · exact (b01 _).1
    -- cell = 0; if k < len(script): cell = script[k]
    refine ⟨_, rfl, _, rfl, a, _, rfl, .inl hS, k, _, rfl, rfl, _, rfl, ite2 (fun e => ?_) (fun e => ?_)⟩
    · have hk : k < (ns.map V.int).length := of_decide_eq_true e
      obtain ⟨j, rfl⟩ := Int.eq_ofNat_of_zero_le k0
      have hj : j < ns.length := by
        rw [List.length_map] at hk
        omega
      have hg : (ns.map V.int)[j]? = some (.int ns[j]) := by
        rw [List.getElem?_map, List.getElem?_eq_getElem hj]
        rfl
      refine ⟨_, rfl, _, rfl, a, _, _, _, rfl, rfl, hS, atI_nat hg, ?_⟩
      refine ⟨_, rfl, _, rfl, _, rfl, _, rfl, 10, 18, rfl, rfl, ⟨by decide, by decide, by decide⟩, _, _, rfl, rfl, .inr ⟨_, rfl, _, _, rfl, rfl, .inr ⟨?_, ?_⟩, _, rfl, _, 2147483629, rfl, rfl, (show (2147483629 : Int) ≠ 0 by decide), _, rfl, 7919, _, rfl, rfl, .inl ⟨by decide, by decide⟩, _, _, rfl, rfl, _, 11, rfl, rfl, by show 3 ≤ sizeLine; decide, fun p np => fin ns[j] Q q p np⟩⟩
      · exact Int.lt_of_lt_of_le (by decide) (b01 _).1
      · exact Int.lt_of_le_of_lt (b01 _).2 (by decide)
    · refine ⟨_, rfl, _, rfl, _, rfl, _, rfl, 10, 18, rfl, rfl, ⟨by decide, by decide, by decide⟩, _, _, rfl, rfl, .inr ⟨_, rfl, _, _, rfl, rfl, .inr ⟨?_, ?_⟩, _, rfl, _, 2147483629, rfl, rfl, (show (2147483629 : Int) ≠ 0 by decide), _, rfl, 7919, _, rfl, rfl, .inl ⟨by decide, by decide⟩, _, _, rfl, rfl, _, 11, rfl, rfl, by show 3 ≤ sizeLine; decide, fun p np => fin 0 Q q p np⟩⟩
      · exact Int.lt_of_lt_of_le (by decide) (b01 _).1
      · exact Int.lt_of_le_of_lt (b01 _).2 (by decide)
structure Cw (P : Program) (w : World) (K : PySem.W.Frag) (mg : Str → Option Value) (base : Heap) : Prop where
  L_box : Cl P w K mg base 1 "_law_box" s_L_box ["_law_script", "_law_k"] (spBox K)
  L_right : Cl P w K mg base 9 "_law_right" s_L_right ["_law_box_here"] (spB K Rright)
def spLaw (K : PySem.W.Frag) : Sp := fun vs H Q _ => ∃ (a : Addr) (ns : List Int), vs = [.ref a] ∧ SqL K H a (ns.map V.int) ∧ ns.length ≤ 63 ∧ ∀ H', Q (.bl true) H'
theorem ok_law (B : Bi mg) (C : Cw P w K mg base) (F : Fun K "law" "law" s_law f fd) : FnOk P w K mg base CX0 10 f fd ["_law_script"] (spLaw K) := by
  refine F.ok c_law (fun vs H Q E h => ?_) (fun cdv A outer s H vs Q E hr h => ?_)
  · obtain ⟨a, ns, rfl, _⟩ := h
    rfl
  · obtain ⟨a, ns, rfl, hS, hlen, q⟩ := h
    refine ⟨_, (pss_one (ps_ret (pe_callB (cr_all rfl) (by rfl) B.n_all (by decide +kernel) (pa_cons (pe_lc (own := [("_law_k", 1)]) (g := gName 1) (tt := tYes) rfl c_law.nd (pi_range1 (by rfl) B.n_range (pa_cons (pe_callB (call_max2 rfl) (by rfl) B.n_max (by decide +kernel) (pa_cons pe_int (pa_cons (pe_callB (call_min2 rfl) (by rfl) B.n_min (by decide +kernel) (pa_cons pe_int (pa_cons (pe_callB call_len_seq (by rfl) B.n_len (by decide +kernel) (pa_cons (pv 0) pa_nil)) pa_nil))) pa_nil))) pa_nil)) (blkOk_by (N := N_law) (sc := defScope s_law) (by decide +kernel)) (fun _ _ _ _ _ => (pg_name (i := 1) c_law.nd rfl (.inl rfl))) (fun _ _ _ _ _ => pts_nil) (fun _ _ _ _ _ => (pe_cl C.L_right hr (by omega) (by rfl) (pa_cons (pe_cl C.L_box hr (by omega) (by rfl) (pa_cons (pv 0) (pa_cons (pv 1) pa_nil))) pa_nil)))) pa_nil)))), ?_⟩
    have hb : (if (if ((ns.map V.int).length : Int) < 4 then ((ns.map V.int).length : Int) else 4) > 1 then (if ((ns.map V.int).length : Int) < 4 then ((ns.map V.int).length : Int) else 4) else 1) ≤ 4 ∧ 1 ≤ (if (if ((ns.map V.int).length : Int) < 4 then ((ns.map V.int).length : Int) else 4) > 1 then (if ((ns.map V.int).length : Int) < 4 then ((ns.map V.int).length : Int) else 4) else 1) := by
      split <;> split <;> omega
    refine ⟨.ref a, rfl, a, _, rfl, .inl hS, 4, _, rfl, 1, _, rfl, _, rfl, ?_, ?_, fun D nD => ?_⟩
    · have := hb.2
      omega
    · have := hb.1
      omega
    refine lc_range (fun i H' => (∀ c o, H c = some o → H' c = some o) ∧ H' D = some (.lst ((List.replicate i true).map V.bl)) ∧ i ≤ 4) ⟨fun c o e => ?_, upd_same, by omega⟩ (fun i H' hi ⟨h1, h2, h3⟩ => ?_) (fun H' ⟨h1, h2, h3⟩ => ?_)
    · rw [upd_ne (ne_of_none e nD)]
      exact e
    · refine ⟨rfl, ?_⟩
      show tCall (spB K Rright) [] E0 (tCons (tCall (spBox K) [] E0 (tCons (tVar 0) (tCons (tVar 1) tNil))) tNil) _ H' _
      have hi4 : i < 4 := by omega
      refine ⟨_, rfl, _, rfl, a, ns, 0 + (i : Int), rfl, Same.seq h1 hS, by omega, by omega, fun p c0 c1 np a0 a1 a2 => ?_⟩
      have nDp : D ≠ p := ne_of_none h2 np
      refine ⟨p, [], fun _ => none, [], 0, 2000, _, rfl, .nil, ⟨(fun _ _ e => by cases e), fun _ _ => rfl, ⟨c0, c1, 0, upd_same, a0, a1, a2, by omega, by decide⟩⟩, ⟨rfl, rfl, rfl⟩, fun v d G2 H2 m w2 dv hd => ?_⟩
      subst hd
      cases dv
      have k2 : ∀ c o, H' c = some o → H2 c = some o := fun c o e => m.kp c o (by
        rw [upd_ne (ne_of_none e np)]
        exact e) (ne_of_none e np)
      refine ⟨_, k2 D _ h2, ?_, fun c o e => ?_, ?_, by omega⟩
      · rw [List.length_map, List.length_replicate]
        exact Nat.lt_of_le_of_lt (show i ≤ 4 by omega) (by decide)
      · rw [upd_ne (ne_of_none e nD)]
        exact k2 c o (h1 c o e)
      · rw [upd_same, List.replicate_succ', List.map_append]
        rfl
    · refine ⟨D, _, rfl, .inl (.inl h2), ?_⟩
      rw [List.all_replicate]
      simp
      exact q _
end
end K00

namespace K00
open PySem PySem.Spec PyProof.Rows L2 ZX DL
theorem ok_othU {P : Program} {w : World} {K : PySem.W.Frag} {mg : Str → Option Value} {base : Heap} {f : Addr} {fd : FuncData} (B : Bi mg) (cO : ∀ n, Co P w K mg base n) (F : Fun K "_law_otherwise" "_law_otherwise" s_L_otherwise f fd) : FnOk P w K mg base CX0 8 f fd ["_law_box_here", "_law_item"] (spB K (RothU 5)) := by
  refine ⟨fun vs H Q E h => ?_, fun A outer s H args us vs Q E hr he hb hv hs => ?_⟩
  · obtain ⟨b, vs', G, ds, r, c, Φ, rfl, dd, hw, ⟨n, _, hp⟩, qq⟩ := h
    exact (ok_oth_step B (cO n) F).len _ H Q E ⟨b, vs', G, ds, r, c, Φ, rfl, dd, hw, hp, qq⟩
  · obtain ⟨b, vs', G, ds, r, c, Φ, rfl, dd, hw, ⟨n, hn, hp⟩, qq⟩ := hs
    exact ((ok_oth_step B (cO n) F).mono (show n + 3 ≤ 8 by omega)).run A outer s H args us _ Q E hr he hb hv ⟨b, vs', G, ds, r, c, Φ, rfl, dd, hw, hp, qq⟩
structure FT (K : PySem.W.Frag) (x : Str) (st : Stmt) (f : Addr) (oc : Value) (od an : Option Addr) (sl : Array (Option Value)) (kV dc pm cd ct : Value) : Prop where
  a : PySem.W.nsIn K mainGlobals x = some (some (.ref f))
  l : K.lookup f = some ⟨oc, od, .func (PySem.W.fnOf x x (defArgs st) (defBody st) (defScope st) .none kV dc pm an cd ct), sl⟩
  c : PySem.W.codeIn K cd x = true
  k : PySem.W.keepIn K (.ref f) = true
theorem all_mk {q : Program} {w : World} {K : PySem.W.Frag} {h : Heap} {mg : Str → Option Value} {fa : Addr} (X : K.In h) (G : h.Ns mainGlobals mg) (hfa : mg "law" = some (.ref fa))
    {f0 : Addr} {oc0 : Value} {od0 an0 : Option Addr} {sl0 : Array (Option Value)} {kV0 dc0 pm0 cd0 ct0 : Value} (t0 : FT K "is_number" s_is_number f0 oc0 od0 an0 sl0 kV0 dc0 pm0 cd0 ct0)
    {f1 : Addr} {oc1 : Value} {od1 an1 : Option Addr} {sl1 : Array (Option Value)} {kV1 dc1 pm1 cd1 ct1 : Value} (t1 : FT K "is_rooms" s_is_rooms f1 oc1 od1 an1 sl1 kV1 dc1 pm1 cd1 ct1)
    {f2 : Addr} {oc2 : Value} {od2 an2 : Option Addr} {sl2 : Array (Option Value)} {kV2 dc2 pm2 cd2 ct2 : Value} (t2 : FT K "is_standing" s_is_standing f2 oc2 od2 an2 sl2 kV2 dc2 pm2 cd2 ct2)
    {f3 : Addr} {oc3 : Value} {od3 an3 : Option Addr} {sl3 : Array (Option Value)} {kV3 dc3 pm3 cd3 ct3 : Value} (t3 : FT K "bare" s_bare f3 oc3 od3 an3 sl3 kV3 dc3 pm3 cd3 ct3)
    {f4 : Addr} {oc4 : Value} {od4 an4 : Option Addr} {sl4 : Array (Option Value)} {kV4 dc4 pm4 cd4 ct4 : Value} (t4 : FT K "full" s_full f4 oc4 od4 an4 sl4 kV4 dc4 pm4 cd4 ct4)
    {f5 : Addr} {oc5 : Value} {od5 an5 : Option Addr} {sl5 : Array (Option Value)} {kV5 dc5 pm5 cd5 ct5 : Value} (t5 : FT K "lacking" s_lacking f5 oc5 od5 an5 sl5 kV5 dc5 pm5 cd5 ct5)
    {f6 : Addr} {oc6 : Value} {od6 an6 : Option Addr} {sl6 : Array (Option Value)} {kV6 dc6 pm6 cd6 ct6 : Value} (t6 : FT K "_law_box" s_L_box f6 oc6 od6 an6 sl6 kV6 dc6 pm6 cd6 ct6)
    {f7 : Addr} {oc7 : Value} {od7 an7 : Option Addr} {sl7 : Array (Option Value)} {kV7 dc7 pm7 cd7 ct7 : Value} (t7 : FT K "_law_take" s_L_take f7 oc7 od7 an7 sl7 kV7 dc7 pm7 cd7 ct7)
    {f8 : Addr} {oc8 : Value} {od8 an8 : Option Addr} {sl8 : Array (Option Value)} {kV8 dc8 pm8 cd8 ct8 : Value} (t8 : FT K "_law_same" s_L_same f8 oc8 od8 an8 sl8 kV8 dc8 pm8 cd8 ct8)
    {f9 : Addr} {oc9 : Value} {od9 an9 : Option Addr} {sl9 : Array (Option Value)} {kV9 dc9 pm9 cd9 ct9 : Value} (t9 : FT K "_law_rooms" s_L_rooms f9 oc9 od9 an9 sl9 kV9 dc9 pm9 cd9 ct9)
    {f10 : Addr} {oc10 : Value} {od10 an10 : Option Addr} {sl10 : Array (Option Value)} {kV10 dc10 pm10 cd10 ct10 : Value} (t10 : FT K "_law_standing" s_L_standing f10 oc10 od10 an10 sl10 kV10 dc10 pm10 cd10 ct10)
    {f11 : Addr} {oc11 : Value} {od11 an11 : Option Addr} {sl11 : Array (Option Value)} {kV11 dc11 pm11 cd11 ct11 : Value} (t11 : FT K "_law_odd" s_L_odd f11 oc11 od11 an11 sl11 kV11 dc11 pm11 cd11 ct11)
    {f12 : Addr} {oc12 : Value} {od12 an12 : Option Addr} {sl12 : Array (Option Value)} {kV12 dc12 pm12 cd12 ct12 : Value} (t12 : FT K "_law_otherwise" s_L_otherwise f12 oc12 od12 an12 sl12 kV12 dc12 pm12 cd12 ct12)
    {f13 : Addr} {oc13 : Value} {od13 an13 : Option Addr} {sl13 : Array (Option Value)} {kV13 dc13 pm13 cd13 ct13 : Value} (t13 : FT K "_law_are_rooms" s_L_are_rooms f13 oc13 od13 an13 sl13 kV13 dc13 pm13 cd13 ct13)
    {f14 : Addr} {oc14 : Value} {od14 an14 : Option Addr} {sl14 : Array (Option Value)} {kV14 dc14 pm14 cd14 ct14 : Value} (t14 : FT K "_law_stands" s_L_stands f14 oc14 od14 an14 sl14 kV14 dc14 pm14 cd14 ct14)
    {f15 : Addr} {oc15 : Value} {od15 an15 : Option Addr} {sl15 : Array (Option Value)} {kV15 dc15 pm15 cd15 ct15 : Value} (t15 : FT K "_law_right" s_L_right f15 oc15 od15 an15 sl15 kV15 dc15 pm15 cd15 ct15)
    {f16 : Addr} {oc16 : Value} {od16 an16 : Option Addr} {sl16 : Array (Option Value)} {kV16 dc16 pm16 cd16 ct16 : Value} (t16 : FT K "law" s_law f16 oc16 od16 an16 sl16 kV16 dc16 pm16 cd16 ct16)
    (z_len : PySem.W.nsIn K mainGlobals "len" = some none)
    (z_isinstance : PySem.W.nsIn K mainGlobals "isinstance" = some none)
    (z_all : PySem.W.nsIn K mainGlobals "all" = some none)
    (z_zip : PySem.W.nsIn K mainGlobals "zip" = some none)
    (z_range : PySem.W.nsIn K mainGlobals "range" = some none)
    (z_min : PySem.W.nsIn K mainGlobals "min" = some none)
    (z_max : PySem.W.nsIn K mainGlobals "max" = some none)
    (z_abs : PySem.W.nsIn K mainGlobals "abs" = some none)
    (z_int : PySem.W.nsIn K mainGlobals "int" = some none)
    (z_bool : PySem.W.nsIn K mainGlobals "bool" = some none)
    (z_str : PySem.W.nsIn K mainGlobals "str" = some none)
    (z_list : PySem.W.nsIn K mainGlobals "list" = some none)
    (z_tuple : PySem.W.nsIn K mainGlobals "tuple" = some none)
    : ∃ fd : FuncData, (∀ (s : Shared) (v : Value), BindsTo s fd ⟨[v], []⟩ [("_law_script", v)]) ∧ ∀ base : Heap, K.In base → base.Ns mainGlobals mg → FnOk q w K mg base CX0 10 fa fd ["_law_script"] (spLaw K) := by
  have e := hfa.symm.trans (PySem.W.mg_of X G t16.a)
  cases e
  have F0 := fun_mk (st := s_is_number) t0.l t0.c t0.k
  have m0 := PySem.W.mg_of X G t0.a
  have F1 := fun_mk (st := s_is_rooms) t1.l t1.c t1.k
  have m1 := PySem.W.mg_of X G t1.a
  have F2 := fun_mk (st := s_is_standing) t2.l t2.c t2.k
  have m2 := PySem.W.mg_of X G t2.a
  have F3 := fun_mk (st := s_bare) t3.l t3.c t3.k
  have m3 := PySem.W.mg_of X G t3.a
  have F4 := fun_mk (st := s_full) t4.l t4.c t4.k
  have m4 := PySem.W.mg_of X G t4.a
  have F5 := fun_mk (st := s_lacking) t5.l t5.c t5.k
  have m5 := PySem.W.mg_of X G t5.a
  have F6 := fun_mk (st := s_L_box) t6.l t6.c t6.k
  have m6 := PySem.W.mg_of X G t6.a
  have F7 := fun_mk (st := s_L_take) t7.l t7.c t7.k
  have m7 := PySem.W.mg_of X G t7.a
  have F8 := fun_mk (st := s_L_same) t8.l t8.c t8.k
  have m8 := PySem.W.mg_of X G t8.a
  have F9 := fun_mk (st := s_L_rooms) t9.l t9.c t9.k
  have m9 := PySem.W.mg_of X G t9.a
  have F10 := fun_mk (st := s_L_standing) t10.l t10.c t10.k
  have m10 := PySem.W.mg_of X G t10.a
  have F11 := fun_mk (st := s_L_odd) t11.l t11.c t11.k
  have m11 := PySem.W.mg_of X G t11.a
  have F12 := fun_mk (st := s_L_otherwise) t12.l t12.c t12.k
  have m12 := PySem.W.mg_of X G t12.a
  have F13 := fun_mk (st := s_L_are_rooms) t13.l t13.c t13.k
  have m13 := PySem.W.mg_of X G t13.a
  have F14 := fun_mk (st := s_L_stands) t14.l t14.c t14.k
  have m14 := PySem.W.mg_of X G t14.a
  have F15 := fun_mk (st := s_L_right) t15.l t15.c t15.k
  have m15 := PySem.W.mg_of X G t15.a
  have F16 := fun_mk (st := s_law) t16.l t16.c t16.k
  have m16 := PySem.W.mg_of X G t16.a
  have B : Bi mg := ⟨PySem.W.mg_none_of X G z_len, PySem.W.mg_none_of X G z_isinstance, PySem.W.mg_none_of X G z_all, PySem.W.mg_none_of X G z_zip, PySem.W.mg_none_of X G z_range, PySem.W.mg_none_of X G z_min, PySem.W.mg_none_of X G z_max, PySem.W.mg_none_of X G z_abs, PySem.W.mg_none_of X G z_int, PySem.W.mg_none_of X G z_bool, PySem.W.mg_none_of X G z_str, PySem.W.mg_none_of X G z_list, PySem.W.mg_none_of X G z_tuple⟩
  have b0 := F0.binds (ps := ["thing"]) fun _ _ _ _ _ _ us hl => match us, hl with | [_], _ => rfl
  have b1 := F1.binds (ps := ["thing"]) fun _ _ _ _ _ _ us hl => match us, hl with | [_], _ => rfl
  have b2 := F2.binds (ps := ["rooms", "thing"]) fun _ _ _ _ _ _ us hl => match us, hl with | [_, _], _ => rfl
  have b3 := F3.binds (ps := ["rooms"]) fun _ _ _ _ _ _ us hl => match us, hl with | [_], _ => rfl
  have b4 := F4.binds (ps := ["rooms"]) fun _ _ _ _ _ _ us hl => match us, hl with | [_], _ => rfl
  have b5 := F5.binds (ps := ["rooms", "standing"]) fun _ _ _ _ _ _ us hl => match us, hl with | [_, _], _ => rfl
  have b6 := F6.binds (ps := ["_law_script", "_law_k"]) fun _ _ _ _ _ _ us hl => match us, hl with | [_, _], _ => rfl
  have b7 := F7.binds (ps := ["_law_box_here", "_law_bound"]) fun _ _ _ _ _ _ us hl => match us, hl with | [_, _], _ => rfl
  have b8 := F8.binds (ps := ["_law_found", "_law_due"]) fun _ _ _ _ _ _ us hl => match us, hl with | [_, _], _ => rfl
  have b9 := F9.binds (ps := ["_law_box_here", "_law_most"]) fun _ _ _ _ _ _ us hl => match us, hl with | [_, _], _ => rfl
  have b10 := F10.binds (ps := ["_law_box_here", "_law_homes"]) fun _ _ _ _ _ _ us hl => match us, hl with | [_, _], _ => rfl
  have b11 := F11.binds (ps := ["_law_box_here"]) fun _ _ _ _ _ _ us hl => match us, hl with | [_], _ => rfl
  have b12 := F12.binds (ps := ["_law_box_here", "_law_item"]) fun _ _ _ _ _ _ us hl => match us, hl with | [_, _], _ => rfl
  have b13 := F13.binds (ps := ["_law_item"]) fun _ _ _ _ _ _ us hl => match us, hl with | [_], _ => rfl
  have b14 := F14.binds (ps := ["_law_homes", "_law_item"]) fun _ _ _ _ _ _ us hl => match us, hl with | [_, _], _ => rfl
  have b15 := F15.binds (ps := ["_law_box_here"]) fun _ _ _ _ _ _ us hl => match us, hl with | [_], _ => rfl
  refine ⟨PySem.W.fnOf "law" "law" (defArgs s_law) (defBody s_law) (defScope s_law) .none kV16 dc16 pm16 an16 cd16 ct16, fun s v => .of_eq rfl, fun base _ _ => ?_⟩
  have C1' : C1 q w K mg base := ⟨⟨f0, _, F0, ok_num B F0, m0, b0⟩⟩
  have C2' : C2 q w K mg base := ⟨⟨f7, _, F7, ok_take B F7, m7, b7⟩⟩
  have cO := cl_oth B C2' ⟨f11, _, F11, ok_odd B C2' F11, m11, b11⟩ F12 m12 b12
  have cS := (cl_same (P := q) (w := w) (base := base) B F8 m8 b8 3).L_same
  have okO := ok_othU B cO F12
  have C3 : Cr q w K mg base := ⟨⟨f1, _, F1, ok_rooms B C1' F1, m1, b1⟩, ⟨f2, _, F2, ok_standing B C1' F2, m2, b2⟩, ⟨f3, _, F3, ok_bare B F3, m3, b3⟩, ⟨f4, _, F4, ok_full B F4, m4, b4⟩, ⟨f5, _, F5, ok_lacking B F5, m5, b5⟩, C2'.L_take, cS, ⟨f9, _, F9, ok_draw B C2' F9, m9, b9⟩, ⟨f10, _, F10, ok_lie B C2' F10, m10, b10⟩, ⟨f12, _, F12, okO, m12, b12⟩, ⟨f13, _, F13, ok_are B F13, m13, b13⟩, ⟨f14, _, F14, ok_stands B F14, m14, b14⟩⟩
  have C4 : Cw q w K mg base := ⟨⟨f6, _, F6, ok_box B F6, m6, b6⟩, ⟨f15, _, F15, ok_right B C3 F15, m15, b15⟩⟩
  exact ok_law B C4 F16
end K00

open PySem PySem.W PyProof.Rows
set_option maxHeartbeats 0 in
theorem PySem.Challenge.cw_breathrows_k00_what_rooms_and_standings_holds : PySem.Challenge.rw_breathrows_k00_what_rooms_and_standings.Holds := by
  w_on
  o_law
  k_head
  (case hw => w_witness2)
  k_fill
  refine L2.walk_of (l := PySem.Challenge.rw_breathrows_k00_what_rooms_and_standings) (n := 63) (k := 10) (x := "_law_script") (CX := fun _ => L2.CX0) (sp := fun w => K00.spLaw _) rfl (by decide) rfl ⟨rfl, by decide, by decide⟩ (fun w h Y => PySem.W.kIn_of Y) ?F
    (fun _ _ a ns hl _ hS => ⟨a, ns, rfl, hS, hl, fun _ => rfl⟩) (fun _ _ _ _ _ h => h)
  case F =>
    intro w mg fa h KX G hmg
    refine' K00.all_mk KX G hmg ⟨?a0, ?l0, ?c0, ?k0⟩ ⟨?a1, ?l1, ?c1, ?k1⟩ ⟨?a2, ?l2, ?c2, ?k2⟩ ⟨?a3, ?l3, ?c3, ?k3⟩ ⟨?a4, ?l4, ?c4, ?k4⟩ ⟨?a5, ?l5, ?c5, ?k5⟩ ⟨?a6, ?l6, ?c6, ?k6⟩ ⟨?a7, ?l7, ?c7, ?k7⟩ ⟨?a8, ?l8, ?c8, ?k8⟩ ⟨?a9, ?l9, ?c9, ?k9⟩ ⟨?a10, ?l10, ?c10, ?k10⟩ ⟨?a11, ?l11, ?c11, ?k11⟩ ⟨?a12, ?l12, ?c12, ?k12⟩ ⟨?a13, ?l13, ?c13, ?k13⟩ ⟨?a14, ?l14, ?c14, ?k14⟩ ⟨?a15, ?l15, ?c15, ?k15⟩ ⟨?a16, ?l16, ?c16, ?k16⟩ ?z0 ?z1 ?z2 ?z3 ?z4 ?z5 ?z6 ?z7 ?z8 ?z9 ?z10 ?z11 ?z12
    (case a0 => k_is)
    (case l0 => k_is)
    (case c0 => k_is)
    (case k0 => k_is)
    (case a1 => k_is)
    (case l1 => k_is)
    (case c1 => k_is)
    (case k1 => k_is)
    (case a2 => k_is)
    (case l2 => k_is)
    (case c2 => k_is)
    (case k2 => k_is)
    (case a3 => k_is)
    (case l3 => k_is)
    (case c3 => k_is)
    (case k3 => k_is)
    (case a4 => k_is)
    (case l4 => k_is)
    (case c4 => k_is)
    (case k4 => k_is)
    (case a5 => k_is)
    (case l5 => k_is)
    (case c5 => k_is)
    (case k5 => k_is)
    (case a6 => k_is)
    (case l6 => k_is)
    (case c6 => k_is)
    (case k6 => k_is)
    (case a7 => k_is)
    (case l7 => k_is)
    (case c7 => k_is)
    (case k7 => k_is)
    (case a8 => k_is)
    (case l8 => k_is)
    (case c8 => k_is)
    (case k8 => k_is)
    (case a9 => k_is)
    (case l9 => k_is)
    (case c9 => k_is)
    (case k9 => k_is)
    (case a10 => k_is)
    (case l10 => k_is)
    (case c10 => k_is)
    (case k10 => k_is)
    (case a11 => k_is)
    (case l11 => k_is)
    (case c11 => k_is)
    (case k11 => k_is)
    (case a12 => k_is)
    (case l12 => k_is)
    (case c12 => k_is)
    (case k12 => k_is)
    (case a13 => k_is)
    (case l13 => k_is)
    (case c13 => k_is)
    (case k13 => k_is)
    (case a14 => k_is)
    (case l14 => k_is)
    (case c14 => k_is)
    (case k14 => k_is)
    (case a15 => k_is)
    (case l15 => k_is)
    (case c15 => k_is)
    (case k15 => k_is)
    (case a16 => k_is)
    (case l16 => k_is)
    (case c16 => k_is)
    (case k16 => k_is)
    (case z0 => k_is)
    (case z1 => k_is)
    (case z2 => k_is)
    (case z3 => k_is)
    (case z4 => k_is)
    (case z5 => k_is)
    (case z6 => k_is)
    (case z7 => k_is)
    (case z8 => k_is)
    (case z9 => k_is)
    (case z10 => k_is)
    (case z11 => k_is)
    (case z12 => k_is)

