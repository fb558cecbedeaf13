import PyProof.Rows.All
import Wide.All
import OpenK.AllK
import Wide.FinOn
import HandS.ForMost
import HandS.Wide
import HandS.Walk
import HandS.Zip
import HandS.IsInst
import HandS.Defaults
import HandS.Style
import HandS.Deep
import HandS.FStrTup
import Flt.Len
import PyProof.ReprRoads
import PyProof.NoPylong
import HandS.ExcOwn
import HandS.ExcIs
import HandS.ExcValue
import HandS.WordsExc
import KE.KExcIs
import HandS.TupLe
import PyProof.P3In
import HandS.ExcInit
import KE.KExcSuper
import HandS.Star
import HandS.Small
import KE.DataFind
import HandS.StrMore
import HandS.FStr
import HandS.WideBits
import HandS.RevTup
import HandS.Rev
import HandS.SortKw
import KE.DataMinMax
import HandS.Codes
import KE.IntTextLaws
import HandS.TryOnly
import HandS.DictComp
import HandS.Conv
import HandS.SetFor
import HandS.Strs
import PyProof.Rows.ListMulR
import HandS.TupAny
import KE.KTryMore
import HandS.SortInts
import PyProof.ExcBaseAll.IndexError
import PyProof.ExcBaseAll.LookupError
import PyProof.ExcBaseAll.OverflowError
import PyProof.ExcBaseAll.RuntimeError
import PyProof.ExcBaseAll.ValueError
import PyProof.ExcBaseAll.ZeroDivisionError
import PySem.Challenge.RW_downweigh_k73_deeds_at_a_bench
set_option Elab.async false
set_option linter.all false
set_option maxRecDepth 100000
set_option maxHeartbeats 4000000
namespace DL
open PySem PySem.Spec PyProof.Rows L2
def dctK (kvs : List (Str × Int)) : List (Key × V) := kvs.map fun kv => (.inr kv.1, .int kv.2)
inductive D where
  | non
  | bl (b : Bool)
  | int (i : Int)
  | str (x : Str)
  | lst (xs : List D)
  | tup (xs : List D)
  | fro (xs : List D)
  | edic
  | dct (kvs : List (Str × Int))
  | opq (v : V)
  | exc (c : Str) (ns : List Str) (xs : List D)
  | fld (c : Str) (dx : Addr) (ns : List Str)
  | kls (c : Str)
def Sub (H H' : Hp) : Prop := ∀ b o, H b = some o → H' b = some o
theorem Sub.refl (H : Hp) : Sub H H := fun _ _ h => h
theorem Sub.trans {H H1 H2 : Hp} (a : Sub H H1) (b : Sub H1 H2) : Sub H H2 := fun c o h => b c o (a c o h)
theorem Sub.new {H : Hp} {p : Addr} {o : HO} (h : H p = none) : Sub H (upd H p o) := fun b u e => by
  rw [upd_ne (ne_of_none e h)]; exact e
theorem Sub.none {H H' : Hp} (s : Sub H H') {p : Addr} (h : H' p = none) : H p = none := by
  cases e : H p with
  | none => rfl
  | some o => rw [s p o e] at h; cases h
theorem Sub.sqL {K : PySem.W.Frag} {H H' : Hp} {a : Addr} {xs : List V} (e : Sub H H') (h : SqL K H a xs) : SqL K H' a xs := by
  rcases h with (h | ⟨o, h⟩) | h
  · exact .inl (.inl (e _ _ h))
  · exact .inl (.inr ⟨o, e _ _ h⟩)
  · exact .inr h
theorem Sub.sqT {K : PySem.W.Frag} {H H' : Hp} {a : Addr} {xs : List V} (e : Sub H H') (h : SqT K H a xs) : SqT K H' a xs := by
  rcases h with (h | ⟨o, h⟩) | h
  · exact .inl (.inl (e _ _ h))
  · exact .inl (.inr ⟨o, e _ _ h⟩)
  · exact .inr h
/-- an exception's object at a: its class, its dict -/
def ExH (cv : Value) (d : Option Addr) (a : Addr) : HO := .ext fun h => ∃ (oe : Obj) (fv : Array Value), h.get? a = some oe ∧ Zc cv d oe ∧ oe.data = .fields fv
/-- what its dict holds -/
def XD (F : Hp) (d : Option Addr) (ns : List Str) (vs : List V) : Prop := (d = none ∧ ns = [] ∧ vs = []) ∨ ∃ dx, d = some dx ∧ F dx = some (.xd (ns.zip vs)) ∧ ns.length = vs.length ∧ ns ≠ []
theorem XD.mono {F F' : Hp} {d : Option Addr} {ns : List Str} {vs : List V} (e : Sub F F') (h : XD F d ns vs) : XD F' d ns vs := by
  rcases h with h | ⟨dx, h1, h2, h3⟩
  · exact .inl h
  · exact .inr ⟨dx, h1, e _ _ h2, h3⟩
mutual
inductive DR (K : PySem.W.Frag) (F : Hp) : V → D → Prop
  | non : DR K F .non .non
  | bl (b : Bool) : DR K F (.bl b) (.bl b)
  | int (i : Int) : DR K F (.int i) (.int i)
  | str (x : Str) : DR K F (.str x) (.str x)
  | lst {a : Addr} {xs : List V} {ds : List D} : F a = some (.lst xs) → DRs K F xs ds → DR K F (.ref a) (.lst ds)
  | tup {a : Addr} {xs : List V} {ds : List D} : SqT K F a xs → DRs K F xs ds → DR K F (.ref a) (.tup ds)
  | fro {a : Addr} {xs : List V} {ds : List D} : SqL K F a xs → DRs K F xs ds → DR K F (.ref a) (.fro ds)
  | edic {a : Addr} : F a = some (.dK []) → DR K F (.ref a) .edic
  | dct {a : Addr} {kvs : List (Str × Int)} : F a = some (.dK (dctK kvs)) → DR K F (.ref a) (.dct kvs)
  | opq (v : V) : DR K F v (.opq v)
  | exc {a : Addr} {c : Str} {cv : Value} {d : Option Addr} {ns : List Str} {vs : List V} {ds : List D} : PySem.W.nsIn K mainGlobals c = some (some cv) → F a = some (ExH cv d a) → XD F d ns vs → DRs K F vs ds → DR K F (.ref a) (.exc c ns ds)
  | kls {c : Str} {C : Addr} : PySem.W.nsIn K mainGlobals c = some (some (.ref C)) → DR K F (.ref C) (.kls c)
inductive DRs (K : PySem.W.Frag) (F : Hp) : List V → List D → Prop
  | nil : DRs K F [] []
  | cons {v : V} {vs : List V} {d : D} {ds : List D} : DR K F v d → DRs K F vs ds → DRs K F (v :: vs) (d :: ds)
end
section
variable {K : PySem.W.Frag} {F F' H H' : Hp} {v : V} {d : D} {vs : List V} {ds : List D}
mutual
theorem DR.mono (e : Sub F F') : ∀ {v : V} {d : D}, DR K F v d → DR K F' v d
  | _, _, .non => .non
  | _, _, .bl b => .bl b
  | _, _, .int i => .int i
  | _, _, .str x => .str x
  | _, _, .lst h hs => .lst (e _ _ h) (DRs.mono e hs)
  | _, _, .tup h hs => .tup (e.sqT h) (DRs.mono e hs)
  | _, _, .fro h hs => .fro (e.sqL h) (DRs.mono e hs)
  | _, _, .edic h => .edic (e _ _ h)
  | _, _, .dct h => .dct (e _ _ h)
  | _, _, .opq v => .opq v
  | _, _, .exc h0 h hx hs => .exc h0 (e _ _ h) (hx.mono e) (DRs.mono e hs)
  | _, _, .kls h => .kls h
theorem DRs.mono (e : Sub F F') : ∀ {vs : List V} {ds : List D}, DRs K F vs ds → DRs K F' vs ds
  | _, _, .nil => .nil
  | _, _, .cons h hs => .cons (DR.mono e h) (DRs.mono e hs)
end
theorem DRs.length : ∀ {vs : List V} {ds : List D}, DRs K F vs ds → vs.length = ds.length
  | _, _, .nil => rfl
  | _, _, .cons _ h => by simp [DRs.length h]
theorem DRs.get : ∀ {vs : List V} {ds : List D} {i : Nat} {d : D}, DRs K F vs ds → ds[i]? = some d → ∃ v, vs[i]? = some v ∧ DR K F v d
  | _, _, _, _, .nil, e => by simp at e
  | _, _, 0, _, .cons r _, e => by simp at e; subst e; exact ⟨_, rfl, r⟩
  | _, _, i + 1, d, .cons _ t, e => by
    obtain ⟨u, h1, h2⟩ := DRs.get (i := i) (d := d) t (by simpa using e)
    exact ⟨u, by simpa using h1, h2⟩
theorem DRs.getV : ∀ {vs : List V} {ds : List D} {i : Nat} {v : V}, DRs K F vs ds → vs[i]? = some v → ∃ d, ds[i]? = some d ∧ DR K F v d
  | _, _, _, _, .nil, e => by simp at e
  | _, _, 0, _, .cons r _, e => by simp at e; subst e; exact ⟨_, rfl, r⟩
  | _, _, i + 1, d, .cons _ t, e => by
    obtain ⟨u, h1, h2⟩ := DRs.getV (i := i) (v := d) t (by simpa using e)
    exact ⟨u, by simpa using h1, h2⟩
theorem DRs.append : ∀ {xs ys : List V} {ds es : List D}, DRs K F xs ds → DRs K F ys es → DRs K F (xs ++ ys) (ds ++ es)
  | _, _, _, _, .nil, s => s
  | _, _, _, _, .cons r t, s => .cons r (DRs.append t s)
theorem DRs.take : ∀ {xs : List V} {ds : List D} (n : Nat), DRs K F xs ds → DRs K F (xs.take n) (ds.take n)
  | _, _, 0, _ => by simp; exact .nil
  | _, _, _ + 1, .nil => .nil
  | _, _, n + 1, .cons r t => .cons r (DRs.take n t)
theorem DRs.drop : ∀ {xs : List V} {ds : List D} (n : Nat), DRs K F xs ds → DRs K F (xs.drop n) (ds.drop n)
  | _, _, 0, r => r
  | _, _, _ + 1, .nil => .nil
  | _, _, n + 1, .cons _ t => DRs.drop n t
theorem DRs.set {x : V} {u : D} (r : DR K F x u) : ∀ {xs : List V} {us : List D} (i : Nat), DRs K F xs us → DRs K F (xs.set i x) (us.set i u)
  | _, _, _, .nil => .nil
  | _, _, 0, .cons _ t => .cons r t
  | _, _, i + 1, .cons q t => .cons q (DRs.set r i t)
theorem DRs.ints : ∀ (ns : List Int), DRs K F (ns.map V.int) (ns.map D.int)
  | [] => .nil
  | n :: r => .cons (.int n) (DRs.ints r)
end
abbrev DS := List (Option D)
abbrev MS := List (Addr × List D)
/-- address 1 (the modules) is tracked from the start: nothing of ours lies there -/
def OneR (K : PySem.W.Frag) (F : Hp) : Prop := K.lookup sysModules = none ∧ ∃ o φ, F sysModules = some (.frz o (.ext φ))
theorem OneR.mono {K : PySem.W.Frag} {F F' : Hp} (h : OneR K F) (s : Sub F F') : OneR K F' := let ⟨a, o, φ, b⟩ := h; ⟨a, o, φ, s _ _ b⟩
/-- does an entry of the writable state begin with an object's mark? then it holds the object's fields, else a list's items -/
def nofld : List D → Bool
  | .fld _ _ _ :: _ => false
  | _ => true
def body : List D → List D
  | .fld c _ _ :: r => .kls c :: r
  | xs => xs
def cellO : List D → List V → HO
  | .fld _ dx ns :: _, .ref C :: vs => .ins C dx (ns.zip vs)
  | _, vs => .lst vs
theorem body_no : ∀ {xs : List D}, nofld xs = true → body xs = xs
  | [], _ => rfl
  | x :: r, h => by cases x <;> first | rfl | cases h
theorem cell_no : ∀ {xs : List D} {vs : List V}, nofld xs = true → cellO xs vs = .lst vs
  | [], _, _ => rfl
  | x :: r, _, h => by cases x <;> first | rfl | cases h
theorem DRs.no {K : PySem.W.Frag} {F : Hp} : ∀ {vs : List V} {xs : List D}, DRs K F vs xs → nofld xs = true
  | _, _, .nil => rfl
  | _, _, .cons r _ => by cases r <;> rfl
structure Rel (K : PySem.W.Frag) (F H : Hp) (ms : MS) : Prop where
  sub : Sub F H
  mu : ∀ p ∈ ms, F p.1 = none ∧ ∃ vs, H p.1 = some (cellO p.2 vs) ∧ DRs K F vs (body p.2)
  nd : (ms.map (·.1)).Nodup
  one : OneR K F
inductive Sl (K : PySem.W.Frag) (F : Hp) : L2.St → DS → Prop
  | nil : Sl K F [] []
  | sm {v : V} {d : D} {σ : L2.St} {ds : DS} : DR K F v d → Sl K F σ ds → Sl K F (some v :: σ) (some d :: ds)
  | nn {o : Option V} {σ : L2.St} {ds : DS} : Sl K F σ ds → Sl K F (o :: σ) (none :: ds)
def slot : DS → Nat → Option D
  | [], _ => none
  | o :: _, 0 => o
  | _ :: r, n + 1 => slot r n
def setSlot : DS → Nat → D → DS
  | [], _, _ => []
  | _ :: r, 0, d => some d :: r
  | o :: r, n + 1, d => o :: setSlot r n d
section
variable {K : PySem.W.Frag} {F F' H H' : Hp} {ms : MS} {σ : L2.St} {ds : DS}
theorem Sl.mono (e : Sub F F') : ∀ {σ : L2.St} {ds : DS}, Sl K F σ ds → Sl K F' σ ds
  | _, _, .nil => .nil
  | _, _, .sm h r => .sm (h.mono e) (Sl.mono e r)
  | _, _, .nn r => .nn (Sl.mono e r)
theorem Sl.get : ∀ {σ : L2.St} {ds : DS} {i : Nat} {d : D}, Sl K F σ ds → slot ds i = some d → ∃ v, σ[i]? = some (some v) ∧ DR K F v d
  | _, _, i, _, .nil, e => by cases i <;> cases e
  | _, _, 0, _, .sm h r, e => by cases e; exact ⟨_, rfl, h⟩
  | _, _, 0, _, .nn r, e => by cases e
  | _, _, i + 1, _, .sm h r, e => Sl.get (i := i) r e
  | _, _, i + 1, _, .nn r, e => Sl.get (i := i) r e
theorem Sl.set {v : V} {d : D} (h : DR K F v d) : ∀ {σ : L2.St} {ds : DS} (i : Nat), Sl K F σ ds → Sl K F (σ.set i (some v)) (setSlot ds i d)
  | _, _, i, .nil => by cases i <;> exact .nil
  | _, _, 0, .sm _ r => .sm h r
  | _, _, 0, .nn r => .sm h r
  | _, _, i + 1, .sm q r => .sm q (Sl.set h i r)
  | _, _, i + 1, .nn r => .nn (Sl.set h i r)
theorem Sl.len : ∀ {σ : L2.St} {ds : DS}, Sl K F σ ds → σ.length = ds.length
  | _, _, .nil => rfl
  | _, _, .sm _ r => by simp [Sl.len r]
  | _, _, .nn r => by simp [Sl.len r]
theorem Rel.new {p : Addr} {o : HO} (R : Rel K F H ms) (hp : H p = none) : Rel K (upd F p o) (upd H p o) ms := by
  refine ⟨fun b u e => ?_, fun q hq => ?_, R.nd, R.one.mono (Sub.new (R.sub.none hp))⟩
  · by_cases hb : b = p
    · subst hb; rw [upd_same] at e ⊢; exact e
    · rw [upd_ne hb] at e ⊢; exact R.sub b u e
  · obtain ⟨h1, vs, h2, h3⟩ := R.mu q hq
    have hne : q.1 ≠ p := ne_of_none h2 hp
    exact ⟨by rw [upd_ne hne]; exact h1, vs, by rw [upd_ne hne]; exact h2, h3.mono (Sub.new (R.sub.none hp))⟩
theorem Rel.ext (R : Rel K F H ms) (s : Sub H H') : Rel K F H' ms :=
  ⟨R.sub.trans s, fun q hq => let ⟨h1, vs, h2, h3⟩ := R.mu q hq; ⟨h1, vs, s _ _ h2, h3⟩, R.nd, R.one⟩
theorem Rel.lay {p : Addr} {o : HO} (R : Rel K F H ms) (hp : H p = none) : Rel K F (upd H p o) ms := R.ext (Sub.new hp)
end
/-- one step: what was known stays, what is not ours is left as it was -/
structure Stp (F H : Hp) (ms : MS) (F' H' : Hp) (ms' : MS) : Prop where
  sub : Sub F F'
  keep : ∀ a o, H a = some o → F a = none → (∀ p ∈ ms, p.1 ≠ a) → H' a = some o
  newF : ∀ a o, F' a = some o → F a = some o ∨ H a = none ∨ ∃ p ∈ ms, p.1 = a
  newM : ∀ p ∈ ms', (∃ q ∈ ms, q.1 = p.1) ∨ H p.1 = none ∨ ∃ o, F p.1 = some o
section
variable {K : PySem.W.Frag} {F F1 F2 H H1 H2 : Hp} {ms m1 m2 : MS}
theorem Stp.refl : Stp F H ms F H ms := ⟨Sub.refl F, fun _ _ h _ _ => h, fun _ _ h => .inl h, fun p hp => .inl ⟨p, hp, rfl⟩⟩
theorem Stp.trans (a : Stp F H ms F1 H1 m1) (b : Stp F1 H1 m1 F2 H2 m2) : Stp F H ms F2 H2 m2 := by
  have kp : ∀ c o, H c = some o → F c = none → (∀ p ∈ ms, p.1 ≠ c) → H1 c = some o ∧ F1 c = none ∧ ∀ p ∈ m1, p.1 ≠ c := fun c o h1 h2 h3 => by
    refine ⟨a.keep c o h1 h2 h3, ?_, fun p hp e => ?_⟩
    · cases e : F1 c with
      | none => rfl
      | some u =>
        rcases a.newF c u e with z | z | ⟨p, hp, z⟩
        · rw [h2] at z; cases z
        · rw [h1] at z; cases z
        · exact absurd z (h3 p hp)
    · rcases a.newM p hp with ⟨q, hq, z⟩ | z | ⟨u, z⟩
      · exact h3 q hq (z.trans e)
      · rw [e, h1] at z; cases z
      · rw [e, h2] at z; cases z
  have bk : ∀ c, H1 c = none → F c = none → H c = none ∨ ∃ p ∈ ms, p.1 = c := fun c h1 h2 => by
    cases e : H c with
    | none => exact .inl rfl
    | some u =>
      by_cases hq : ∃ p ∈ ms, p.1 = c
      · exact .inr hq
      · have z := a.keep c u e h2 fun p hp z => hq ⟨p, hp, z⟩
        rw [h1] at z; cases z
  refine ⟨a.sub.trans b.sub, fun c o h1 h2 h3 => ?_, fun c o h => ?_, fun p hp => ?_⟩
  · obtain ⟨x, y, z⟩ := kp c o h1 h2 h3
    exact b.keep c o x y z
  · cases ef : F c with
    | some u =>
      have z := b.sub c u (a.sub c u ef)
      rw [h] at z
      exact .inl z.symm
    | none =>
      refine .inr ?_
      rcases b.newF c o h with z | z | ⟨p, hp, z⟩
      · rcases a.newF c o z with y | y | y
        · rw [ef] at y; cases y
        · exact .inl y
        · exact .inr y
      · exact bk c z ef
      · rcases a.newM p hp with ⟨q, hq, y⟩ | y | ⟨u, y⟩
        · exact .inr ⟨q, hq, y.trans z⟩
        · exact .inl (z ▸ y)
        · rw [z, ef] at y; cases y
  · cases ef : F p.1 with
    | some u => exact .inr (.inr ⟨u, rfl⟩)
    | none =>
      rcases b.newM p hp with ⟨q, hq, z⟩ | z | ⟨u, z⟩
      · rcases a.newM q hq with ⟨q2, hq2, z2⟩ | z2 | ⟨u, z2⟩
        · exact .inl ⟨q2, hq2, z2.trans z⟩
        · exact .inr (.inl (z ▸ z2))
        · rw [z, ef] at z2; cases z2
      · rcases bk p.1 z ef with y | y
        · exact .inr (.inl y)
        · exact .inl y
      · rcases a.newF p.1 u z with y | y | y
        · rw [ef] at y; cases y
        · exact .inr (.inl y)
        · exact .inl y
theorem Stp.new {p : Addr} {o : HO} (R : Rel K F H ms) (hp : H p = none) : Stp F H ms (upd F p o) (upd H p o) ms := by
  refine ⟨Sub.new (R.sub.none hp), fun a u h1 h2 h3 => ?_, fun a u h => ?_, fun q hq => .inl ⟨q, hq, rfl⟩⟩
  · rw [upd_ne (ne_of_none h1 hp)]; exact h1
  · by_cases e : a = p
    · subst e; exact .inr (.inl hp)
    · rw [upd_ne e] at h; exact .inl h
end
abbrev DE := DS → MS → (D → MS → Prop) → Prop
abbrev DA := DS → MS → (List D → MS → Prop) → Prop
abbrev DT := DS → MS → (Bool → MS → Prop) → Prop
def lift (K : PySem.W.Frag) (de : DE) : TE := fun σ H Q => ∃ F ds ms P, Rel K F H ms ∧ Sl K F σ ds ∧ de ds ms P ∧
  ∀ d ms' v F' H', P d ms' → Rel K F' H' ms' → Stp F H ms F' H' ms' → DR K F' v d → Q v H'
def liftA (K : PySem.W.Frag) (de : DA) : TA := fun σ H Q => ∃ F ds ms P, Rel K F H ms ∧ Sl K F σ ds ∧ de ds ms P ∧
  ∀ xs ms' vs F' H', P xs ms' → Rel K F' H' ms' → Stp F H ms F' H' ms' → DRs K F' vs xs → Q vs H'
def liftT (K : PySem.W.Frag) (de : DT) : TT := fun σ H Q => ∃ F ds ms P, Rel K F H ms ∧ Sl K F σ ds ∧ de ds ms P ∧
  ∀ b ms' F' H', P b ms' → Rel K F' H' ms' → Stp F H ms F' H' ms' → Q b H'
abbrev PD (X : Cx) (e : Expr) (de : DE) : Prop := PE X e (lift X.K de)
abbrev PDA (X : Cx) (es : List Expr) (de : DA) : Prop := PA X es (liftA X.K de)
abbrev PDT (X : Cx) (e : Expr) (de : DT) : Prop := PT X e (liftT X.K de)
theorem peImp {X : Cx} {e : Expr} {t t' : TE} (h : PE X e t) (hi : ∀ σ H Q, t' σ H Q → t σ H Q) : PE X e t' := ⟨fun pins s σ H Q I hq => h.run pins s σ H Q I (hi σ H Q hq)⟩
theorem paImp {X : Cx} {e : List Expr} {t t' : TA} (h : PA X e t) (hi : ∀ σ H Q, t' σ H Q → t σ H Q) : PA X e t' := ⟨fun pos pins s σ H Q I hq => h.run pos pins s σ H Q I (hi σ H Q hq)⟩
theorem ptImp {X : Cx} {e : Expr} {t t' : TT} (h : PT X e t) (hi : ∀ σ H Q, t' σ H Q → t σ H Q) : PT X e t' := ⟨fun pins s σ H Q I hq => h.run pins s σ H Q I (hi σ H Q hq)⟩
theorem pwImp {X : Cx} {e : Expr} {t t' : TT} (h : PW X e t) (hi : ∀ σ H Q, t' σ H Q → t σ H Q) : PW X e t' := ⟨fun wh pins s σ H Q I hq => h.run wh pins s σ H Q I (hi σ H Q hq)⟩
theorem psImp {X : Cx} {e : Stmt} {t t' : TS} (h : PS X e t) (hi : ∀ D σ H, t' D σ H → t D σ H) : PS X e t' := ⟨fun pins s σ H D I hq => h.run pins s σ H D I (hi D σ H hq)⟩
theorem pssImp {X : Cx} {e : List Stmt} {t t' : TS} (h : PSs X e t) (hi : ∀ D σ H, t' D σ H → t D σ H) : PSs X e t' := ⟨fun pins s σ H D I hq => h.run pins s σ H D I (hi D σ H hq)⟩
def dC (d : D) : DE := fun _ ms P => P d ms
def dVar (i : Nat) : DE := fun ds ms P => match slot ds i with
  | some d => P d ms
  | none => False
section
variable {X : Cx} {K : PySem.W.Frag}
theorem lift_c {v : V} {d : D} (h : ∀ F, DR K F v d) : ∀ σ H Q, lift K (dC d) σ H Q → tC v σ H Q := fun σ H Q ⟨F, ds, ms, P, R, S, h1, h2⟩ =>
  h2 d ms v F H h1 R Stp.refl (h F)
theorem pd_int {i j pos} : PD X (.Constant (.int i) j pos) (dC (.int i)) := peImp pe_int (lift_c fun _ => .int i)
theorem pd_bl {b j pos} : PD X (.Constant (.bool b) j pos) (dC (.bl b)) := peImp pe_bl (lift_c fun _ => .bl b)
theorem pd_non {j pos} : PD X (.Constant .none j pos) (dC .non) := peImp pe_non (lift_c fun _ => .non)
theorem pd_str {x j pos} : PD X (.Constant (.str x) j pos) (dC (.str x)) := peImp pe_str (lift_c fun _ => .str x)
theorem pd_glob {x : Str} {v : V} {d : D} {u : Value} {pos : Pos} (hg : Gl X x) (hm : X.mg x = some u) (r : RelV v u) (h : ∀ F, DR X.K F v d) (hd : (x == ("__debug__" : Str)) = false := by decide) : PD X (.Name x pos) (dC d) :=
  peImp (pe_glob hg hm r hd) (lift_c h)
theorem pd_var (i : Nat) {x : Str} {pos : Pos} (hN : X.N[i]? = some x := by rfl) (hv : Vis X.env.scope x := by first | exact Or.inl rfl | exact Or.inr (Or.inl rfl) | exact Or.inr (Or.inr rfl)) (hd : (x == ("__debug__" : Str)) = false := by decide)
    (hcd : (x == ("__classdict__" : Str)) = false := by decide) : PD X (.Name x pos) (dVar i) :=
  peImp (pe_var hN hv hd hcd) fun σ H Q ⟨F, ds, ms, P, R, S, h1, h2⟩ => by
    unfold dVar at h1
    cases e : slot ds i with
    | none => rw [e] at h1; exact h1.elim
    | some d =>
      rw [e] at h1
      obtain ⟨v, hv, hr⟩ := S.get e
      exact ⟨v, hv, h2 d ms v F H h1 R Stp.refl hr⟩
end
abbrev OF := D → D → MS → (D → MS → Prop) → Prop
def OpD (K : PySem.W.Frag) (r : R2) (f : OF) : Prop := ∀ (F H : Hp) (ms : MS) (x y : V) (dx dy : D) (P : D → MS → Prop) (Q : VK), Rel K F H ms → DR K F x dx → DR K F y dy → f dx dy ms P →
  (∀ d ms' v F' H', P d ms' → Rel K F' H' ms' → Stp F H ms F' H' ms' → DR K F' v d → Q v H') → r x y H Q
def dOp (f : OF) (da db : DE) : DE := fun ds ms P => da ds ms fun x m1 => db ds m1 fun y m2 => f x y m2 P
section
variable {X : Cx} {K : PySem.W.Frag} {da db dc : DE} {a b c : Expr} {pos : Pos}
theorem lift_op {r : R2} {f : OF} (hf : OpD K r f) : ∀ σ H Q, lift K (dOp f da db) σ H Q → tOp r (lift K da) (lift K db) σ H Q := fun σ H Q ⟨F, ds, ms, P, R, S, h1, h2⟩ =>
  ⟨F, ds, ms, _, R, S, h1, fun dx m1 x F1 H1 p1 R1 s1 r1 => ⟨F1, ds, m1, _, R1, S.mono s1.sub, p1, fun dy m2 y F2 H2 p2 R2 s2 r2 =>
    hf F2 H2 m2 x y dx dy P Q R2 (r1.mono s2.sub) r2 p2 fun d m3 v F3 H3 p3 R3 s3 r3 => h2 d m3 v F3 H3 p3 R3 (s1.trans (s2.trans s3)) r3⟩⟩
theorem pd_op {op : Operator} {r : R2} {f : OF} (ho : OpR X (binaryOp op) r) (hf : OpD X.K r f) (ha : PD X a da) (hb : PD X b db) : PD X (.BinOp a op b pos) (dOp f da db) :=
  peImp (pe_op ho ha hb) (lift_op hf)
theorem pd_cmp {op : CmpOp} {r : R2} {f : OF} (ho : OpR X (compareOp op) r) (hf : OpD X.K r f) (ha : PD X a da) (hb : PD X b db) (hm : behindInMarks op b = false := by first | exact nomark _ | rfl) : PD X (.Compare a [op] [b] pos) (dOp f da db) :=
  peImp (pe_cmpR ho ha hb hm) (lift_op hf)
theorem pd_ix {r : R2} {f : OF} (hr : IxR X r) (hf : OpD X.K r f) (ha : PD X a da) (hb : PD X b db) (hs : PlainIx b := by exact fun _ _ => rfl) : PD X (.Subscript a b pos) (dOp f da db) :=
  peImp (pe_ix hr ha hb hs) (lift_op hf)
end
/-- ints in, a value out, under a condition -/
def fI (C : Int → Int → Prop) (g : Int → Int → D) : OF := fun x y ms P => match x, y with
  | .int i, .int j => C i j ∧ P (g i j) ms
  | _, _ => False
theorem opd_I {K : PySem.W.Frag} {C C' : Int → Int → Prop} {g : Int → Int → V} {g' : Int → Int → D} (hC : ∀ i j, C i j → C' i j) (hg : ∀ F i j, DR K F (g i j) (g' i j)) : OpD K (rI C' g) (fI C g') := by
  intro F H ms x y dx dy P Q R rx ry h q
  cases rx <;> cases ry <;> try exact h.elim
  exact ⟨_, _, rfl, rfl, hC _ _ h.1, q _ _ _ F H h.2 R Stp.refl (hg F _ _)⟩
theorem opd_I0 {K : PySem.W.Frag} {g : Int → Int → V} {g' : Int → Int → D} (hg : ∀ F i j, DR K F (g i j) (g' i j)) : OpD K (rI0 g) (fI (fun _ _ => True) g') := by
  intro F H ms x y dx dy P Q R rx ry h q
  cases rx <;> cases ry <;> try exact h.elim
  exact ⟨_, _, rfl, rfl, q _ _ _ F H h.2 R Stp.refl (hg F _ _)⟩
end DL
namespace DL
open PySem PySem.Spec PyProof.Rows L2
def aNil : DA := fun _ ms P => P [] ms
def aCons (de : DE) (da : DA) : DA := fun ds ms P => de ds ms fun x m1 => da ds m1 fun xs m2 => P (x :: xs) m2
section
variable {X : Cx} {K : PySem.W.Frag} {da db dc : DE} {a b c e : Expr} {es : List Expr} {pos : Pos} {aa : DA}
theorem pda_nil : PDA X [] aNil := paImp pa_nil fun σ H Q ⟨F, ds, ms, P, R, S, h1, h2⟩ => h2 [] ms [] F H h1 R Stp.refl .nil
theorem pda_cons (ha : PD X e da) (hr : PDA X es aa) (hs : starEach (e :: es) X.env = (false, eval e X.env) :: starEach es X.env := by rfl) : PDA X (e :: es) (aCons da aa) :=
  paImp (pa_cons ha hr hs) fun σ H Q ⟨F, ds, ms, P, R, S, h1, h2⟩ =>
    ⟨F, ds, ms, _, R, S, h1, fun dx m1 x F1 H1 p1 R1 s1 r1 => ⟨F1, ds, m1, _, R1, S.mono s1.sub, p1, fun xs m2 vs F2 H2 p2 R2 s2 r2 =>
      h2 _ m2 (x :: vs) F2 H2 p2 R2 (s1.trans s2) (.cons (r1.mono s2.sub) r2)⟩⟩
def dTup (da : DA) : DE := fun ds ms P => da ds ms fun xs m => xs.length ≤ sizeLine ∧ P (.tup xs) m
def dLst (da : DA) : DE := fun ds ms P => da ds ms fun xs m => xs.length ≤ sizeLine ∧ P (.lst xs) m
/-- a list that is to be changed -/
def dLstM (da : DA) : DE := fun ds ms P => da ds ms fun xs m => xs.length ≤ sizeLine ∧ ∀ p, (∀ q ∈ m, q.1 ≠ p) → P (.opq (.ref p)) ((p, xs) :: m)
theorem Rel.newTup {F H : Hp} {ms : MS} {p : Addr} {vs : List V} {xs : List D} (R : Rel K F H ms) (hp : H p = none) (r : DRs K F vs xs) : DR K (upd F p (.tup vs)) (.ref p) (.tup xs) :=
  .tup (SqT.of upd_same) (r.mono (Sub.new (R.sub.none hp)))
theorem Rel.newLst {F H : Hp} {ms : MS} {p : Addr} {vs : List V} {xs : List D} (R : Rel K F H ms) (hp : H p = none) (r : DRs K F vs xs) : DR K (upd F p (.lst vs)) (.ref p) (.lst xs) :=
  .lst upd_same (r.mono (Sub.new (R.sub.none hp)))
theorem Rel.newMut {F H : Hp} {ms : MS} {p : Addr} {vs : List V} {xs : List D} (R : Rel K F H ms) (hp : H p = none) (r : DRs K F vs xs) : (∀ q ∈ ms, q.1 ≠ p) ∧ Rel K F (upd H p (.lst vs)) ((p, xs) :: ms) := by
  have hne : ∀ q ∈ ms, q.1 ≠ p := fun q hq => by
    obtain ⟨h1, ws, h2, h3⟩ := R.mu q hq
    exact ne_of_none h2 hp
  refine ⟨hne, R.sub.trans (Sub.new hp), fun q hq => ?_, ?_, R.one⟩
  · rcases List.mem_cons.mp hq with rfl | hq
    · exact ⟨R.sub.none hp, vs, by rw [cell_no r.no]; exact upd_same, by rw [body_no r.no]; exact r⟩
    · obtain ⟨h1, ws, h2, h3⟩ := R.mu q hq
      exact ⟨h1, ws, by rw [upd_ne (hne q hq)]; exact h2, h3⟩
  · rw [List.map_cons, List.nodup_cons]
    refine ⟨fun hm => ?_, R.nd⟩
    obtain ⟨q, hq, e⟩ := List.mem_map.mp hm
    exact hne q hq e
theorem Stp.newMut {F H : Hp} {ms : MS} {p : Addr} {vs : List V} {xs : List D} (hp : H p = none) : Stp F H ms F (upd H p (.lst vs)) ((p, xs) :: ms) :=
  ⟨Sub.refl F, fun a u h1 _ _ => by rw [upd_ne (ne_of_none h1 hp)]; exact h1, fun _ _ h => .inl h, fun q hq => by
    rcases List.mem_cons.mp hq with rfl | hq
    · exact .inr (.inl hp)
    · exact .inl ⟨q, hq, rfl⟩⟩
theorem pd_tup {x1} (h : PDA X es aa) : PD X (.Tuple es x1 pos) (dTup aa) := peImp (pe_tup h) fun σ H Q ⟨F, ds, ms, P, R, S, h1, h2⟩ =>
  ⟨F, ds, ms, _, R, S, h1, fun xs m vs F1 H1 p1 R1 s1 r1 => ⟨by rw [r1.length]; exact p1.1, fun p hp =>
    h2 _ m _ (upd F1 p (.tup vs)) _ p1.2 (R1.new hp) (s1.trans (Stp.new R1 hp)) (R1.newTup hp r1)⟩⟩
theorem pd_lst (h : PDA X es aa) : PD X (.List es pos) (dLst aa) := peImp (pe_lst h) fun σ H Q ⟨F, ds, ms, P, R, S, h1, h2⟩ =>
  ⟨F, ds, ms, _, R, S, h1, fun xs m vs F1 H1 p1 R1 s1 r1 => ⟨by rw [r1.length]; exact p1.1, fun p hp =>
    h2 _ m _ (upd F1 p (.lst vs)) _ p1.2 (R1.new hp) (s1.trans (Stp.new R1 hp)) (R1.newLst hp r1)⟩⟩
theorem pd_lstM (h : PDA X es aa) : PD X (.List es pos) (dLstM aa) := peImp (pe_lst h) fun σ H Q ⟨F, ds, ms, P, R, S, h1, h2⟩ =>
  ⟨F, ds, ms, _, R, S, h1, fun xs m vs F1 H1 p1 R1 s1 r1 => ⟨by rw [r1.length]; exact p1.1, fun p hp =>
    h2 _ ((p, xs) :: m) _ F1 _ (p1.2 p (R1.newMut hp r1).1) (R1.newMut hp r1).2 (s1.trans (Stp.newMut hp)) (.opq _)⟩⟩
def dTest (da : DE) : DT := fun ds ms P => da ds ms fun x m => match x with
  | .bl b => P b m
  | _ => False
theorem pdt_val (h : PD X e da) (he : ∀ whole, isTrue e X.env whole = (do let v ← whole; standAt e.pos; holding [v] (truthy v)) := by intro _; rfl) : PDT X e (dTest da) :=
  ptImp (pt_val h he) fun σ H Q ⟨F, ds, ms, P, R, S, h1, h2⟩ =>
    ⟨F, ds, ms, _, R, S, h1, fun d m v F1 H1 p1 R1 s1 r1 => by
      cases d with
      | bl b => cases r1; exact ⟨b, rfl, h2 b m F1 H1 p1 R1 s1⟩
      | _ => exact p1.elim⟩
theorem pdt_cmp {op : CmpOp} {r : R2} {f : OF} (ho : OpR X (compareOp op) r) (hf : OpD X.K r f) (ha : PD X a da) (hb : PD X b db) (hm : behindInMarks op b = false := by first | exact nomark _ | rfl) : PDT X (.Compare a [op] [b] pos) (dTest (dOp f da db)) :=
  ptImp (pt_cmpR ho ha hb hm) fun σ H Q ⟨F, ds, ms, P, R, S, h1, h2⟩ =>
    lift_op hf σ H _ ⟨F, ds, ms, _, R, S, h1, fun d m v F1 H1 p1 R1 s1 r1 => by
      cases d with
      | bl b => cases r1; exact ⟨b, rfl, h2 b m F1 H1 p1 R1 s1⟩
      | _ => exact p1.elim⟩
/-- a value's truth -/
def truD : D → MS → (Bool → Prop) → Prop := fun x ms P => match x with
  | .non => P false
  | .bl b => P b
  | .int i => P (i != 0)
  | .str y => y.length ≤ sizeLine ∧ P ((y.length : Int) != 0)
  | .lst xs => P (!xs.isEmpty)
  | .fro xs => P (!xs.isEmpty)
  | .tup xs => P (!xs.isEmpty)
  | _ => False
def dTru (da : DE) : DT := fun ds ms P => da ds ms fun x m => truD x m fun b => P b m
theorem isEmpty_of' {F : Hp} {vs : List V} {xs : List D} (r : DRs K F vs xs) : (!xs.isEmpty) = !vs.isEmpty := by cases r <;> rfl
theorem pdt_tru (h : PD X e da) (he : ∀ whole, isTrue e X.env whole = (do let v ← whole; standAt e.pos; holding [v] (truthy v)) := by intro _; rfl) : PDT X e (dTru da) :=
  ptImp (pt_truth h he) fun σ H Q ⟨F, ds, ms, P, R, S, h1, h2⟩ =>
    ⟨F, ds, ms, _, R, S, h1, fun d m v F1 H1 p1 R1 s1 r1 => by
      cases r1 with
      | non => exact ⟨_, rfl, h2 _ m F1 H1 p1 R1 s1⟩
      | bl b => exact ⟨_, rfl, h2 _ m F1 H1 p1 R1 s1⟩
      | int i => exact ⟨_, rfl, h2 _ m F1 H1 p1 R1 s1⟩
      | str x => exact ⟨_, ⟨p1.1, rfl⟩, h2 _ m F1 H1 p1.2 R1 s1⟩
      | lst h hs => exact ⟨_, .inl ⟨_, SqL.of (R1.sub _ _ h), isEmpty_of' hs⟩, h2 _ m F1 H1 p1 R1 s1⟩
      | tup h hs => exact ⟨_, .inr (.inl ⟨_, R1.sub.sqT h, isEmpty_of' hs⟩), h2 _ m F1 H1 p1 R1 s1⟩
      | fro h hs => exact ⟨_, .inl ⟨_, R1.sub.sqL h, isEmpty_of' hs⟩, h2 _ m F1 H1 p1 R1 s1⟩
      | edic h => exact p1.elim
      | dct h => exact p1.elim
      | opq v => exact p1.elim
      | exc _ _ _ _ => exact p1.elim
      | kls _ => exact p1.elim⟩
def dNot (dt : DT) : DT := fun ds ms P => dt ds ms fun b m => P (!b) m
def dAnd (dt du : DT) : DT := fun ds ms P => dt ds ms fun b m => if b = true then du ds m P else P false m
def dOr (dt du : DT) : DT := fun ds ms P => dt ds ms fun b m => if b = true then P true m else du ds m P
variable {dt du : DT} {rest : List Expr}
theorem pdt_not (h : PDT X e dt) : PDT X (.UnaryOp .Not e pos) (dNot dt) := ptImp (pt_not h) fun σ H Q ⟨F, ds, ms, P, R, S, h1, h2⟩ =>
  ⟨F, ds, ms, _, R, S, h1, fun b m F1 H1 p1 R1 s1 => h2 _ m F1 H1 p1 R1 s1⟩
abbrev PDW (X : Cx) (e : Expr) (dt : DT) : Prop := PW X e (liftT X.K dt)
theorem pdw_and1 (h : PDT X e dt) : PDW X (.BoolOp .And [e] pos) dt := pw_and1 h
theorem pdw_or1 (h : PDT X e dt) : PDW X (.BoolOp .Or [e] pos) dt := pw_or1 h
theorem pdw_and (h : PDT X a dt) (hb : PDW X (.BoolOp .And (b :: rest) pos) du) : PDW X (.BoolOp .And (a :: b :: rest) pos) (dAnd dt du) := pwImp (pw_and h hb) fun σ H Q ⟨F, ds, ms, P, R, S, h1, h2⟩ =>
  ⟨F, ds, ms, _, R, S, h1, fun k m F1 H1 p1 R1 s1 => by
    cases k with
    | true =>
      rw [if_pos rfl] at p1 ⊢
      exact ⟨F1, ds, m, P, R1, S.mono s1.sub, p1, fun k2 m2 F2 H2 p2 R2 s2 => h2 k2 m2 F2 H2 p2 R2 (s1.trans s2)⟩
    | false =>
      rw [if_neg Bool.false_ne_true] at p1 ⊢
      exact h2 _ m F1 H1 p1 R1 s1⟩
theorem pdw_or (h : PDT X a dt) (hb : PDW X (.BoolOp .Or (b :: rest) pos) du) : PDW X (.BoolOp .Or (a :: b :: rest) pos) (dOr dt du) := pwImp (pw_or h hb) fun σ H Q ⟨F, ds, ms, P, R, S, h1, h2⟩ =>
  ⟨F, ds, ms, _, R, S, h1, fun k m F1 H1 p1 R1 s1 => by
    cases k with
    | false =>
      rw [if_neg Bool.false_ne_true] at p1 ⊢
      exact ⟨F1, ds, m, P, R1, S.mono s1.sub, p1, fun k2 m2 F2 H2 p2 R2 s2 => h2 k2 m2 F2 H2 p2 R2 (s1.trans s2)⟩
    | true =>
      rw [if_pos rfl] at p1 ⊢
      exact h2 _ m F1 H1 p1 R1 s1⟩
theorem pdt_w (h : PDW X e dt) : PDT X e dt := h.pt
def dAndV (da db : DE) : DE := fun ds ms P => da ds ms fun x m => match x with
  | .bl b => if b = true then db ds m P else P (.bl false) m
  | _ => False
def dOrV (da db : DE) : DE := fun ds ms P => da ds ms fun x m => match x with
  | .bl b => if b = true then P (.bl true) m else db ds m P
  | _ => False
def dNotV (da : DE) : DE := fun ds ms P => da ds ms fun x m => match x with
  | .bl b => P (.bl (!b)) m
  | _ => False
theorem pd_one {op} (h : PD X e da) : PD X (.BoolOp op [e] pos) da := pe_one h
theorem pd_and (h : PD X a da) (hb : PD X (.BoolOp .And (b :: rest) pos) db) : PD X (.BoolOp .And (a :: b :: rest) pos) (dAndV da db) := peImp (pe_and h hb) fun σ H Q ⟨F, ds, ms, P, R, S, h1, h2⟩ =>
  ⟨F, ds, ms, _, R, S, h1, fun k m v F1 H1 p1 R1 s1 r1 => by
    cases k with
    | bl k =>
      cases r1
      refine ⟨k, rfl, ?_⟩
      cases k with
      | true =>
        simp only [if_true] at p1 ⊢
        exact ⟨F1, ds, m, P, R1, S.mono s1.sub, p1, fun k2 m2 v2 F2 H2 p2 R2 s2 r2 => h2 k2 m2 v2 F2 H2 p2 R2 (s1.trans s2) r2⟩
      | false =>
        simp only [if_neg Bool.false_ne_true] at p1 ⊢
        exact h2 _ m _ F1 H1 p1 R1 s1 (.bl false)
    | _ => exact p1.elim⟩
theorem pd_not (h : PD X e da) : PD X (.UnaryOp .Not e pos) (dNotV da) := peImp (pe_not h) fun σ H Q ⟨F, ds, ms, P, R, S, h1, h2⟩ =>
  ⟨F, ds, ms, _, R, S, h1, fun k m v F1 H1 p1 R1 s1 r1 => by
    cases k with
    | bl k => cases r1; exact ⟨k, rfl, h2 _ m _ F1 H1 p1 R1 s1 (.bl _)⟩
    | _ => exact p1.elim⟩
def dIf (dt : DT) (da db : DE) : DE := fun ds ms P => dt ds ms fun b m => if b = true then da ds m P else db ds m P
theorem pd_ifExp (hc : PDT X c dt) (ha : PD X a da) (hb : PD X b db) : PD X (.IfExp c a b pos) (dIf dt da db) := peImp (pe_ifExp hc ha hb) fun σ H Q ⟨F, ds, ms, P, R, S, h1, h2⟩ =>
  ⟨F, ds, ms, _, R, S, h1, fun k m F1 H1 p1 R1 s1 => by
    cases k with
    | true =>
      rw [if_pos rfl] at p1 ⊢
      exact ⟨F1, ds, m, P, R1, S.mono s1.sub, p1, fun k2 m2 v2 F2 H2 p2 R2 s2 r2 => h2 k2 m2 v2 F2 H2 p2 R2 (s1.trans s2) r2⟩
    | false =>
      rw [if_neg Bool.false_ne_true] at p1 ⊢
      exact ⟨F1, ds, m, P, R1, S.mono s1.sub, p1, fun k2 m2 v2 F2 H2 p2 R2 s2 r2 => h2 k2 m2 v2 F2 H2 p2 R2 (s1.trans s2) r2⟩⟩
def dNeg (da : DE) : DE := fun ds ms P => da ds ms fun x m => match x with
  | .int i => P (.int (-i)) m
  | _ => False
theorem pd_neg (h : PD X e da) : PD X (.UnaryOp .USub e pos) (dNeg da) := peImp (pe_un un_neg h) fun σ H Q ⟨F, ds, ms, P, R, S, h1, h2⟩ =>
  ⟨F, ds, ms, _, R, S, h1, fun k m v F1 H1 p1 R1 s1 r1 => by
    cases k with
    | int k => cases r1; exact ⟨k, rfl, h2 _ m _ F1 H1 p1 R1 s1 (.int _)⟩
    | _ => exact p1.elim⟩
end
structure EN where
  nx : DS → MS → Prop
  rt : D → MS → Prop
  bk : DS → MS → Prop := fun _ _ => False
  ct : DS → MS → Prop := fun _ _ => False
  ex : Str → List Str → List D → DS → MS → Prop := fun _ _ _ _ _ => False
abbrev DTS := EN → DS → MS → Prop
def liftS (K : PySem.W.Frag) (t : DTS) : TS := fun D σ H => ∃ F ds ms E, Rel K F H ms ∧ Sl K F σ ds ∧ t E ds ms ∧
  (∀ ds' ms' σ' F' H', E.nx ds' ms' → Rel K F' H' ms' → Stp F H ms F' H' ms' → Sl K F' σ' ds' → D.nx σ' H') ∧
  (∀ d ms' v F' H', E.rt d ms' → Rel K F' H' ms' → Stp F H ms F' H' ms' → DR K F' v d → D.rt v H') ∧
  (∀ ds' ms' σ' F' H', E.bk ds' ms' → Rel K F' H' ms' → Stp F H ms F' H' ms' → Sl K F' σ' ds' → D.bk σ' H') ∧
  (∀ ds' ms' σ' F' H', E.ct ds' ms' → Rel K F' H' ms' → Stp F H ms F' H' ms' → Sl K F' σ' ds' → D.ct σ' H')
abbrev PDS (X : Cx) (st : Stmt) (t : DTS) : Prop := PS X st (liftS X.K t)
abbrev PDSs (X : Cx) (st : List Stmt) (t : DTS) : Prop := PSs X st (liftS X.K t)
def dNext : DTS := fun E ds ms => E.nx ds ms
def dBreak : DTS := fun E ds ms => E.bk ds ms
def dCont : DTS := fun E ds ms => E.ct ds ms
def dSeq (t u : DTS) : DTS := fun E ds ms => t { E with nx := u E } ds ms
def dRet (de : DE) : DTS := fun E ds ms => de ds ms E.rt
def dRetN : DTS := fun E ds ms => E.rt .non ms
def dDrop (de : DE) : DTS := fun E ds ms => de ds ms fun _ m => E.nx ds m
def dIfS (c : DT) (t u : DTS) : DTS := fun E ds ms => c ds ms fun b m => if b = true then t E ds m else u E ds m
def dNever : DTS := fun _ _ _ => False
section
variable {X : Cx} {K : PySem.W.Frag} {da db dc : DE} {a b c e : Expr} {es : List Expr} {pos : Pos} {aa : DA} {st : Stmt} {rest : List Stmt} {t u : DTS} {dt : DT}
theorem pds_nil : PDSs X [] dNext := pssImp pss_nil fun D σ H ⟨F, ds, ms, E, R, S, h, n, r, k, q⟩ => n ds ms σ F H h R Stp.refl S
theorem lift_seq : ∀ D σ H, liftS K (dSeq t u) D σ H → tSeq (liftS K t) (liftS K u) D σ H := fun D σ H ⟨F, ds, ms, E, R, S, h, n, r, k, q⟩ =>
  ⟨F, ds, ms, { E with nx := u E }, R, S, h, fun ds1 m1 σ1 F1 H1 h1 R1 s1 S1 => ⟨F1, ds1, m1, E, R1, S1, h1,
    fun ds2 m2 σ2 F2 H2 h2 R2 s2 S2 => n ds2 m2 σ2 F2 H2 h2 R2 (s1.trans s2) S2, fun d m2 v F2 H2 h2 R2 s2 r2 => r d m2 v F2 H2 h2 R2 (s1.trans s2) r2,
    fun ds2 m2 σ2 F2 H2 h2 R2 s2 S2 => k ds2 m2 σ2 F2 H2 h2 R2 (s1.trans s2) S2, fun ds2 m2 σ2 F2 H2 h2 R2 s2 S2 => q ds2 m2 σ2 F2 H2 h2 R2 (s1.trans s2) S2⟩, r, k, q⟩
theorem pds_cons (h1 : PDS X st t) (h2 : PDSs X rest u) : PDSs X (st :: rest) (dSeq t u) := pssImp (pss_cons h1 h2) lift_seq
theorem pds_one (h1 : PDS X st t) : PDSs X [st] t := pss_one h1
theorem pds_never : PDS X st dNever := psImp ps_never fun D σ H ⟨F, ds, ms, E, R, S, h, n, r, k, q⟩ => h
theorem pds_expr (he : PD X e da) (hs : swapsWith e none pos.line X.env = pure false := by rfl) : PDS X (.Expr e pos) (dDrop da) := psImp (ps_expr he hs) fun D σ H ⟨F, ds, ms, E, R, S, h, n, r, k, q⟩ =>
  ⟨F, ds, ms, _, R, S, h, fun d m v F1 H1 p1 R1 s1 r1 => n ds m σ F1 H1 p1 R1 s1 (S.mono s1.sub)⟩
theorem pds_ret (he : PD X e da) : PDS X (.Return (some e) pos) (dRet da) := psImp (ps_ret he) fun D σ H ⟨F, ds, ms, E, R, S, h, n, r, k, q⟩ =>
  ⟨F, ds, ms, _, R, S, h, fun d m v F1 H1 p1 R1 s1 r1 => r d m v F1 H1 p1 R1 s1 r1⟩
theorem pds_if {x y : List Stmt} (hc : PDT X c dt) (ha : PDSs X x t) (hb : PDSs X y u) : PDS X (.If c x y pos) (dIfS dt t u) := psImp (ps_if hc ha hb) fun D σ H ⟨F, ds, ms, E, R, S, h, n, r, k, q⟩ =>
  ⟨F, ds, ms, _, R, S, h, fun b m F1 H1 p1 R1 s1 => by
    have mk : ∀ {w : DTS}, w E ds m → liftS X.K w D σ H1 := fun {w} hw => ⟨F1, ds, m, E, R1, S.mono s1.sub, hw,
      fun ds2 m2 σ2 F2 H2 h2 R2 s2 S2 => n ds2 m2 σ2 F2 H2 h2 R2 (s1.trans s2) S2, fun d m2 v F2 H2 h2 R2 s2 r2 => r d m2 v F2 H2 h2 R2 (s1.trans s2) r2,
      fun ds2 m2 σ2 F2 H2 h2 R2 s2 S2 => k ds2 m2 σ2 F2 H2 h2 R2 (s1.trans s2) S2, fun ds2 m2 σ2 F2 H2 h2 R2 s2 S2 => q ds2 m2 σ2 F2 H2 h2 R2 (s1.trans s2) S2⟩
    cases b with
    | true => rw [if_pos rfl] at p1; exact iteT (mk p1)
    | false => rw [if_neg Bool.false_ne_true] at p1; exact iteF (mk p1)⟩
abbrev DG := D → DS → (DS → Prop) → Prop
abbrev DGs := List D → DS → (DS → Prop) → Prop
structure TgD (K : PySem.W.Frag) (g : TG) (dg : DG) (vs : List Nat) : Prop where
  snd : ∀ (v : V) (σ : L2.St) (F H : Hp) (Q : L2.St → Hp → Prop) (d : D) (ds : DS) (P : DS → Prop), Sub F H → Sl K F σ ds → DR K F v d → dg d ds P → (∀ ds' σ', P ds' → Sl K F σ' ds' → Q σ' H) → g v σ H Q
  wip : ∀ (v : V) (σ : L2.St) (H : Hp) (Q : L2.St → Hp → Prop), g v σ H Q → g v σ H fun σ2 H2 => wipe σ2 vs = wipe σ vs ∧ Q σ2 H2
structure TgsD (K : PySem.W.Frag) (g : TGs) (dg : DGs) (vs : List Nat) : Prop where
  snd : ∀ (xs : List V) (σ : L2.St) (F H : Hp) (Q : L2.St → Hp → Prop) (d : List D) (ds : DS) (P : DS → Prop), Sub F H → Sl K F σ ds → DRs K F xs d → dg d ds P → (∀ ds' σ', P ds' → Sl K F σ' ds' → Q σ' H) → g xs σ H Q
  wip : ∀ (v : List V) (σ : L2.St) (H : Hp) (Q : L2.St → Hp → Prop), g v σ H Q → g v σ H fun σ2 H2 => wipe σ2 vs = wipe σ vs ∧ Q σ2 H2
def sName (i : Nat) : DG := fun d ds P => P (setSlot ds i d)
def sNil : DGs := fun xs ds P => match xs with
  | [] => P ds
  | _ => False
def sCons (g : DG) (gs : DGs) : DGs := fun xs ds P => match xs with
  | x :: r => g x ds fun ds1 => gs r ds1 P
  | [] => False
def sTup (n : Nat) (gs : DGs) : DG := fun d ds P => match d with
  | .tup xs => xs.length = n ∧ gs xs ds P
  | _ => False
theorem wipe_set {σ : L2.St} {o : Option V} {i : Nat} : ∀ {vs : List Nat}, i ∈ vs → wipe (σ.set i o) vs = wipe σ vs
  | [], h => absurd h (by simp)
  | v :: vs, h => by
    show (wipe (σ.set i o) vs).set v none = (wipe σ vs).set v none
    by_cases hv : i = v
    · subst hv
      have key : ∀ (ws : List Nat), (wipe (σ.set i o) ws).set i none = (wipe σ ws).set i none := by
        intro ws
        induction ws with
        | nil => show (σ.set i o).set i none = σ.set i none; rw [List.set_set]
        | cons w ws ih =>
          show ((wipe (σ.set i o) ws).set w none).set i none = ((wipe σ ws).set w none).set i none
          by_cases hw : w = i
          · subst hw; rw [List.set_set, List.set_set, ih]
          · rw [List.set_comm _ _ hw, List.set_comm _ _ hw, ih]
      exact key vs
    · rw [wipe_set ((List.mem_cons.mp h).resolve_left hv)]
theorem tg_name {i : Nat} {vs : List Nat} (h : i ∈ vs) : TgD K (gName i) (sName i) vs :=
  ⟨fun v σ F H Q d ds P sb S r hp q => q _ _ hp (S.set r i), fun v σ H Q h1 => ⟨wipe_set h, h1⟩⟩
theorem tgs_nil {vs : List Nat} : TgsD K gNil sNil vs :=
  ⟨fun xs σ F H Q d ds P sb S r hp q => by
    cases r with
    | nil => exact ⟨rfl, q _ _ hp S⟩
    | cons _ _ => exact hp.elim, fun v σ H Q h1 => ⟨h1.1, rfl, h1.2⟩⟩
theorem tgs_cons {g : TG} {gs : TGs} {dg : DG} {dgs : DGs} {vs : List Nat} (h : TgD K g dg vs) (hs : TgsD K gs dgs vs)
    (mg : ∀ v σ H (Q Q' : L2.St → Hp → Prop), (∀ s h, Q s h → Q' s h) → g v σ H Q → g v σ H Q') : TgsD K (gCons g gs) (sCons dg dgs) vs := by
  refine ⟨fun xs σ F H Q d ds P sb S r hp q => ?_, fun v σ H Q h1 => ?_⟩
  · cases r with
    | nil => exact hp.elim
    | cons r rs => exact ⟨_, _, rfl, h.snd _ _ F H _ _ _ _ sb S r hp fun ds1 σ1 h1 S1 => hs.snd _ _ F H _ _ _ _ sb S1 rs h1 q⟩
  · obtain ⟨x, r, e, h2⟩ := h1
    refine ⟨x, r, e, mg _ _ _ _ _ (fun σ1 H1 z => ?_) (h.wip _ _ _ _ h2)⟩
    obtain ⟨z1, z2⟩ := z
    have z3 := hs.wip _ _ _ _ z2
    rw [z1] at z3
    exact z3
theorem tg_tup {gs : TGs} {dgs : DGs} {vs : List Nat} {n : Nat} (hs : TgsD K gs dgs vs) : TgD K (gTup K n gs) (sTup n dgs) vs := by
  refine ⟨fun v σ F H Q d ds P sb S r hp q => ?_, fun v σ H Q h1 => ?_⟩
  · cases r with
    | tup h rs => exact ⟨_, _, rfl, sb.sqT h, by rw [rs.length]; exact hp.1, hs.snd _ _ F H _ _ _ _ sb S rs hp.2 q⟩
    | _ => exact hp.elim
  · obtain ⟨a, xs, e, h2, h3, h4⟩ := h1
    exact ⟨a, xs, e, h2, h3, hs.wip _ _ _ _ h4⟩
def MonG (g : TG) : Prop := ∀ v σ H (Q Q' : L2.St → Hp → Prop), (∀ s h, Q s h → Q' s h) → g v σ H Q → g v σ H Q'
def MonGs (g : TGs) : Prop := ∀ v σ H (Q Q' : L2.St → Hp → Prop), (∀ s h, Q s h → Q' s h) → g v σ H Q → g v σ H Q'
theorem mon_name {i : Nat} : MonG (gName i) := fun v σ H Q Q' h q => h _ _ q
theorem mon_nil : MonGs gNil := fun v σ H Q Q' h q => ⟨q.1, h _ _ q.2⟩
theorem mon_cons {g : TG} {gs : TGs} (a : MonG g) (b : MonGs gs) : MonGs (gCons g gs) := fun v σ H Q Q' h q =>
  let ⟨x, r, e, z⟩ := q; ⟨x, r, e, a _ _ _ _ _ (fun s hh z => b _ _ _ _ _ h z) z⟩
theorem mon_tup {gs : TGs} {n : Nat} (b : MonGs gs) : MonG (gTup K n gs) := fun v σ H Q Q' h q =>
  let ⟨a, xs, e, h2, h3, h4⟩ := q; ⟨a, xs, e, h2, h3, b _ _ _ _ _ h h4⟩
def dAsg (de : DE) (g : DG) : DTS := fun E ds ms => de ds ms fun d m => g d ds fun ds1 => E.nx ds1 m
theorem lift_asg {g : TG} {dg : DG} {vs : List Nat} (hg : TgD K g dg vs) : ∀ D σ H, liftS K (dAsg da dg) D σ H → tAsg (lift K da) g D σ H := fun D σ H ⟨F, ds, ms, E, R, S, h, n, r, k, q⟩ =>
  ⟨F, ds, ms, _, R, S, h, fun d m v F1 H1 p1 R1 s1 r1 => hg.snd v σ F1 H1 _ d ds _ R1.sub (S.mono s1.sub) r1 p1 fun ds1 σ1 h1 S1 => n ds1 m σ1 F1 H1 h1 R1 s1 S1⟩
theorem pds_set {i : Nat} {x : Str} {pos' : Pos} (hN : X.N.Nodup) (hi : X.N[i]? = some x) (hx : Loc X.env.scope x) (he : PD X e da) (hs : swapsWith e (some (.Name x pos')) pos.line X.env = pure false := by rfl)
    (hf : X.fn x = true ∨ X.env.scope.names.lookup x = some .local := by first | exact .inl rfl | exact .inr rfl | assumption) : PDS X (.Assign [.Name x pos'] e pos) (dAsg da (sName i)) :=
  psImp (ps_set hN hi hx he hs hf) (lift_asg (vs := [i]) (tg_name (by simp)))
theorem pds_asg {tg : Expr} {g : TG} {dg : DG} {vs : List Nat} (he : PD X e da) (hg : PG X tg g) (hd : TgD X.K g dg vs) (hs : swapsWithSole [tg] e pos.line X.env = pure false := by rfl) (hw : swappedStores [tg] e X.env = pure none := by rfl)
    (h1 : (assignEach [tg] X.env).map (·.2) = [assign tg X.env] := by rfl) : PDS X (.Assign [tg] e pos) (dAsg da dg) :=
  psImp (ps_asg he hg hs hw h1) (lift_asg hd)
/-- a, b = x, y with plain local names -/
def dPar (i j : Nat) (aa : DA) : DTS := fun E ds ms => aa ds ms fun xs m => match xs with
  | [x, y] => E.nx (setSlot (setSlot ds i x) j y) m
  | _ => False
end
end DL
namespace DL
open PySem PySem.Spec PyProof.Rows L2
structure RoomG (k : Nat) (A : Around) : Prop where
  r : Room k A
  g : A.guards = some []
theorem RoomG.mono {j k : Nat} {A : Around} (r : RoomG k A) (h : j ≤ k) : RoomG j A := ⟨r.r.mono h, r.g⟩
structure FnG (P : Program) (w : World) (K : PySem.W.Frag) (mg : Str → Option Value) (base : Heap) (k : Nat) (f : Addr) (fd : FuncData) (ps : List Str) (sp : Sp) : Prop where
  len : ∀ vs H Q E, sp vs H Q E → vs.length = ps.length
  go : ∀ (A : Around) (outer : List Env) (s : Shared) (H : Hp) (args : Args) (us : List Value) (vs : List V) (Q : VK), RoomG k A → Env0 P w K mg base A outer s H →
    BindsTo s fd args (ps.zip us) → Vals vs us → sp vs H Q E0 → codeAny (model P w) A (.call (.ref f) args) (CR CX0 outer P w H s Q E0) s
/-- which values go to the parameters: by their places among the positional ones and then the keywords -/
def pick {α : Type} (is : List Nat) (xs : List α) : List α := is.filterMap fun i => xs[i]?
theorem pick_vals {vs : List V} {us : List Value} (r : Vals vs us) : ∀ is : List Nat, Vals (pick is vs) (pick is us)
  | [] => .nil
  | i :: is => by
    unfold pick
    rw [List.filterMap_cons, List.filterMap_cons]
    cases e : vs[i]? with
    | none => rw [r.none_of e]; exact pick_vals r is
    | some v =>
      obtain ⟨u, h1, h2⟩ := r.get e
      rw [h1]
      exact .cons h2 (pick_vals r is)
theorem pick_drs {K : PySem.W.Frag} {F : Hp} {vs : List V} {xs : List D} (r : DRs K F vs xs) : ∀ is : List Nat, DRs K F (pick is vs) (pick is xs)
  | [] => .nil
  | i :: is => by
    unfold pick
    rw [List.filterMap_cons, List.filterMap_cons]
    cases e : vs[i]? with
    | none =>
      have h : xs[i]? = none := by
        have h1 := r.length
        have h2 := List.getElem?_eq_none_iff.mp e
        exact List.getElem?_eq_none_iff.mpr (by omega)
      rw [h]; exact pick_drs r is
    | some v =>
      obtain ⟨u, h1, h2⟩ := r.getV e
      rw [h1]
      exact .cons h2 (pick_drs r is)
structure Bnd (K : PySem.W.Frag) (fd : FuncData) (ps : List Str) (n : Nat) (ks : List Str) (is : List Nat) : Prop where
  to : ∀ (s : Shared) (us ws : List Value), K.In s.heap → us.length = n → ws.length = ks.length → BindsTo s fd ⟨us, ks.zip ws⟩ (ps.zip (pick is (us ++ ws)))
abbrev FS := List D → MS → (D → MS → Prop) → Prop
def spD (K : PySem.W.Frag) (fs : FS) : Sp := fun vs H Q _ => ∃ F ds ms P, Rel K F H ms ∧ DRs K F vs ds ∧ fs ds ms P ∧
  ∀ d ms' v F' H', P d ms' → Rel K F' H' ms' → Stp F H ms F' H' ms' → DR K F' v d → Q v H'
section
variable {X : Cx} {k n : Nat} {f : Addr} {fd : FuncData} {ps ks : List Str} {is : List Nat} {sp : Sp} {fs : FS} {x : Str} {p pos kpos : Pos} {e : Expr} {es : List Expr} {kws : List Keyword} {aa ak : DA} {da : DE} {nm : Option Str}
theorem run_g {pins : List (Addr × Obj)} {σ : L2.St} {H : Hp} {s : Shared} {Q : VK} {us ws : List Value} {vs zs : List V} (F : FnG X.prog X.w X.K X.mg X.base k f fd ps sp) (hr : RoomG k X.A) (hb : Bnd X.K fd ps n ks is)
    (I : Inv X pins σ H s) (r : Vals vs us) (rz : Vals zs ws) (l1 : vs.length = n) (l2 : zs.length = ks.length) (h : sp (pick is (vs ++ zs)) H Q E0) :
    wpAny (model X.prog X.w) X.A (call (.ref f) us (ks.zip ws)) (EP X pins σ Q) X.xe s := by
  have hb' := hb.to s us ws I.kIn (r.length ▸ l1) (rz.length ▸ l2)
  have hg := F.go X.A X.stack s H ⟨us, ks.zip ws⟩ _ _ Q hr I.env0 hb' (pick_vals (r.append rz) is) h
  refine wpAny_call (codeAny_mono hg fun r s' hq => ?_)
  match r, hq with
  | .error _, hq => exact hq.elim
  | .ok (.ret u), hq => exact I.after hq
  | .ok .next, hq => exact False.elim hq
  | .ok .brk, hq => exact False.elim hq
  | .ok .cont, hq => exact False.elim hq
abbrev PDK (X : Cx) (kws : List Keyword) (aa : DA) : Prop := PK X kws (liftA X.K aa)
theorem pkImp {X : Cx} {e : List Keyword} {t t' : TA} (h : PK X e t) (hi : ∀ σ H Q, t' σ H Q → t σ H Q) : PK X e t' := ⟨fun pos pins s σ H Q I hq => h.run pos pins s σ H Q I (hi σ H Q hq)⟩
theorem pdk_nil : PDK X [] aNil := pkImp pk_nil fun σ H Q ⟨F, ds, ms, P, R, S, h1, h2⟩ => h2 [] ms [] F H h1 R Stp.refl .nil
theorem pdk_cons (ha : PD X e da) (hr : PDK X kws aa) : PDK X (⟨nm, e, kpos⟩ :: kws) (aCons da aa) :=
  pkImp (pk_cons ha hr) fun σ H Q ⟨F, ds, ms, P, R, S, h1, h2⟩ =>
    ⟨F, ds, ms, _, R, S, h1, fun dx m1 x F1 H1 p1 R1 s1 r1 => ⟨F1, ds, m1, _, R1, S.mono s1.sub, p1, fun xs m2 vs F2 H2 p2 R2 s2 r2 =>
      h2 _ m2 (x :: vs) F2 H2 p2 R2 (s1.trans s2) (.cons (r1.mono s2.sub) r2)⟩⟩
/-- f(..): n positional ones, the others by keywords -/
def dCall (n : Nat) (m : Nat) (is : List Nat) (fs : FS) (aa ak : DA) : DE := fun ds ms P => aa ds ms fun xs m1 => ak ds m1 fun zs m2 => xs.length = n ∧ zs.length = m ∧ fs (pick is (xs ++ zs)) m2 P
def tCallG (n m : Nat) (is : List Nat) (sp : Sp) (t tk : TA) : TE := fun σ H Q => t σ H fun vs H1 => tk σ H1 fun zs H2 => vs.length = n ∧ zs.length = m ∧ sp (pick is (vs ++ zs)) H2 Q E0
theorem lift_call {K : PySem.W.Frag} {m : Nat} : ∀ σ H Q, lift K (dCall n m is fs aa ak) σ H Q → tCallG n m is (spD K fs) (liftA K aa) (liftA K ak) σ H Q := fun σ H Q ⟨F, ds, ms, P, R, S, h1, h2⟩ =>
  ⟨F, ds, ms, _, R, S, h1, fun xs m1 vs F1 H1 p1 R1 s1 r1 => ⟨F1, ds, m1, _, R1, S.mono s1.sub, p1, fun zs m2 ws F2 H2 p2 R2 s2 r2 => by
    obtain ⟨l1, l2, p2⟩ := p2
    refine ⟨r1.length.trans l1, r2.length.trans l2, F2, _, m2, P, R2, pick_drs ((r1.mono s2.sub).append r2) is, p2, fun d m3 v F3 H3 p3 R3 s3 r3 => ?_⟩
    exact h2 d m3 v F3 H3 p3 R3 (s1.trans (s2.trans s3)) r3⟩⟩
theorem pd_call (F : FnG X.prog X.w X.K X.mg X.base k f fd ps (spD X.K fs)) (hr : RoomG k X.A) (hg : Gl X x) (hm : X.mg x = some (.ref f)) (hk : PySem.W.keepIn X.K (.ref f) = true) (hb : Bnd X.K fd ps n [] is)
    (ha : PDA X (e :: es) aa) (hdb : (x == ("__debug__" : Str)) = false := by decide)
    (he : starEach (e :: es) X.env = (false, eval e X.env) :: starEach es X.env := by rfl)
    (hpl : (backTo pos (starEach es X.env)).any (·.1) = false := by rfl) :
    PD X (.Call (.Name x p) (e :: es) [] pos) (dCall n 0 is fs aa aNil) := by
  refine peImp (t := tCallG n 0 is (spD X.K fs) (liftA X.K aa) (liftA X.K aNil)) ⟨fun pins s σ H Q I h => ?_⟩ lift_call
  have h' : liftA X.K aa σ H (fun vs H1 => vs.length = n ∧ spD X.K fs (pick is (vs ++ [])) H1 Q E0) := by
    obtain ⟨F0, ds, ms, P, R, S, h1, h2⟩ := h
    refine ⟨F0, ds, ms, P, R, S, h1, fun xs m v F1 H1 p1 R1 s1 r1 => ?_⟩
    obtain ⟨F2, ds2, m2, P2, R2, S2, p2, q2⟩ := h2 xs m v F1 H1 p1 R1 s1 r1
    obtain ⟨l1, l2, z⟩ := q2 [] m2 [] F2 H1 p2 R2 Stp.refl .nil
    exact ⟨l1, z⟩
  refine wpAny_Call_Name_kw (ld_glob I hg hm ?_ hdb)
  refine PySem.W.callWith_K (h₀ := X.base) I.ok.mod.kin hk (thn (ha.run pos pins s σ H _ I h') ?_) he hpl
  rintro us s1 ⟨vs, H1, I1, r, l, q⟩
  exact ⟨I1.kIn, run_g (ws := []) (ks := []) F hr hb I1 r .nil l rfl q⟩
end
def startD : Nat → List D → DS
  | 0, _ => []
  | n + 1, [] => none :: startD n []
  | n + 1, d :: r => some d :: startD n r
theorem sl_start {K : PySem.W.Frag} {F : Hp} {N : List Str} {vs : List V} {ds : List D} (r : DRs K F vs ds) (hl : vs.length ≤ N.length) : Sl K F (L2.start N vs) (startD N.length ds) := by
  unfold L2.start
  have hrep : ∀ m : Nat, Sl K F (List.replicate m none) (startD m []) := fun m => by
    induction m with
    | zero => exact .nil
    | succ m ih => exact .nn ih
  have go : ∀ {vs : List V} {ds : List D} (m : Nat), DRs K F vs ds → vs.length ≤ m → Sl K F (vs.map some ++ List.replicate (m - vs.length) none) (startD m ds) := by
    intro vs
    induction vs with
    | nil => intro ds m r _; cases r; exact hrep m
    | cons v vs ih =>
      intro ds m r hm
      cases r with
      | cons r1 r2 =>
        cases m with
        | zero => simp at hm
        | succ m =>
          have e : m + 1 - (v :: vs).length = m - vs.length := by rw [List.length_cons]; omega
          rw [e]
          exact .sm r1 (ih m r2 (by rw [List.length_cons] at hm; omega))
  exact go _ r hl
theorem fnG_of {P : Program} {w : World} {K : PySem.W.Frag} {mg : Str → Option Value} {base : Heap} {k : Nat} {f : Addr} {fd : FuncData} {x qual : Str} {st : Stmt} {N ps : List Str} {fs : FS} {t : DTS}
    (F : Fun K x qual st f fd) (S : FnScope N ps (defScope st)) (len : ∀ ds ms Q, fs ds ms Q → ds.length = ps.length)
    (body : ∀ (cdv : Value) (A : Around) (outer : List Env) (s : Shared) (H : Hp), RoomG k (A.deeper (envOfC qual (defScope st) s.heap.objs.size f cdv)) →
      PDSs (cxOf CX0 P w K mg base N qual (defScope st) f cdv A outer s H E0).nox (defBody st) t)
    (sem : ∀ ds ms Q, fs ds ms Q → t { nx := fun _ m => Q .non m, rt := Q } (startD N.length ds) ms) : FnG P w K mg base (k + 1) f fd ps (spD K fs) := by
  have hlen : ∀ vs H Q E, spD K fs vs H Q E → vs.length = ps.length := by
    rintro vs H Q E ⟨F0, ds, ms, P0, R, r, h, _⟩
    rw [r.length]
    exact len ds ms P0 h
  refine ⟨hlen, ?_⟩
  intro A outer s H args us vs Q hr e0 hb r hsp
  obtain ⟨oc, od, kV, doc, pm, an, cdv, ct, osl, rfl, lk, hcd⟩ := F.ex
  have hl := hlen _ _ _ _ hsp
  have KX : K.In s.heap := e0.mod.kin.keeps fun b o e => (e0.bs b o e).1
  have lim : s.heap.NoLimit := e0.mod.nolimit.keeps fun b o e => (e0.bs b o e).1
  have hkind : ∀ y ∈ ps.zip us, (defScope st).names.lookup y.1 = some .local ∨ ((defScope st).names.lookup y.1 = some .cell ∧
      ((cellsFrom (s.heap.objs.size + 1) (defScope st).names []).lookup y.1).isSome = true) := by
    rintro ⟨n, v⟩ hy
    exact (S.par n (List.of_mem_zip hy).1).imp id fun q => ⟨q, PySem.W.cellsFrom_some _ _ _ (.inl q)⟩
  have hr2 : RoomG k (A.deeper (envOfC qual (defScope st) s.heap.objs.size f cdv)) := ⟨hr.r.deeper _, hr.g⟩
  refine codeAny_call_function hr.r.depth (KX _ _ lk) rfl S.co S.gen rfl (PySem.W.codeRec_of KX hcd) (hb _ _ _ _ ?_)
  refine wpAny_newFunctionEnv_cells S.kind hkind fun env he s1 x1 => ?_
  subst he
  refine ⟨lim.keeps x1.toInCall.keep, codeAny_func ?_⟩
  have I : Inv (cxOf CX0 P w K mg base N qual (defScope st) f cdv A outer s H E0) [] (L2.start N vs) H s1 := inv_start S hr.r.hd e0 hl r x1
  have hq : liftS K t { nx := fun _ H' => Q .non H', rt := Q } (L2.start N vs) H := by
    obtain ⟨F0, ds, ms, P0, R, rd, h, q⟩ := hsp
    refine ⟨F0, startD N.length ds, ms, _, R, sl_start rd (by rw [hl, ← S.pre]; exact List.length_take_le' _ _), sem ds ms P0 h, ?_, ?_, ?_, ?_⟩
    · exact fun ds' ms' σ' F' H' z R' s' S' => q .non ms' .non F' H' z R' s' .non
    · exact fun d ms' v F' H' z R' s' r' => q d ms' v F' H' z R' s' r'
    · exact fun _ _ _ _ _ z _ _ _ => z.elim
    · exact fun _ _ _ _ _ z _ _ _ => z.elim
  have hrun := ((body cdv A outer s H hr2).nox).run [] s1 (L2.start N vs) H _ I hq
  refine wpAny_mono hrun (fun fl s' hs => ?_) fun e s' hs => hs
  match fl, hs with
  | .ret u, hs =>
    obtain ⟨v, σ', H', J, rv, q⟩ := hs
    exact ⟨v, H', J.os, J.bare, J.base, J.hok, rv, q⟩
  | .next, hs =>
    obtain ⟨σ', H', J, q⟩ := hs
    exact ⟨V.non, H', J.os, J.bare, J.base, J.hok, rfl, q⟩
  | .brk, hs => obtain ⟨_, _, _, q⟩ := hs; exact False.elim q
  | .cont, hs => obtain ⟨_, _, _, q⟩ := hs; exact False.elim q
end DL
namespace DL
open PySem PySem.Spec PyProof.Rows L2
abbrev DI := DS → MS → (List D → MS → Prop) → Prop
def YD (K : PySem.W.Frag) (F : Hp) (xs : List D) : Nat → Hp → V → Hp → Prop := fun i H x H' => ∃ d, xs[i]? = some d ∧
  ((H' = H ∧ DR K F x d) ∨ ∃ T a b da db, x = .ref T ∧ H T = none ∧ H' = upd H T (.tup [a, b]) ∧ d = .tup [da, db] ∧ DR K F a da ∧ DR K F b db)
abbrev ItD (K : PySem.W.Frag) (J : It) (xs : List D) (F : Hp) : Prop := Walk J xs.length (fun H => Sub F H) (YD K F xs)
def liftI (K : PySem.W.Frag) (di : DI) : TI := fun σ H R => ∃ F ds ms P, Rel K F H ms ∧ Sl K F σ ds ∧ di ds ms P ∧
  ∀ xs ms' F' H' J, P xs ms' → Rel K F' H' ms' → Stp F H ms F' H' ms' → ItD K J xs F' → R J H'
abbrev PDI (X : Cx) (tg e : Expr) (di : DI) : Prop := PI X tg e (liftI X.K di)
theorem piImp {X : Cx} {tg e : Expr} {t t' : TI} (h : PI X tg e t) (hi : ∀ σ H R, t' σ H R → t σ H R) : PI X tg e t' := ⟨fun pins s σ H R I hq => h.run pins s σ H R I (hi σ H R hq)⟩
theorem itd_list {K : PySem.W.Frag} {F : Hp} {a : Addr} {vs : List V} {xs : List D} (h : SqL K F a vs) (r : DRs K F vs xs) : ItD K (Itl K a) xs F := by
  unfold ItD
  rw [← r.length]
  refine (walk_list (K := K) (a := a) (xs := vs)).mono (fun H s => s.sqL h) fun i H x H' hi s y => ?_
  obtain ⟨d, h1, h2⟩ := r.getV y.2
  exact ⟨d, h1, .inl ⟨y.1, h2⟩⟩
/-- lo, lo + 1, .. -/
def rng (lo : Int) (n : Nat) : List D := (List.range n).map fun i => D.int (lo + (i : Nat))
theorem itd_range {K : PySem.W.Frag} {F : Hp} {lo : Int} {n : Nat} : ItD K (Itr lo n) (rng lo n) F := by
  unfold ItD
  have e : (rng lo n).length = n := by unfold rng; simp
  rw [e]
  refine (walk_range (lo := lo) (n := n)).mono (fun H s => trivial) fun i H x H' hi s y => ?_
  refine ⟨.int (lo + (i : Nat)), ?_, .inl ⟨y.1, by rw [y.2]; exact .int _⟩⟩
  unfold rng
  rw [List.getElem?_map, List.getElem?_range hi]; rfl
def rngC (lo c : Int) (n : Nat) : List D := (List.range n).map fun i => D.int (lo + (i : Nat) * c)
def zipD (xs ys : List D) : List D := List.zipWith (fun x y => D.tup [x, y]) xs ys
def enumD (xs : List D) : List D := List.zipWith (fun x y => D.tup [x, y]) (rng 0 xs.length) xs
theorem itd_enum {K : PySem.W.Frag} {F : Hp} {a : Addr} {vs : List V} {xs : List D} (h : SqL K F a vs) (r : DRs K F vs xs) : ItD K (Ite K a) (enumD xs) F := by
  unfold ItD
  have e : (enumD xs).length = vs.length := by unfold enumD rng; rw [List.length_zipWith, List.length_map, List.length_range, r.length]; simp
  rw [e]
  refine (walk_enum (K := K) (a := a) (xs := vs)).mono (fun H s => s.sqL h) fun i H x H' hi s y => ?_
  obtain ⟨T, u, w, e1, e2, e3, e4, e5⟩ := y
  obtain ⟨d, z1, z2⟩ := r.getV e5
  have e4' : u = .int (i : Nat) := (Option.some.inj e4).symm
  subst e4'
  refine ⟨.tup [.int (i : Nat), d], ?_, .inr ⟨T, _, w, _, d, e1, e2, e3, rfl, .int _, z2⟩⟩
  unfold enumD rng
  rw [r.length] at hi
  rw [List.getElem?_zipWith, z1, List.getElem?_map, List.getElem?_range hi]
  simp
def strD (z : Str) : List D := z.cps.toList.map fun c => D.str ⟨#[c]⟩
theorem itd_str {K : PySem.W.Frag} {F : Hp} {z : Str} : ItD K (Its z) (strD z) F := by
  unfold ItD
  have e : (strD z).length = z.cps.size := by unfold strD; simp
  rw [e]
  refine (walk_str (z := z)).mono (fun H s => trivial) fun i H x H' hi s y => ?_
  obtain ⟨e1, c, e2, e3⟩ := y
  refine ⟨.str ⟨#[c]⟩, ?_, .inl ⟨e1, by rw [e3]; exact .str _⟩⟩
  unfold strD
  rw [List.getElem?_map, Array.getElem?_toList, e2]; rfl
/-- the items of what is a list here: known, or one that may change -/
def look : MS → Addr → Option (List D)
  | [], _ => none
  | (q, xs) :: r, p => if q = p then (if nofld xs = true then some xs else none) else look r p
def asL (d : D) (ms : MS) : Option (List D) := match d with
  | .lst xs => some xs
  | .fro xs => some xs
  | .opq (.ref p) => look ms p
  | _ => none
theorem look_mem : ∀ {ms : MS} {p : Addr} {xs : List D}, look ms p = some xs → (p, xs) ∈ ms
  | [], _, _, h => by cases h
  | (q, ys) :: r, p, xs, h => by
    unfold look at h
    by_cases e : q = p
    · rw [if_pos e] at h
      split at h
      · cases h; subst e; exact List.mem_cons_self
      · cases h
    · rw [if_neg e] at h; exact List.mem_cons_of_mem _ (look_mem h)
theorem look_no : ∀ {ms : MS} {p : Addr} {xs : List D}, look ms p = some xs → nofld xs = true
  | [], _, _, h => by cases h
  | (q, ys) :: r, p, xs, h => by
    unfold look at h
    by_cases e : q = p
    · rw [if_pos e] at h
      split at h
      · rename_i hn; cases h; exact hn
      · cases h
    · rw [if_neg e] at h; exact look_no h
section
variable {K : PySem.W.Frag} {F H : Hp} {ms : MS}
theorem Rel.look (R : Rel K F H ms) {p : Addr} {xs : List D} (h : look ms p = some xs) : F p = none ∧ ∃ vs, H p = some (.lst vs) ∧ DRs K F vs xs := by
  obtain ⟨h1, vs, h2, h3⟩ := R.mu (p, xs) (look_mem h)
  rw [cell_no (look_no h)] at h2
  rw [body_no (look_no h)] at h3
  exact ⟨h1, vs, h2, h3⟩
theorem Rel.asL (R : Rel K F H ms) {v : V} {d : D} {xs : List D} (r : DR K F v d) (h : asL d ms = some xs) : ∃ a vs, v = .ref a ∧ SqL K H a vs ∧ DRs K F vs xs := by
  cases r with
  | lst h1 h2 => cases h; exact ⟨_, _, rfl, SqL.of (R.sub _ _ h1), h2⟩
  | fro h1 h2 => cases h; exact ⟨_, _, rfl, R.sub.sqL h1, h2⟩
  | opq v =>
    cases v with
    | ref p =>
      obtain ⟨_, vs, h1, h2⟩ := R.look h
      exact ⟨p, vs, rfl, SqL.of h1, h2⟩
    | _ => cases h
  | _ => cases h
end
section
variable {X : Cx} {tg e e2 : Expr} {da db : DE} {aa : DA} {p pos tpos : Pos} {elts : List Expr} {kk : Nat}
/-- a list, a tuple, a text that are known -/
def iSeq (de : DE) : DI := fun ds ms P => de ds ms fun d m => match d with
  | .lst xs => P xs m
  | .fro xs => P xs m
  | _ => False
def iTupD (de : DE) : DI := fun ds ms P => de ds ms fun d m => match d with
  | .tup xs => P xs m
  | _ => False
def iStrD (de : DE) : DI := fun ds ms P => de ds ms fun d m => match d with
  | .str z => P (strD z) m
  | _ => False
theorem pdi_list (h : PD X e da) : PDI X tg e (iSeq da) := piImp (pi_list h) fun σ H R ⟨F, ds, ms, P, Rl, S, h1, h2⟩ =>
  ⟨F, ds, ms, _, Rl, S, h1, fun d m v F1 H1 p1 R1 s1 r1 => by
    cases r1 with
    | lst ha hs => exact ⟨_, rfl, ⟨_, SqL.of (R1.sub _ _ ha)⟩, h2 _ m F1 H1 _ p1 R1 s1 (itd_list (SqL.of ha) hs)⟩
    | fro ha hs => exact ⟨_, rfl, ⟨_, R1.sub.sqL ha⟩, h2 _ m F1 H1 _ p1 R1 s1 (itd_list ha hs)⟩
    | _ => exact p1.elim⟩
theorem pdi_str (h : PD X e da) : PDI X tg e (iStrD da) := piImp (pi_str h) fun σ H R ⟨F, ds, ms, P, Rl, S, h1, h2⟩ =>
  ⟨F, ds, ms, _, Rl, S, h1, fun d m v F1 H1 p1 R1 s1 r1 => by
    cases r1 with
    | str z => exact ⟨z, rfl, h2 _ m F1 H1 _ p1 R1 s1 itd_str⟩
    | _ => exact p1.elim⟩
def iRange1 (aa : DA) : DI := fun ds ms P => aa ds ms fun xs m => match xs with
  | [.int j] => (-(2 ^ 62) ≤ j ∧ j < 2 ^ 62) ∧ P (rng 0 j.toNat) m
  | _ => False
def iRange2 (aa : DA) : DI := fun ds ms P => aa ds ms fun xs m => match xs with
  | [.int i, .int j] => (-(2 ^ 62) ≤ i ∧ i < 2 ^ 62 ∧ -(2 ^ 62) ≤ j ∧ j < 2 ^ 62) ∧ P (rng i (j - i).toNat) m
  | _ => False
def iRange3 (aa : DA) : DI := fun ds ms P => aa ds ms fun xs m => match xs with
  | [.int i, .int j, .int c] => ∃ n, RgC i j c n ∧ P (rngC i c n) m
  | _ => False
theorem pdi_range1 (hg : Gl X "range") (hm : X.mg "range" = none) (ha : PDA X [e] aa) (hs : starEach [e] X.env = [(false, eval e X.env)] := by rfl) : PDI X tg (.Call (.Name "range" p) [e] [] pos) (iRange1 aa) :=
  piImp (pi_range1 hg hm ha hs) fun σ H R ⟨F, ds, ms, P, Rl, S, h1, h2⟩ =>
    ⟨F, ds, ms, _, Rl, S, h1, fun xs m vs F1 H1 p1 R1 s1 r1 => by
      match xs, r1, p1 with
      | [.int j], .cons (.int _) .nil, p1 => exact ⟨j, rfl, p1.1.1, p1.1.2, h2 _ m F1 H1 _ p1.2 R1 s1 itd_range⟩⟩
theorem pdi_range2 (hg : Gl X "range") (hm : X.mg "range" = none) (ha : PDA X [e, e2] aa) (hs : starEach [e, e2] X.env = [(false, eval e X.env), (false, eval e2 X.env)] := by rfl) (hs2 : starEach [e2] X.env = [(false, eval e2 X.env)] := by rfl) :
    PDI X tg (.Call (.Name "range" p) [e, e2] [] pos) (iRange2 aa) :=
  piImp (pi_range2 hg hm ha hs hs2) fun σ H R ⟨F, ds, ms, P, Rl, S, h1, h2⟩ =>
    ⟨F, ds, ms, _, Rl, S, h1, fun xs m vs F1 H1 p1 R1 s1 r1 => by
      match xs, r1, p1 with
      | [.int i, .int j], .cons (.int _) (.cons (.int _) .nil), p1 => exact ⟨i, j, rfl, p1.1, h2 _ m F1 H1 _ p1.2 R1 s1 itd_range⟩⟩
def iZipD (aa : DA) : DI := fun ds ms P => aa ds ms fun xs m => match xs with
  | [.lst a, .lst b] => P (zipD a b) m
  | _ => False
def iEnumD (aa : DA) : DI := fun ds ms P => aa ds ms fun xs m => match xs with
  | [.lst a] => P (enumD a) m
  | _ => False
theorem pdi_enum (hg : Gl X "enumerate") (hm : X.mg "enumerate" = none) (ha : PDA X [e] aa) (hs : starEach [e] X.env = [(false, eval e X.env)] := by rfl) :
    PDI X (.Tuple elts kk tpos) (.Call (.Name "enumerate" p) [e] [] pos) (iEnumD aa) :=
  piImp (pi_enum hg hm ha hs) fun σ H R ⟨F, ds, ms, P, Rl, S, h1, h2⟩ =>
    ⟨F, ds, ms, _, Rl, S, h1, fun xs m vs F1 H1 p1 R1 s1 r1 => by
      match xs, r1, p1 with
      | [.lst a], .cons (.lst ha hs) .nil, p1 => exact ⟨_, _, rfl, SqL.of (R1.sub _ _ ha), h2 _ m F1 H1 _ p1 R1 s1 (itd_enum (SqL.of ha) hs)⟩⟩
end
def loopD (g : DG) (tb : DTS) (E : EN) : List D → DS → MS → Prop
  | [], ds, ms => E.nx ds ms
  | x :: r, ds, ms => g x ds fun ds1 => tb { E with nx := loopD g tb E r, ct := loopD g tb E r, bk := E.nx } ds1 ms
def dFor (di : DI) (g : DG) (tb : DTS) : DTS := fun E ds ms => di ds ms fun xs m => loopD g tb E xs ds m
section
variable {K : PySem.W.Frag} {di : DI} {dg : DG} {tb : DTS} {g : TG} {vs : List Nat}
theorem drop_get {xs : List D} {i : Nat} {d : D} (h : xs[i]? = some d) : xs.drop i = d :: xs.drop (i + 1) := by
  obtain ⟨hi, e⟩ := List.getElem?_eq_some_iff.mp h
  rw [List.drop_eq_getElem_cons hi, e]
theorem lift_for (hg : TgD K g dg vs) : ∀ D σ H, liftS K (dFor di dg tb) D σ H → tFor (liftI K di) g (liftS K tb) D σ H := fun D σ H ⟨F, ds, ms, E, R, S, h, n, r, k, q⟩ => by
  refine ⟨F, ds, ms, _, R, S, h, fun xs m F0 H0 J p0 R0 s0 wk => ?_⟩
  refine for_it wk (fun i σ1 H1 => ∃ F1 ds1 m1, Rel K F1 H1 m1 ∧ Stp F H ms F1 H1 m1 ∧ Sub F0 F1 ∧ Sl K F1 σ1 ds1 ∧ loopD dg tb E (xs.drop i) ds1 m1)
    ⟨F0, ds, m, R0, s0, Sub.refl F0, S.mono s0.sub, p0⟩ (fun i σ1 H1 _ ⟨F1, ds1, m1, R1, s1, s01, S1, h1⟩ => s01.trans R1.sub) ?_ ?_
  · rintro i x σ1 H1 H2 hi ⟨F1, ds1, m1, R1, s1, s01, S1, h1⟩ ⟨d, hd, hy⟩
    rw [drop_get hd] at h1
    have fin : ∀ {F2 : Hp} {x : V}, Rel K F2 H2 m1 → Stp F H ms F2 H2 m1 → Sub F1 F2 → DR K F2 x d →
        g x σ1 H2 fun σ2 H3 => liftS K tb { D with nx := fun σ1 H1 => ∃ F1 ds1 m1, Rel K F1 H1 m1 ∧ Stp F H ms F1 H1 m1 ∧ Sub F0 F1 ∧ Sl K F1 σ1 ds1 ∧ loopD dg tb E (xs.drop (i + 1)) ds1 m1, ct := fun σ1 H1 => ∃ F1 ds1 m1, Rel K F1 H1 m1 ∧ Stp F H ms F1 H1 m1 ∧ Sub F0 F1 ∧ Sl K F1 σ1 ds1 ∧ loopD dg tb E (xs.drop (i + 1)) ds1 m1, bk := D.nx } σ2 H3 := by
      intro F2 x R2 s2 s12 rx
      refine hg.snd x σ1 F2 H2 _ d ds1 _ R2.sub (S1.mono s12) rx h1 fun ds2 σ2 h2 S2 => ?_
      refine ⟨F2, ds2, m1, _, R2, S2, h2, ?_, ?_, ?_, ?_⟩
      · exact fun ds3 m3 σ3 F3 H3 h3 R3 s3 S3 => ⟨F3, ds3, m3, R3, s2.trans s3, (s01.trans s12).trans s3.sub, S3, h3⟩
      · exact fun d3 m3 v3 F3 H3 h3 R3 s3 r3 => r d3 m3 v3 F3 H3 h3 R3 (s2.trans s3) r3
      · exact fun ds3 m3 σ3 F3 H3 h3 R3 s3 S3 => n ds3 m3 σ3 F3 H3 h3 R3 (s2.trans s3) S3
      · exact fun ds3 m3 σ3 F3 H3 h3 R3 s3 S3 => ⟨F3, ds3, m3, R3, s2.trans s3, (s01.trans s12).trans s3.sub, S3, h3⟩
    rcases hy with ⟨rfl, rx⟩ | ⟨T, a, b, da, db, rfl, hT, rfl, rfl, ra, rb⟩
    · exact fin R1 s1 (Sub.refl F1) (rx.mono s01)
    · exact fin (R1.new hT) (s1.trans (Stp.new R1 hT)) (Sub.new (R1.sub.none hT)) (R1.newTup hT (.cons (ra.mono s01) (.cons (rb.mono s01) .nil)))
  · rintro σ1 H1 ⟨F1, ds1, m1, R1, s1, s01, S1, h1⟩
    rw [List.drop_length] at h1
    exact n ds1 m1 σ1 F1 H1 h1 R1 s1 S1
theorem pds_for {X : Cx} {tg iter : Expr} {body : List Stmt} {pos : Pos} (hc : X.calm = true) (hi : PDI X tg iter di) (hg : PG X tg g) (hd : TgD X.K g dg vs) (hb : PDSs X body tb) (hp : PassesOwn (model X.prog X.w) X.A X.env X.xe := by exact PassesOwn.never)
    (hs : ∀ x, foldedSetIterable iter X.env x = pure x := by intro _; rfl) : PDS X (.For tg iter body [] pos) (dFor di dg tb) := psImp (ps_for hp hc hi hg hb hs) (lift_for hd)
end
def whileD (c : DT) (tb : DTS) (E : EN) : Nat → DS → MS → Prop
  | 0, _, _ => False
  | n + 1, ds, ms => c ds ms fun b m => if b = true then tb { E with nx := whileD c tb E n, ct := whileD c tb E n, bk := E.nx } ds m else E.nx ds m
def dWhile (c : DT) (tb : DTS) : DTS := fun E ds ms => ∃ n, whileD c tb E n ds ms
section
variable {K : PySem.W.Frag} {c : DT} {tb : DTS}
theorem lift_while : ∀ D σ H, liftS K (dWhile c tb) D σ H → tWhile (liftT K c) (liftS K tb) D σ H := fun D σ H ⟨F, ds, ms, E, R, S, ⟨n0, h⟩, n, r, k, q⟩ => by
  refine ⟨fun m σ1 H1 => ∃ F1 ds1 m1, Rel K F1 H1 m1 ∧ Stp F H ms F1 H1 m1 ∧ Sl K F1 σ1 ds1 ∧ whileD c tb E m ds1 m1, ⟨n0, F, ds, ms, R, Stp.refl, S, h⟩, ?_⟩
  rintro m σ1 H1 ⟨F1, ds1, m1, R1, s1, S1, h1⟩
  cases m with
  | zero => exact h1.elim
  | succ m =>
    refine ⟨F1, ds1, m1, _, R1, S1, h1, fun b m2 F2 H2 p2 R2 s2 => ?_⟩
    cases b with
    | false =>
      rw [if_neg Bool.false_ne_true] at p2
      exact iteF (n ds1 m2 σ1 F2 H2 p2 R2 (s1.trans s2) (S1.mono s2.sub))
    | true =>
      rw [if_pos rfl] at p2
      refine iteT ⟨fun σ3 H3 => ∃ F3 ds3 m3, Rel K F3 H3 m3 ∧ Stp F H ms F3 H3 m3 ∧ Sl K F3 σ3 ds3 ∧ whileD c tb E m ds3 m3, fun σ3 H3 h3 => ⟨m, Nat.lt_succ_self m, h3⟩, F2, ds1, m2, _, R2, S1.mono s2.sub, p2, ?_, ?_, ?_, ?_⟩
      · exact fun ds3 m3 σ3 F3 H3 h3 R3 s3 S3 => ⟨F3, ds3, m3, R3, (s1.trans s2).trans s3, S3, h3⟩
      · exact fun d3 m3 v3 F3 H3 h3 R3 s3 r3 => r d3 m3 v3 F3 H3 h3 R3 ((s1.trans s2).trans s3) r3
      · exact fun ds3 m3 σ3 F3 H3 h3 R3 s3 S3 => n ds3 m3 σ3 F3 H3 h3 R3 ((s1.trans s2).trans s3) S3
      · exact fun ds3 m3 σ3 F3 H3 h3 R3 s3 S3 => ⟨F3, ds3, m3, R3, (s1.trans s2).trans s3, S3, h3⟩
theorem pds_while {X : Cx} {e : Expr} {body : List Stmt} {pos : Pos} (hc : PDT X e c) (hb : PDSs X body tb) (hp : PassesOwn (model X.prog X.w) X.A X.env X.xe := by exact PassesOwn.never) : PDS X (.While e body [] pos) (dWhile c tb) :=
  psImp (ps_while hp hc hb) lift_while
end
def wipeD (ds : DS) : List Nat → DS
  | [] => ds
  | v :: vs => (wipeD ds vs).set v none
theorem Sl.wipe1 {K : PySem.W.Frag} {F : Hp} : ∀ {σ : L2.St} {ds : DS} (i : Nat), Sl K F σ ds → Sl K F (σ.set i none) (ds.set i none)
  | _, _, i, .nil => by cases i <;> exact .nil
  | _, _, 0, .sm _ r => .nn r
  | _, _, 0, .nn r => .nn r
  | _, _, i + 1, .sm q r => .sm q (Sl.wipe1 i r)
  | _, _, i + 1, .nn r => .nn (Sl.wipe1 i r)
theorem Sl.wipe {K : PySem.W.Frag} {F : Hp} {σ : L2.St} {ds : DS} (S : Sl K F σ ds) : ∀ vs : List Nat, Sl K F (L2.wipe σ vs) (wipeD ds vs)
  | [] => S
  | v :: vs => Sl.wipe1 v (Sl.wipe S vs)
theorem wipe_wipe {σ : L2.St} {ws : List Nat} : ∀ {us : List Nat}, (∀ u ∈ us, u ∈ ws) → L2.wipe (L2.wipe σ us) ws = L2.wipe σ ws
  | [], _ => rfl
  | u :: us, h => by
    show L2.wipe ((L2.wipe σ us).set u none) ws = L2.wipe σ ws
    rw [wipe_set (h u List.mem_cons_self), wipe_wipe fun v hv => h v (List.mem_cons_of_mem _ hv)]
theorem Stp.kp {F H F1 H1 : Hp} {ms m1 : MS} (a : Stp F H ms F1 H1 m1) {c : Addr} {o : HO} (h1 : H c = some o) (h2 : F c = none) (h3 : ∀ p ∈ ms, p.1 ≠ c) : H1 c = some o ∧ F1 c = none ∧ ∀ p ∈ m1, p.1 ≠ c := by
  refine ⟨a.keep c o h1 h2 h3, ?_, fun p hp e => ?_⟩
  · cases e : F1 c with
    | none => rfl
    | some u =>
      rcases a.newF c u e with z | z | ⟨p, hp, z⟩
      · rw [h2] at z; cases z
      · rw [h1] at z; cases z
      · exact absurd z (h3 p hp)
  · rcases a.newM p hp with ⟨q, hq, z⟩ | z | ⟨u, z⟩
    · exact h3 q hq (z.trans e)
    · rw [e, h1] at z; cases z
    · rw [e, h2] at z; cases z
def compD (g : DG) (tt : DT) (te : DE) (ds : DS) : List D → List D → MS → (List D → MS → Prop) → Prop
  | [], acc, ms, P => P acc ms
  | x :: r, acc, ms, P => g x ds fun ds2 => tt ds2 ms fun b m3 => if b = true then te ds2 m3 fun y m4 => acc.length < sizeLine ∧ compD g tt te ds r (acc ++ [y]) m4 P else compD g tt te ds r acc m3 P
def dLc (di : DI) (g : DG) (tt : DT) (te : DE) (vs : List Nat) : DE := fun ds ms P => di ds ms fun xs m => compD g tt te (wipeD ds vs) xs [] m fun ys m' => P (.lst ys) m'
/-- without a test -/
def dYes : DT := fun _ ms P => P true ms
section
variable {K : PySem.W.Frag} {di : DI} {dg : DG} {tt : DT} {te : DE} {g : TG} {vs : List Nat}
theorem lift_lc (hg : TgD K g dg vs) (hm : MonG g) : ∀ σ H Q, lift K (dLc di dg tt te vs) σ H Q → tLc (liftI K di) g (liftT K tt) (lift K te) vs σ H Q := fun σ H Q ⟨F, ds, ms, P, R, S, h, q⟩ => by
  refine ⟨F, ds, ms, _, R, S, h, fun xs m F0 H0 J p0 R0 s0 wk L hL => ?_⟩
  have nL : F0 L = none := R0.sub.none hL
  have nM : ∀ p ∈ m, p.1 ≠ L := fun p hp => by
    obtain ⟨_, ws, h2, _⟩ := R0.mu p hp
    exact ne_of_none h2 hL
  refine lc_it wk (fun i H1 => ∃ F1 m1 acc av, Rel K F1 H1 m1 ∧ Stp F0 H0 m F1 H1 m1 ∧ H1 L = some (.lst av) ∧ F1 L = none ∧ (∀ p ∈ m1, p.1 ≠ L) ∧ DRs K F1 av acc ∧ compD dg tt te (wipeD ds vs) (xs.drop i) acc m1 fun ys m' => P (.lst ys) m')
    ⟨F0, m, [], [], R0.lay hL, ⟨Sub.refl F0, fun a u h1 _ _ => by rw [upd_ne (ne_of_none h1 hL)]; exact h1, fun _ _ h => .inl h, fun q hq => .inl ⟨q, hq, rfl⟩⟩, upd_same, nL, nM, .nil, p0⟩
    (fun i H1 _ ⟨F1, m1, acc, av, R1, s1, _⟩ => s1.sub.trans R1.sub) ?_ ?_
  · rintro i x H1 H2 hi ⟨F1, m1, acc, av, R1, s1, hD, hF, hM, ra, h1⟩ ⟨d, hd, hy⟩
    rw [drop_get hd] at h1
    have fin : ∀ {F2 : Hp} {x : V}, Rel K F2 H2 m1 → Stp F0 H0 m F2 H2 m1 → Sub F1 F2 → DR K F2 x d → H2 L = some (.lst av) → F2 L = none →
        g x (L2.wipe σ vs) H2 fun σ2 H3 => L2.wipe σ2 vs = L2.wipe σ vs ∧ liftT K tt σ2 H3 fun b H4 => if b = true then lift K te σ2 H4 fun y H5 => ∃ acc, H5 L = some (.lst acc) ∧ acc.length < sizeLine ∧
          (∃ F1 m1 acc' av, Rel K F1 (upd H5 L (.lst (acc ++ [y]))) m1 ∧ Stp F0 H0 m F1 (upd H5 L (.lst (acc ++ [y]))) m1 ∧ (upd H5 L (.lst (acc ++ [y]))) L = some (.lst av) ∧ F1 L = none ∧ (∀ p ∈ m1, p.1 ≠ L) ∧ DRs K F1 av acc' ∧ compD dg tt te (wipeD ds vs) (xs.drop (i + 1)) acc' m1 fun ys m' => P (.lst ys) m')
          else ∃ F1 m1 acc av, Rel K F1 H4 m1 ∧ Stp F0 H0 m F1 H4 m1 ∧ H4 L = some (.lst av) ∧ F1 L = none ∧ (∀ p ∈ m1, p.1 ≠ L) ∧ DRs K F1 av acc ∧ compD dg tt te (wipeD ds vs) (xs.drop (i + 1)) acc m1 fun ys m' => P (.lst ys) m' := by
      intro F2 x R2 s2 s12 rx hD2 hF2
      have hw := hg.wip x (L2.wipe σ vs) H2 _ (hg.snd x (L2.wipe σ vs) F2 H2 (fun σ2 H3 => H3 = H2 ∧ ∃ ds2, Sl K F2 σ2 ds2 ∧ tt ds2 m1 fun b m3 => if b = true then te ds2 m3 fun y m4 => acc.length < sizeLine ∧ compD dg tt te (wipeD ds vs) (xs.drop (i + 1)) (acc ++ [y]) m4 fun ys m' => P (.lst ys) m' else compD dg tt te (wipeD ds vs) (xs.drop (i + 1)) acc m3 fun ys m' => P (.lst ys) m') d (wipeD ds vs) _ R2.sub ((S.wipe vs).mono (s0.sub.trans s2.sub)) rx h1 fun ds2 σ2 h2 S2 => ⟨rfl, ds2, S2, h2⟩)
      refine hm _ _ _ _ _ ?_ hw
      rintro σ2 H3 ⟨e1, rfl, ds2, S2, h2⟩
      refine ⟨e1.trans (wipe_wipe fun u hu => hu), F2, ds2, m1, _, R2, S2, h2, fun b m4 F4 H4 p4 R4 s4 => ?_⟩
      obtain ⟨hD4, hF4, hM4⟩ := s4.kp hD2 hF2 hM
      cases b with
      | false =>
        rw [if_neg Bool.false_ne_true] at p4 ⊢
        exact ⟨F4, m4, acc, av, R4, s2.trans s4, hD4, hF4, hM4, (ra.mono s12).mono s4.sub, p4⟩
      | true =>
        rw [if_pos rfl] at p4 ⊢
        refine ⟨F4, ds2, m4, _, R4, S2.mono s4.sub, p4, fun y m5 v5 F5 H5 p5 R5 s5 r5 => ?_⟩
        obtain ⟨hD5, hF5, hM5⟩ := s5.kp hD4 hF4 hM4
        have ra5 := ((ra.mono s12).mono s4.sub).mono s5.sub
        have s05 := (s2.trans s4).trans s5
        refine ⟨av, hD5, by rw [ra.length]; exact p5.1, F5, m5, acc ++ [y], av ++ [v5], ?_, ?_, upd_same, hF5, hM5, ra5.append (.cons r5 .nil), p5.2⟩
        · refine ⟨fun b u e => ?_, fun p hp => ?_, R5.nd, R5.one⟩
          · rw [upd_ne (fun z => by rw [z, hF5] at e; cases e)]; exact R5.sub b u e
          · obtain ⟨z1, ws, z2, z3⟩ := R5.mu p hp
            exact ⟨z1, ws, by rw [upd_ne (hM5 p hp)]; exact z2, z3⟩
        · exact ⟨s05.sub, fun a u z1 z2 z3 => by rw [upd_ne (ne_of_none z1 hL)]; exact s05.keep a u z1 z2 z3, s05.newF, s05.newM⟩
    rcases hy with ⟨rfl, rx⟩ | ⟨T, a, b, da, db, rfl, hT, rfl, rfl, ra', rb'⟩
    · exact fin R1 s1 (Sub.refl F1) (rx.mono s1.sub) hD hF
    · have hne : L ≠ T := ne_of_none hD hT
      exact fin (R1.new hT) (s1.trans (Stp.new R1 hT)) (Sub.new (R1.sub.none hT)) (R1.newTup hT (.cons (ra'.mono s1.sub) (.cons (rb'.mono s1.sub) .nil))) (by rw [upd_ne hne]; exact hD) (by rw [upd_ne hne]; exact hF)
  · rintro H1 ⟨F1, m1, acc, av, R1, s1, hD, hF, hM, ra, h1⟩
    rw [List.drop_length] at h1
    have sF : Sub F1 (upd F1 L (.lst av)) := Sub.new hF
    refine q _ m1 _ (upd F1 L (.lst av)) H1 h1 ?_ (s0.trans ?_) (.lst upd_same (ra.mono sF))
    · refine ⟨fun b u e => ?_, fun p hp => ?_, R1.nd, R1.one.mono sF⟩
      · by_cases hb : b = L
        · subst hb; rw [upd_same] at e; rw [hD]; exact e
        · rw [upd_ne hb] at e; exact R1.sub b u e
      · obtain ⟨z1, ws, z2, z3⟩ := R1.mu p hp
        exact ⟨by rw [upd_ne (hM p hp)]; exact z1, ws, z2, z3.mono sF⟩
    · refine ⟨s1.sub.trans sF, s1.keep, fun a u e => ?_, s1.newM⟩
      by_cases hb : a = L
      · subst hb; exact .inr (.inl hL)
      · rw [upd_ne hb] at e; exact s1.newF a u e
end
end DL
namespace DL
open PySem PySem.Spec PyProof.Rows L2
abbrev PDTs (X : Cx) (es : List Expr) (t : DT) : Prop := PTs X es (liftT X.K t)
theorem pdts_nil {X : Cx} : PDTs X [] dYes := ⟨fun pins s σ H Q I ⟨F, ds, ms, P, R, S, h1, h2⟩ => pts_nil.run pins s σ H Q I (h2 true ms F H h1 R Stp.refl)⟩
section
variable {X : Cx} {elt tg iter : Expr} {ifs : List Expr} {scope : Scope} {own : List (Str × Nat)} {pos spos py : Pos} {di : DI} {g : TG} {dg : DG} {tt : DT} {te : DE} {i : Nat} {y : Str}
theorem pd_lc (hc : X.calm = true) (hN : X.N.Nodup) (hi : PDI X tg iter di) (ok : BlkOk X.N X.env.scope scope own)
    (hg : ∀ (s : Shared) (H : Hp) (C : Addr) (cl : List (Str × Addr)) (fp : List Addr), PG (X.blk s H scope (compEnvC scope cl C X.env) fp) tg g)
    (hd : TgD X.K g dg (own.map (·.2))) (hm : MonG g)
    (ht : ∀ (s : Shared) (H : Hp) (C : Addr) (cl : List (Str × Addr)) (fp : List Addr), PDTs (X.blk s H scope (compEnvC scope cl C X.env) fp) ifs tt)
    (he : ∀ (s : Shared) (H : Hp) (C : Addr) (cl : List (Str × Addr)) (fp : List Addr), PD (X.blk s H scope (compEnvC scope cl C X.env) fp) elt te)
    (hs : ∀ x, foldedSetIterable iter X.env x = pure x := by intro _; rfl) :
    PD X (.ListComp elt [⟨tg, iter, ifs, 0⟩] scope pos) (dLc di dg tt te (own.map (·.2))) :=
  peImp (pe_lc hc hN hi ok hg ht he hs) (lift_lc hd hm)
theorem pds_setLc (hc : X.calm = true) (hN : X.N.Nodup) (hy : X.N[i]? = some y) (hyl : X.env.scope.names.lookup y = some .local)
    (hsw : swapsWith (.ListComp elt [⟨tg, iter, ifs, 0⟩] scope pos) (some (.Name y py)) spos.line X.env = pure true) (hi : PDI X tg iter di) (ok : BlkOk X.N X.env.scope scope own)
    (hg : ∀ (s : Shared) (H : Hp) (C : Addr) (cl : List (Str × Addr)) (fp : List Addr), PG (X.blk s H scope (compEnvC scope cl C X.env) fp) tg g)
    (hd : TgD X.K g dg (own.map (·.2))) (hm : MonG g)
    (ht : ∀ (s : Shared) (H : Hp) (C : Addr) (cl : List (Str × Addr)) (fp : List Addr), PDTs (X.blk s H scope (compEnvC scope cl C X.env) fp) ifs tt)
    (he : ∀ (s : Shared) (H : Hp) (C : Addr) (cl : List (Str × Addr)) (fp : List Addr), PD (X.blk s H scope (compEnvC scope cl C X.env) fp) elt te)
    (hs : ∀ x, foldedSetIterable iter X.env x = pure x := by intro _; rfl) :
    PDS X (.Assign [.Name y py] (.ListComp elt [⟨tg, iter, ifs, 0⟩] scope pos) spos) (dAsg (dLc di dg tt te (own.map (·.2))) (sName i)) :=
  psImp (ps_setLc hc hN hy hyl hsw hi ok hg ht he hs) fun D σ H h => by
    obtain ⟨F, ds, ms, P, R, S, z1, z2⟩ := h
    exact lift_lc hd hm σ H _ ⟨F, ds, ms, _, R, S, z1, fun d m v F1 H1 p1 R1 s1 r1 => z2.1 _ m _ F1 H1 p1 R1 s1 ((S.mono s1.sub).set r1 i)⟩
end
def fAdd : OF := fun x y ms P => match x, y with
  | .int i, .int j => P (.int (i + j)) ms
  | .str i, .str j => i.length + j.length ≤ sizeLine ∧ P (.str (i ++ j)) ms
  | .lst a, .lst b => a.length + b.length ≤ sizeLine ∧ P (.lst (a ++ b)) ms
  | .opq (.ref p), .lst b => match look ms p with
    | some a => a.length + b.length ≤ sizeLine ∧ P (.lst (a ++ b)) ms
    | none => False
  | .tup a, .tup b => a.length + b.length ≤ sizeLine ∧ P (.tup (a ++ b)) ms
  | _, _ => False
def rAddD (K : PySem.W.Frag) : R2 := fun x y H Q => (∃ i j, x = .int i ∧ y = .int j ∧ Q (.int (i + j)) H) ∨ (∃ i j, x = .str i ∧ y = .str j ∧ i.length + j.length ≤ sizeLine ∧ Q (.str (i ++ j)) H) ∨ rCat x y H Q ∨ rCatA K x y H Q
theorem op_addD {X : Cx} : OpR X (binaryOp .Add) (rAddD X.K) := op_add.or (op_add_str.or (op_cat.or op_catA))
theorem DRs.nil_iff {K : PySem.W.Frag} {F : Hp} {vs : List V} {xs : List D} (r : DRs K F vs xs) : vs = [] ↔ xs = [] := by cases r <;> simp
theorem opd_add {K : PySem.W.Frag} : OpD K (rAddD K) fAdd := by
  intro F H ms x y dx dy P Q R rx ry h q
  have cat : ∀ {a b : Addr} {vs ws : List V} {xs ys : List D}, H a = some (.lst vs) → H b = some (.lst ws) → DRs K F vs xs → DRs K F ws ys → xs.length + ys.length ≤ sizeLine → P (.lst (xs ++ ys)) ms → rCat (.ref a) (.ref b) H Q := by
    intro a b vs ws xs ys h1 h2 r1 r2 hz hp
    refine ⟨a, b, vs, ws, rfl, rfl, h1, h2, by rw [r1.length, r2.length]; exact hz, fun p hp2 => ?_⟩
    exact q _ ms _ _ _ hp (R.new hp2) (Stp.new R hp2) (R.newLst hp2 (r1.append r2))
  cases rx with
  | int i => cases ry with
    | int j => exact .inl ⟨i, j, rfl, rfl, q _ ms _ F H h R Stp.refl (.int _)⟩
    | _ => exact h.elim
  | str i => cases ry with
    | str j => exact .inr (.inl ⟨i, j, rfl, rfl, h.1, q _ ms _ F H h.2 R Stp.refl (.str _)⟩)
    | _ => exact h.elim
  | lst h1 r1 => cases ry with
    | lst h2 r2 => exact .inr (.inr (.inl (cat (R.sub _ _ h1) (R.sub _ _ h2) r1 r2 h.1 h.2)))
    | _ => exact h.elim
  | tup h1 r1 => cases ry with
    | tup h2 r2 =>
      obtain ⟨z3, z4⟩ := h
      refine .inr (.inr (.inr ⟨_, _, _, _, rfl, rfl, R.sub.sqT h1, R.sub.sqT h2, by rw [r1.length, r2.length]; exact z3, fun e => ?_, fun _ e => ?_, fun _ _ p hp2 => ?_⟩))
      · cases r1.nil_iff.mp e
        exact q _ ms _ F H z4 R Stp.refl (.tup h2 r2)
      · cases r2.nil_iff.mp e
        rw [List.append_nil] at z4
        exact q _ ms _ F H z4 R Stp.refl (.tup h1 r1)
      · exact q _ ms _ _ _ z4 (R.new hp2) (Stp.new R hp2) (R.newTup hp2 (r1.append r2))
    | _ => exact h.elim
  | opq _ => cases x with
    | ref p => cases ry with
      | lst h2 r2 =>
        unfold fAdd at h
        cases e : look ms p with
        | none => simp only [e] at h
        | some a =>
          simp only [e] at h
          obtain ⟨_, vs, h1, r1⟩ := R.look e
          exact .inr (.inr (.inl (cat h1 (R.sub _ _ h2) r1 r2 h.1 h.2)))
      | _ => exact h.elim
    | _ => exact h.elim
  | _ => exact h.elim
def fSub : OF := fun x y ms P => fI (fun _ _ => True) (fun i j => .int (i - j)) x y ms P
theorem opd_sub {K : PySem.W.Frag} : OpD K (rI0 fun i j => .int (i - j)) fSub := opd_I0 fun _ _ _ => .int _
/-- * of ints, together below a million bits, or one of them below 2 ^ 64 -/
def CMulD (i j : Int) : Prop := CMulW i j ∨ CMul i j
theorem op_mulD {X : Cx} : OpR X (binaryOp .Mult) (rI CMulD fun i j => .int (i * j)) := opI fun _ _ _ _ _ _ _ hc q => mul_int q (hc.elim (·.ok) (·.ok))
def fMul : OF := fun x y ms P => match x, y with
  | .int i, .int j => CMulD i j ∧ P (.int (i * j)) ms
  | .lst a, .int k => (-(2 ^ 63) ≤ k ∧ k < 2 ^ 63 ∧ a.length * k.toNat ≤ sizeLine) ∧ P (.lst (List.replicate k.toNat a).flatten) ms
  | _, _ => False
def rMulD : R2 := fun x y H Q => rI CMulD (fun i j => .int (i * j)) x y H Q ∨ rRep x y H Q
theorem op_mulA {X : Cx} : OpR X (binaryOp .Mult) rMulD := op_mulD.or op_rep
theorem DRs.rep {K : PySem.W.Frag} {F : Hp} {vs : List V} {xs : List D} (r : DRs K F vs xs) : ∀ n : Nat, DRs K F (List.replicate n vs).flatten (List.replicate n xs).flatten
  | 0 => .nil
  | n + 1 => by rw [List.replicate_succ, List.replicate_succ, List.flatten_cons, List.flatten_cons]; exact r.append (DRs.rep r n)
theorem opd_mul {K : PySem.W.Frag} : OpD K rMulD fMul := by
  intro F H ms x y dx dy P Q R rx ry h q
  cases rx with
  | int i => cases ry with
    | int j => exact .inl ⟨i, j, rfl, rfl, h.1, q _ ms _ F H h.2 R Stp.refl (.int _)⟩
    | _ => exact h.elim
  | lst h1 r1 => cases ry with
    | int k =>
      obtain ⟨⟨z1, z2, z3⟩, z4⟩ := h
      refine .inr ⟨_, k, _, rfl, rfl, R.sub _ _ h1, z1, z2, by rw [r1.length]; exact z3, fun p hp => ?_⟩
      exact q _ ms _ _ _ z4 (R.new hp) (Stp.new R hp) (R.newLst hp (r1.rep _))
    | _ => exact h.elim
  | _ => exact h.elim
/-- // by a number that is not nought, below 2 ^ 9000 -/
def CDivA (_ j : Int) : Prop := j ≠ 0 ∧ j.natAbs.log2 < 9000
theorem op_fdivA {X : Cx} : OpR X (binaryOp .FloorDiv) (rI CDivA fun i j => .int (i.fdiv j)) := opI fun _ _ _ _ _ _ _ hc q => floordiv_int hc.1 q (.inl (PyProof.noPylong_of_log2 hc.2))
def fDiv : OF := fun x y ms P => fI CDivA (fun i j => .int (i.fdiv j)) x y ms P
theorem opd_div {K : PySem.W.Frag} : OpD K (rI CDivA fun i j => .int (i.fdiv j)) fDiv := opd_I (fun _ _ h => h) fun _ _ _ => .int _
def fMod : OF := fun x y ms P => fI (fun _ j => j ≠ 0) (fun i j => .int (i.fmod j)) x y ms P
theorem opd_mod {K : PySem.W.Frag} : OpD K (rI (fun _ j => j ≠ 0) fun i j => .int (i.fmod j)) fMod := opd_I (fun _ _ h => h) fun _ _ _ => .int _
def fPow : OF := fun x y ms P => fI CPow (fun i j => .int (i ^ j.toNat)) x y ms P
theorem opd_pow {K : PySem.W.Frag} : OpD K (rI CPow fun i j => .int (i ^ j.toNat)) fPow := opd_I (fun _ _ h => h) fun _ _ _ => .int _
def fLt : OF := fun x y ms P => fI (fun _ _ => True) (fun i j => .bl (decide (i < j))) x y ms P
def fLe : OF := fun x y ms P => fI (fun _ _ => True) (fun i j => .bl (decide (i ≤ j))) x y ms P
def fGt : OF := fun x y ms P => fI (fun _ _ => True) (fun i j => .bl (decide (j < i))) x y ms P
def fGe : OF := fun x y ms P => fI (fun _ _ => True) (fun i j => .bl (decide (j ≤ i))) x y ms P
theorem opd_lt {K : PySem.W.Frag} : OpD K (rI0 fun i j => .bl (decide (i < j))) fLt := opd_I0 fun _ _ _ => .bl _
theorem opd_le {K : PySem.W.Frag} : OpD K (rI0 fun i j => .bl (decide (i ≤ j))) fLe := opd_I0 fun _ _ _ => .bl _
theorem opd_gt {K : PySem.W.Frag} : OpD K (rI0 fun i j => .bl (decide (j < i))) fGt := opd_I0 fun _ _ _ => .bl _
theorem opd_ge {K : PySem.W.Frag} : OpD K (rI0 fun i j => .bl (decide (j ≤ i))) fGe := opd_I0 fun _ _ _ => .bl _
mutual
def toPy : D → Option PyData
  | .non => some .none
  | .bl b => some (.bool b)
  | .int i => some (.int i)
  | .str x => some (.str x)
  | .lst xs => (toPys xs).map .list
  | .tup xs => (toPys xs).map .tuple
  | .fro xs => (toPys xs).map .list
  | .edic => some (.dict [])
  | .dct _ => none
  | .opq _ => none
  | .exc _ _ _ => none
  | .fld _ _ _ => none
  | .kls _ => none
def toPys : List D → Option (List PyData)
  | [] => some []
  | x :: r => match toPy x, toPys r with
    | some a, some b => some (a :: b)
    | _, _ => none
end
section
variable {X : Cx} {pins : List (Addr × Obj)} {σ : L2.St} {H F : Hp} {s : Shared}
/-- where lists and dicts of ours lie -/
def Our (K : PySem.W.Frag) (F : Hp) (b : Addr) : Prop := (∃ xs, SqL K F b xs) ∨ F b = some (.dK [])
theorem Our.not1 {K : PySem.W.Frag} {F : Hp} {b : Addr} (h : Our K F b) (o : OneR K F) : b ≠ sysModules := by
  rintro rfl
  obtain ⟨o1, o, φ, o2⟩ := o
  rcases h with ⟨xs, (h | ⟨ob, h⟩) | ⟨ob, its, n, h, _⟩⟩ | h
  · rw [o2] at h; cases h
  · rw [o2] at h; cases h
  · rw [o1] at h; cases h
  · rw [o2] at h; cases h
mutual
theorem DR.readsA (I : Inv X pins σ H s) (sb : Sub F H) : ∀ (d : D) (p : PyData) (v : V) (u : Value), DR X.K F v d → toPy d = some p → RelV v u → ∃ as, Reads s.heap u p as ∧ ∀ b ∈ as, Our X.K F b
  | .non, _, _, _, .non, h, r => by cases h; cases r; exact ⟨_, Reads.none, fun b hb => by cases hb⟩
  | .bl b, _, _, _, .bl _, h, r => by cases h; cases r; exact ⟨_, Reads.bool b, fun b hb => by cases hb⟩
  | .int i, _, _, _, .int _, h, r => by cases h; obtain ⟨t, rfl⟩ := r; exact ⟨_, Reads.int i t, fun b hb => by cases hb⟩
  | .str x, _, _, _, .str _, h, r => by cases h; obtain ⟨t, rfl⟩ := r; exact ⟨_, Reads.str x t, fun b hb => by cases hb⟩
  | .lst xs, p, _, _, .lst ha hs, h, r => by
    unfold toPy at h
    obtain ⟨ps, e, rfl⟩ := Option.map_eq_some_iff.mp h
    cases r
    obtain ⟨its, rv, ⟨o, n, ho, hc, _, hd⟩, _⟩ := I.list (SqL.of (sb _ _ ha))
    obtain ⟨as, hr, ou⟩ := DRs.readsA I sb xs ps _ its hs e rv
    refine ⟨_, Reads.list ho hc hd hr, fun b hb => ?_⟩
    rcases List.mem_cons.mp hb with rfl | hb
    · exact .inl ⟨_, SqL.of ha⟩
    · exact ou b hb
  | .fro xs, p, _, _, .fro ha hs, h, r => by
    unfold toPy at h
    obtain ⟨ps, e, rfl⟩ := Option.map_eq_some_iff.mp h
    cases r
    obtain ⟨its, rv, ⟨o, n, ho, hc, _, hd⟩, _⟩ := I.list (sb.sqL ha)
    obtain ⟨as, hr, ou⟩ := DRs.readsA I sb xs ps _ its hs e rv
    refine ⟨_, Reads.list ho hc hd hr, fun b hb => ?_⟩
    rcases List.mem_cons.mp hb with rfl | hb
    · exact .inl ⟨_, ha⟩
    · exact ou b hb
  | .tup xs, p, _, _, .tup ha hs, h, r => by
    unfold toPy at h
    obtain ⟨ps, e, rfl⟩ := Option.map_eq_some_iff.mp h
    cases r
    obtain ⟨its, rv, ⟨o, ho, hc, n, hd⟩, _⟩ := I.tuple (sb.sqT ha)
    obtain ⟨as, hr, ou⟩ := DRs.readsA I sb xs ps _ its hs e rv
    exact ⟨_, Reads.tuple ho hc hd hr, ou⟩
  | .edic, p, _, _, .edic ha, h, r => by
    cases h
    cases r
    obtain ⟨_, _, vs, kv, o, es, ep, h1, h2, h3, h4, h5, _⟩ := (show ObjOk X.prog X.w H s.heap _ (.dK []) from I.hok _ _ (sb _ _ ha))
    cases kv
    have e0 : es.toList = [] := by
      generalize es.toList = l at h5
      cases h5
      rfl
    refine ⟨_, Reads.dict (kvs := []) h1 h2.1 h3 (by rw [e0]; exact .nil) (by rw [e0]; exact .nil), fun b hb => ?_⟩
    simp only [List.cons_append, List.append_nil, List.mem_cons, List.not_mem_nil, or_false] at hb
    subst hb
    exact .inr ha
  | .opq _, _, _, _, _, h, _ => by cases h
  | .dct _, _, _, _, _, h, _ => by cases h
  | .exc _ _ _, _, _, _, _, h, _ => by cases h
  | .fld _ _ _, _, _, _, _, h, _ => by cases h
  | .kls _, _, _, _, _, h, _ => by cases h
theorem DRs.readsA (I : Inv X pins σ H s) (sb : Sub F H) : ∀ (ds : List D) (ps : List PyData) (vs : List V) (us : List Value), DRs X.K F vs ds → toPys ds = some ps → Vals vs us → ∃ as, ReadsAll s.heap us ps as ∧ ∀ b ∈ as, Our X.K F b
  | [], _, _, _, .nil, h, r => by cases h; cases r; exact ⟨_, ReadsAll.nil, fun b hb => by cases hb⟩
  | d :: ds, ps, _, _, .cons h1 h2, h, r => by
    unfold toPys at h
    cases e1 : toPy d with
    | none => simp only [e1] at h; cases h
    | some a =>
      cases e2 : toPys ds with
      | none => simp only [e1, e2] at h; cases h
      | some b =>
        simp only [e1, e2] at h
        cases h
        cases r with
        | cons r1 r2 =>
          obtain ⟨as, q1, o1⟩ := DR.readsA I sb d a _ _ h1 e1 r1
          obtain ⟨bs, q2, o2⟩ := DRs.readsA I sb ds b _ _ h2 e2 r2
          refine ⟨_, ReadsAll.cons q1 q2, fun b hb => ?_⟩
          rcases List.mem_append.mp hb with hb | hb
          · exact o1 b hb
          · exact o2 b hb
end
theorem DR.reads (I : Inv X pins σ H s) (sb : Sub F H) (d : D) (p : PyData) (v : V) (u : Value) (r : DR X.K F v d) (e : toPy d = some p) (ru : RelV v u) : ∃ as, Reads s.heap u p as := (DR.readsA I sb d p v u r e ru).imp fun _ h => h.1
end
end DL
namespace DL
open PySem PySem.Spec PyProof.Rows L2
def ShD (d : D) : Prop := ∃ p, toPy d = some p ∧ SeqAt.shaped p = true
def eqD (x y : D) : Bool := match toPy x, toPy y with
  | some p, some q => PyData.eqv p q
  | _, _ => false
def fEq : OF := fun x y ms P => match x, y with
  | .int i, .int j => P (.bl (i == j)) ms
  | .str i, .str j => P (.bl (i == j)) ms
  | .lst a, .lst [] => P (.bl a.isEmpty) ms
  | _, _ => ShD x ∧ ShD y ∧ P (.bl (eqD x y)) ms
def fNe : OF := fun x y ms P => match x, y with
  | .int i, .int j => P (.bl (!(i == j))) ms
  | .str i, .str j => P (.bl (!(i == j))) ms
  | .lst a, .lst [] => P (.bl (!a.isEmpty)) ms
  | _, _ => ShD x ∧ ShD y ∧ P (.bl (!eqD x y)) ms
def rEqF (K : PySem.W.Frag) (neg : Bool) : R2 := fun x y H Q => ∃ F dx dy, Sub F H ∧ DR K F x dx ∧ DR K F y dy ∧ ShD dx ∧ ShD dy ∧ Q (.bl (if neg then !eqD dx dy else eqD dx dy)) H
theorem op_eqF' {X : Cx} (hu : X.A.units + 64 < cLine) : OpR X (compareOp .Eq) (rEqF X.K false) := by
  intro pins s σ H x y v u Q I rx ry h
  obtain ⟨F, dx, dy, sb, hx, hy, ⟨p, e1, z1⟩, ⟨q, e2, z2⟩, h⟩ := h
  obtain ⟨as, r1⟩ := DR.reads I sb dx p x v hx e1 rx
  obtain ⟨bs, r2⟩ := DR.reads I sb dy q y u hy e2 ry
  have e : eqD dx dy = PyData.eqv p q := by unfold eqD; rw [e1, e2]
  exact SeqAt.compareEq_shaped r1 r2 z1 z2 hu ⟨.bl _, H, I, rfl, by rw [← e]; exact h⟩
theorem op_neF' {X : Cx} (hu : X.A.units + 64 < cLine) : OpR X (compareOp .NotEq) (rEqF X.K true) := by
  intro pins s σ H x y v u Q I rx ry h
  obtain ⟨F, dx, dy, sb, hx, hy, ⟨p, e1, z1⟩, ⟨q, e2, z2⟩, h⟩ := h
  obtain ⟨as, r1⟩ := DR.reads I sb dx p x v hx e1 rx
  obtain ⟨bs, r2⟩ := DR.reads I sb dy q y u hy e2 ry
  have e : eqD dx dy = PyData.eqv p q := by unfold eqD; rw [e1, e2]
  exact SeqAt.compareNe_shaped r1 r2 z1 z2 hu ⟨.bl _, H, I, rfl, by rw [← e]; exact h⟩
/-- a list beside an empty one: by how long it is -/
def rEqE (K : PySem.W.Frag) (neg : Bool) : R2 := fun x y H Q => ∃ F xs, Sub F H ∧ DR K F x (.lst xs) ∧ DR K F y (.lst []) ∧ Q (.bl (Bool.xor neg xs.isEmpty)) H
theorem op_eqE {X : Cx} (hu : X.A.units + 64 < cLine) : OpR X (compareOp .Eq) (rEqE X.K false) := by
  intro pins s σ H x y v u Q I rx ry h
  obtain ⟨F, xs, sb, hx, hy, h⟩ := h
  cases xs with
  | nil =>
    obtain ⟨as, r1⟩ := DR.reads I sb (.lst []) (.list []) x v hx rfl rx
    obtain ⟨bs, r2⟩ := DR.reads I sb (.lst []) (.list []) y u hy rfl ry
    exact SeqAt.compareEq_shaped r1 r2 rfl rfl hu ⟨.bl true, H, I, rfl, h⟩
  | cons d r =>
    cases hx with
    | lst ha hs => cases hy with
      | lst hb hs2 =>
        cases rx; cases ry
        obtain ⟨i1, v1, ⟨o1, n1, p1, c1, _, d1⟩, _⟩ := I.list (SqL.of (sb _ _ ha))
        obtain ⟨i2, v2, ⟨o2, n2, p2, c2, _, d2⟩, _⟩ := I.list (SqL.of (sb _ _ hb))
        have l1 : i1.length = r.length + 1 := by rw [← v1.length, hs.length]; rfl
        have l2 : i2.length = 0 := by rw [← v2.length, hs2.length]; rfl
        exact PySem.SeqAt.eq_list_lengthsAt ⟨o1, p1, c1, n1, d1⟩ ⟨o2, p2, c2, n2, d2⟩ (by rw [List.size_toArray, List.size_toArray, l1, l2]; rfl) (by omega) ⟨.bl false, H, I, rfl, h⟩
theorem op_neE {X : Cx} (hu : X.A.units + 64 < cLine) : OpR X (compareOp .NotEq) (rEqE X.K true) := by
  intro pins s σ H x y v u Q I rx ry h
  obtain ⟨F, xs, sb, hx, hy, h⟩ := h
  cases xs with
  | nil =>
    obtain ⟨as, r1⟩ := DR.reads I sb (.lst []) (.list []) x v hx rfl rx
    obtain ⟨bs, r2⟩ := DR.reads I sb (.lst []) (.list []) y u hy rfl ry
    exact SeqAt.compareNe_shaped r1 r2 rfl rfl hu ⟨.bl false, H, I, rfl, h⟩
  | cons d r =>
    cases hx with
    | lst ha hs => cases hy with
      | lst hb hs2 =>
        cases rx; cases ry
        obtain ⟨i1, v1, ⟨o1, n1, p1, c1, _, d1⟩, _⟩ := I.list (SqL.of (sb _ _ ha))
        obtain ⟨i2, v2, ⟨o2, n2, p2, c2, _, d2⟩, _⟩ := I.list (SqL.of (sb _ _ hb))
        have l1 : i1.length = r.length + 1 := by rw [← v1.length, hs.length]; rfl
        have l2 : i2.length = 0 := by rw [← v2.length, hs2.length]; rfl
        exact PySem.SeqAt.RcNeAt.lists_lengths ⟨o1, p1, c1, n1, d1⟩ ⟨o2, p2, c2, n2, d2⟩ (by rw [List.size_toArray, List.size_toArray, l1, l2]; rfl) (by omega) _ _ _ _ ⟨.bl true, H, I, rfl, h⟩
def rEqA (K : PySem.W.Frag) : R2 := fun x y H Q => rEqF K false x y H Q ∨ (rEqE K false x y H Q ∨ rEq x y H Q)
def rNeA (K : PySem.W.Frag) : R2 := fun x y H Q => rEqF K true x y H Q ∨ (rEqE K true x y H Q ∨ rNe x y H Q)
theorem op_eqF {X : Cx} (hu : X.A.units + 64 < cLine) : OpR X (compareOp .Eq) (rEqA X.K) := (op_eqF' hu).or ((op_eqE hu).or op_eq)
theorem op_neF {X : Cx} (hu : X.A.units + 64 < cLine) : OpR X (compareOp .NotEq) (rNeA X.K) := (op_neF' hu).or ((op_neE hu).or op_ne)
theorem opd_eq {K : PySem.W.Frag} : OpD K (rEqA K) fEq := fun F H ms x y dx dy P Q R rx ry h q => by
  have gen : ShD dx ∧ ShD dy ∧ P (.bl (eqD dx dy)) ms → rEqA K x y H Q := fun h => .inl ⟨F, dx, dy, R.sub, rx, ry, h.1, h.2.1, q _ ms _ F H h.2.2 R Stp.refl (.bl _)⟩
  cases rx with
  | int i => cases ry with
    | int j => exact .inr (.inr ⟨rfl, by rw [dec_int]; exact q _ ms _ F H h R Stp.refl (.bl _)⟩)
    | _ => exact gen h
  | str i => cases ry with
    | str j => exact .inr (.inr ⟨rfl, by rw [dec_str]; exact q _ ms _ F H h R Stp.refl (.bl _)⟩)
    | _ => exact gen h
  | lst ha hs => cases ry with
    | lst hb hs2 =>
      rename_i ys
      cases ys with
      | nil => exact .inr (.inl ⟨F, _, R.sub, .lst ha hs, .lst hb hs2, by rw [Bool.false_xor]; exact q _ ms _ F H h R Stp.refl (.bl _)⟩)
      | cons _ _ => exact gen h
    | _ => exact gen h
  | _ => exact gen h
theorem opd_ne {K : PySem.W.Frag} : OpD K (rNeA K) fNe := fun F H ms x y dx dy P Q R rx ry h q => by
  have gen : ShD dx ∧ ShD dy ∧ P (.bl (!eqD dx dy)) ms → rNeA K x y H Q := fun h => .inl ⟨F, dx, dy, R.sub, rx, ry, h.1, h.2.1, q _ ms _ F H h.2.2 R Stp.refl (.bl _)⟩
  cases rx with
  | int i => cases ry with
    | int j => exact .inr (.inr ⟨rfl, by rw [dec_int]; exact q _ ms _ F H h R Stp.refl (.bl _)⟩)
    | _ => exact gen h
  | str i => cases ry with
    | str j => exact .inr (.inr ⟨rfl, by rw [dec_str]; exact q _ ms _ F H h R Stp.refl (.bl _)⟩)
    | _ => exact gen h
  | lst ha hs => cases ry with
    | lst hb hs2 =>
      rename_i ys
      cases ys with
      | nil => exact .inr (.inl ⟨F, _, R.sub, .lst ha hs, .lst hb hs2, by rw [Bool.true_xor]; exact q _ ms _ F H h R Stp.refl (.bl _)⟩)
      | cons _ _ => exact gen h
    | _ => exact gen h
  | _ => exact gen h
def fIx : OF := fun x y ms P => match y with
  | .int i => (match x with
    | .tup xs => (match atI xs i with
      | some d => P d ms
      | none => False)
    | .str z => z.length ≤ sizeLine ∧ (match atI z.cps.toList i with
      | some c => P (.str ⟨#[c]⟩) ms
      | none => False)
    | _ => (match asL x ms with
      | some xs => (match atI xs i with
        | some d => P d ms
        | none => False)
      | none => False))
  | _ => False
theorem DRs.at {K : PySem.W.Frag} {F : Hp} {vs : List V} {xs : List D} {i : Int} {d : D} (r : DRs K F vs xs) (h : atI xs i = some d) : ∃ v, atI vs i = some v ∧ DR K F v d := by
  unfold atI at h ⊢
  rw [r.length]
  cases e : ixN xs.length i with
  | none => rw [e] at h; cases h
  | some j =>
    rw [e] at h
    exact r.get h
theorem opd_ix {K : PySem.W.Frag} : OpD K (rIx K) fIx := by
  intro F H ms x y dx dy P Q R rx ry h q
  cases ry with
  | int i =>
    unfold fIx at h
    have lst : ∀ {xs : List D}, asL dx ms = some xs → (match atI xs i with | some d => P d ms | none => False) → rIx K x (.int i) H Q := by
      intro xs e h
      obtain ⟨a, vs, rfl, hs, rs⟩ := R.asL rx e
      cases e2 : atI xs i with
      | none => rw [e2] at h; exact h.elim
      | some d =>
        rw [e2] at h
        obtain ⟨v, h1, h2⟩ := rs.at e2
        exact .inl ⟨a, vs, i, v, rfl, rfl, hs, h1, q d ms v F H h R Stp.refl h2⟩
    cases rx with
    | tup ha hs =>
      rename_i xs
      simp only at h
      cases e2 : atI xs i with
      | none => rw [e2] at h; exact h.elim
      | some d =>
        rw [e2] at h
        obtain ⟨v, h1, h2⟩ := hs.at e2
        exact .inr (.inl ⟨_, _, i, v, rfl, rfl, R.sub.sqT ha, h1, q d ms v F H h R Stp.refl h2⟩)
    | str z =>
      simp only at h
      obtain ⟨hz, h⟩ := h
      cases e2 : atI z.cps.toList i with
      | none => rw [e2] at h; exact h.elim
      | some c =>
        rw [e2] at h
        exact .inr (.inr ⟨z, i, c, rfl, rfl, hz, e2, q _ ms _ F H h R Stp.refl (.str _)⟩)
    | lst ha hs => exact lst rfl h
    | fro ha hs => exact lst rfl h
    | opq _ =>
      simp only at h
      cases e : asL (.opq x) ms with
      | none => rw [e] at h; exact h.elim
      | some xs => rw [e] at h; exact lst e h
    | _ => exact h.elim
  | _ => exact h.elim
def put : MS → Addr → List D → MS
  | [], _, _ => []
  | (q, xs) :: r, p, ys => if q = p then (q, ys) :: r else (q, xs) :: put r p ys
theorem put_fst : ∀ (ms : MS) (p : Addr) (ys : List D), (put ms p ys).map (·.1) = ms.map (·.1)
  | [], _, _ => rfl
  | (q, xs) :: r, p, ys => by
    unfold put
    split
    · rfl
    · rw [List.map_cons, List.map_cons, put_fst r p ys]
theorem put_mem : ∀ {ms : MS} {p : Addr} {ys : List D}, (ms.map (·.1)).Nodup → ∀ e ∈ put ms p ys, (e.1 = p ∧ e.2 = ys) ∨ (e ∈ ms ∧ e.1 ≠ p)
  | [], _, _, _, _, h => by cases h
  | (q, xs) :: r, p, ys, nd, e, h => by
    rw [List.map_cons, List.nodup_cons] at nd
    unfold put at h
    split at h
    · rename_i hq
      rcases List.mem_cons.mp h with rfl | h
      · exact .inl ⟨hq, rfl⟩
      · refine .inr ⟨List.mem_cons_of_mem _ h, fun z => nd.1 ?_⟩
        show q ∈ _
        rw [hq, ← z]
        exact List.mem_map_of_mem h
    · rename_i hq
      rcases List.mem_cons.mp h with rfl | h
      · exact .inr ⟨List.mem_cons_self, hq⟩
      · rcases put_mem nd.2 e h with z | z
        · exact .inl z
        · exact .inr ⟨List.mem_cons_of_mem _ z.1, z.2⟩
theorem nofld_map {α : Type} (f : α → D) (h : ∀ x, nofld [f x] = true) : ∀ xs : List α, nofld (xs.map f) = true
  | [] => rfl
  | x :: r => by
    have := h x
    rw [List.map_cons]
    cases e : f x with
    | fld _ _ _ => rw [e] at this; cases this
    | _ => rfl
theorem nofld_app : ∀ {xs ys : List D}, nofld xs = true → nofld ys = true → nofld (xs ++ ys) = true
  | [], _, _, h => h
  | x :: r, ys, h, _ => by
    cases x with
    | fld _ _ _ => cases h
    | _ => rfl
theorem look_put_go : ∀ {ms : MS} {p : Addr} {xs ys : List D}, look ms p = some xs → nofld ys = true → look (put ms p ys) p = some ys
  | [], _, _, _, h, _ => by cases h
  | (q, zs) :: r, p, xs, ys, h, hy => by
    unfold look at h
    unfold put
    by_cases e : q = p
    · rw [if_pos e, look, if_pos e, if_pos hy]
    · rw [if_neg e] at h ⊢
      rw [look, if_neg e]
      exact look_put_go h hy
theorem look_put_same {ms : MS} {p : Addr} {xs ys : List D} (h : look ms p = some xs) (hy : nofld ys = true := by first | rfl | assumption | exact nofld_map _ (fun _ => rfl) _ | exact nofld_app (by first | rfl | assumption | exact nofld_map _ (fun _ => rfl) _) (by first | rfl | assumption | exact nofld_map _ (fun _ => rfl) _)) : look (put ms p ys) p = some ys := look_put_go h hy
theorem look_put_ne : ∀ {ms : MS} {p q : Addr} {ys : List D}, p ≠ q → look (put ms p ys) q = look ms q
  | [], _, _, _, _ => rfl
  | (r, zs) :: ms, p, q, ys, h => by
    unfold put
    by_cases e : r = p
    · subst e
      rw [if_pos rfl, look, look, if_neg h, if_neg h]
    · rw [if_neg e, look, look, look_put_ne h]
section
variable {K : PySem.W.Frag} {F H : Hp} {ms : MS}
theorem relPut (R : Rel K F H ms) {p : Addr} {xs ys : List D} {ws : List V} (h : look ms p = some xs) (r : DRs K F ws ys) : Rel K F (upd H p (.lst ws)) (put ms p ys) := by
  obtain ⟨hF, vs, hH, _⟩ := R.look h
  refine ⟨fun b u e => ?_, fun e he => ?_, by rw [put_fst]; exact R.nd, R.one⟩
  · rw [upd_ne fun z => by rw [z, hF] at e; cases e]; exact R.sub b u e
  · rcases put_mem R.nd e he with ⟨z1, z2⟩ | ⟨z1, z2⟩
    · rw [z1, z2]; exact ⟨hF, ws, by rw [cell_no r.no]; exact upd_same, by rw [body_no r.no]; exact r⟩
    · obtain ⟨y1, us, y2, y3⟩ := R.mu e z1
      exact ⟨y1, us, by rw [upd_ne z2]; exact y2, y3⟩
theorem stpPut (R : Rel K F H ms) {p : Addr} {xs ys : List D} {ws : List V} (h : look ms p = some xs) : Stp F H ms F (upd H p (.lst ws)) (put ms p ys) := by
  refine ⟨Sub.refl F, fun a u z1 z2 z3 => ?_, fun _ _ h => .inl h, fun e he => .inl ?_⟩
  · rw [upd_ne fun z => z3 _ (look_mem h) z.symm]; exact z1
  · have := List.mem_map_of_mem (f := (·.1)) he
    rw [put_fst] at this
    obtain ⟨q, hq, z⟩ := List.mem_map.mp this
    exact ⟨q, hq, z⟩
end
def dSetIx (do_ di dv : DE) : DTS := fun E ds ms => dv ds ms fun v m1 => do_ ds m1 fun o m2 => di ds m2 fun i m3 => match o, i with
  | .opq (.ref p), .int k => (match look m3 p with
    | some xs => (match ixN xs.length k with
      | some j => E.nx ds (put m3 p (xs.set j v))
      | none => False)
    | none => False)
  | _, _ => False
section
variable {X : Cx} {o i e : Expr} {do_ di dv : DE} {pos spos : Pos}
theorem pds_setIx (he : PD X e dv) (ho : PD X o do_) (hi : PD X i di)
    (ha : ∀ v, assign (.Subscript o i pos) X.env v = (do
      let ov ← holding [v] (eval o X.env)
      let iv ← holding [v, ov] (eval i X.env)
      standAt pos
      holding [v, ov, iv] (setItem ov iv v)
      release [v, ov, iv] []) := by intro _; rfl)
    (hs : swapsWithSole [.Subscript o i pos] e spos.line X.env = pure false := by rfl) (hw : swappedStores [.Subscript o i pos] e X.env = pure none := by rfl)
    (h1 : (assignEach [.Subscript o i pos] X.env).map (·.2) = [assign (.Subscript o i pos) X.env] := by rfl) : PDS X (.Assign [.Subscript o i pos] e spos) (dSetIx do_ di dv) :=
  psImp (ps_asg he (pg_sub ho hi set_list ha) hs hw h1) fun D σ H ⟨F, ds, ms, E, R, S, h, n, r, k, q⟩ =>
    ⟨F, ds, ms, _, R, S, h, fun d m1 v F1 H1 p1 R1 s1 r1 => ⟨F1, ds, m1, _, R1, S.mono s1.sub, p1, fun do' m2 o' F2 H2 p2 R2 s2 r2 =>
      ⟨F2, ds, m2, _, R2, S.mono (s1.trans s2).sub, p2, fun di' m3 i' F3 H3 p3 R3 s3 r3 => by
        match do', di', p3, r2, r3 with
        | .opq (.ref p), .int kk, p3, r2, .int _ =>
          cases r2
          cases e1 : look m3 p with
          | none => simp only [e1] at p3
          | some xs =>
            simp only [e1] at p3
            cases e2 : ixN xs.length kk with
            | none => simp only [e2] at p3
            | some j =>
              simp only [e2] at p3
              obtain ⟨hF, vs, hH, rs⟩ := R3.look e1
              refine ⟨p, vs, kk, j, rfl, rfl, hH, by rw [rs.length]; exact e2, ?_⟩
              have s13 := (s1.trans s2).trans s3
              exact n ds _ σ F3 _ p3 (relPut R3 e1 (rs.set ((r1.mono s2.sub).mono s3.sub) j)) (s13.trans (stpPut R3 e1)) (S.mono s13.sub)⟩⟩⟩
end
def dAppend (dx : DE) (aa : DA) : DE := fun ds ms P => dx ds ms fun x m1 => match x with
  | .opq (.ref p) => (∃ xs0, look m1 p = some xs0) ∧ aa ds m1 fun ys m2 => (match ys with
    | [y] => (match look m2 p with
      | some xs => xs.length < sizeLine ∧ P .non (put m2 p (xs ++ [y]))
      | none => False)
    | _ => False)
  | _ => False
section
variable {X : Cx} {o e : Expr} {dx : DE} {aa : DA} {apos cpos : Pos}
theorem pd_append (ho : PD X o dx) (ha : PDA X [e] aa)
    (hbase : attributeBase o "append" X.env (eval o X.env) = eval o X.env := by rfl)
    (hfew : ((backTo cpos (starEach [e] X.env)).all (fun x => !x.1) && (backToKw cpos (keywordEach [] X.env)).all (fun x => x.1.isSome) && decide ([e].length + ([] : List Keyword).length + (if ([] : List Keyword).isEmpty then 0 else 1) < 30)) = true := by rfl)
    (hline : (apos.endLine == cpos.line) = true := by rfl) (hs : starEach [e] X.env = (false, eval e X.env) :: starEach [] X.env := by rfl) (hplain : (backTo cpos (starEach [] X.env)).any (·.1) = false := by rfl) :
    PD X (.Call (.Attribute o "append" apos) [e] [] cpos) (dAppend dx aa) :=
  peImp (pe_bm PySem.F.plainAttrs_list PySem.F.slot_list_append PySem.F.type_list_append mt_append ho ha hbase hfew hline hs hplain) fun σ H Q ⟨F, ds, ms, P, R, S, h1, h2⟩ =>
    ⟨F, ds, ms, _, R, S, h1, fun x m1 v F1 H1 p1 R1 s1 r1 => by
      match x, p1, r1 with
      | .opq (.ref p), ⟨⟨xs0, e0⟩, h⟩, r1 =>
        cases r1
        obtain ⟨hF, vs, hH, rs⟩ := R1.look e0
        refine ⟨.inl ⟨rfl, vs, SqL.of hH⟩, F1, ds, m1, _, R1, S.mono s1.sub, h, fun ys m2 ws F2 H2 p2 R2 s2 r2 => ?_⟩
        match ys, r2, p2 with
        | [y], .cons ry .nil, p3 =>
          cases e1 : look m2 p with
          | none => simp only [e1] at p3
          | some xs =>
            simp only [e1] at p3
            obtain ⟨hF2, vs2, hH2, rs2⟩ := R2.look e1
            exact ⟨p, vs2, _, rfl, rfl, hH2, by rw [rs2.length]; exact p3.1, h2 _ _ _ F2 _ p3.2 (relPut R2 e1 (rs2.append (.cons ry .nil))) ((s1.trans s2).trans (stpPut R2 e1)) .non⟩⟩
end
def drp : MS → Addr → MS
  | [], _ => []
  | (q, xs) :: r, p => if q = p then r else (q, xs) :: drp r p
theorem drp_sub : ∀ {ms : MS} {p : Addr}, ∀ e ∈ drp ms p, e ∈ ms
  | [], _, _, h => by cases h
  | (q, xs) :: r, p, e, h => by
    unfold drp at h
    split at h
    · exact List.mem_cons_of_mem _ h
    · rcases List.mem_cons.mp h with rfl | h
      · exact List.mem_cons_self
      · exact List.mem_cons_of_mem _ (drp_sub e h)
theorem drp_ne : ∀ {ms : MS} {p : Addr}, (ms.map (·.1)).Nodup → ∀ e ∈ drp ms p, e.1 ≠ p
  | [], _, _, _, h => by cases h
  | (q, xs) :: r, p, nd, e, h => by
    rw [List.map_cons, List.nodup_cons] at nd
    unfold drp at h
    split at h
    · rename_i hq
      exact fun z => nd.1 (by show q ∈ _; rw [hq, ← z]; exact List.mem_map_of_mem h)
    · rename_i hq
      rcases List.mem_cons.mp h with rfl | h
      · exact hq
      · exact drp_ne nd.2 e h
theorem drp_nd : ∀ {ms : MS} {p : Addr}, (ms.map (·.1)).Nodup → ((drp ms p).map (·.1)).Nodup
  | [], _, h => h
  | (q, xs) :: r, p, nd => by
    rw [List.map_cons, List.nodup_cons] at nd
    unfold drp
    split
    · exact nd.2
    · rw [List.map_cons, List.nodup_cons]
      refine ⟨fun z => nd.1 ?_, drp_nd nd.2⟩
      obtain ⟨e, he, ze⟩ := List.mem_map.mp z
      exact List.mem_map.mpr ⟨e, drp_sub e he, ze⟩
section
variable {K : PySem.W.Frag} {F H : Hp} {ms : MS}
theorem relFrz (R : Rel K F H ms) {p : Addr} {xs : List D} (h : look ms p = some xs) : ∃ vs, Rel K (upd F p (.lst vs)) H (drp ms p) ∧ Stp F H ms (upd F p (.lst vs)) H (drp ms p) ∧ DR K (upd F p (.lst vs)) (.ref p) (.lst xs) := by
  obtain ⟨hF, vs, hH, rs⟩ := R.look h
  have sF : Sub F (upd F p (.lst vs)) := Sub.new hF
  refine ⟨vs, ⟨fun b u e => ?_, fun e he => ?_, drp_nd R.nd, R.one.mono sF⟩, ⟨sF, fun a u h _ _ => h, fun a u e => ?_, fun e he => .inl ⟨e, drp_sub e he, rfl⟩⟩, .lst upd_same (rs.mono sF)⟩
  · by_cases hb : b = p
    · subst hb; rw [upd_same] at e; rw [hH]; exact e
    · rw [upd_ne hb] at e; exact R.sub b u e
  · obtain ⟨y1, us, y2, y3⟩ := R.mu e (drp_sub e he)
    exact ⟨by rw [upd_ne (drp_ne R.nd e he)]; exact y1, us, y2, y3.mono sF⟩
  · by_cases hb : a = p
    · subst hb; exact .inr (.inr ⟨_, look_mem h, rfl⟩)
    · rw [upd_ne hb] at e; exact .inl e
end
def dFrz (de : DE) : DE := fun ds ms P => de ds ms fun d m => match d with
  | .opq (.ref p) => (match look m p with
    | some xs => P (.lst xs) (drp m p)
    | none => False)
  | _ => False
end DL
namespace DL
open PySem PySem.Spec PyProof.Rows L2
abbrev CF := List D → MS → (D → MS → Prop) → Prop
def CalD (K : PySem.W.Frag) (r : List V → Hp → VK → Prop) (f : CF) : Prop := ∀ (F H : Hp) (ms : MS) (vs : List V) (xs : List D) (P : D → MS → Prop) (Q : VK), Rel K F H ms → DRs K F vs xs → f xs ms P →
  (∀ d ms' v F' H', P d ms' → Rel K F' H' ms' → Stp F H ms F' H' ms' → DR K F' v d → Q v H') → r vs H Q
def dCB (f : CF) (aa : DA) : DE := fun ds ms P => aa ds ms fun xs m => f xs m P
section
variable {X : Cx} {K : PySem.W.Frag} {x : Str} {p pos : Pos} {e : Expr} {es : List Expr} {aa : DA} {id T : String} {r : List V → Hp → VK → Prop} {f : CF} {da : DE}
theorem lift_cb (hf : CalD K r f) : ∀ σ H Q, lift K (dCB f aa) σ H Q → tCB r (liftA K aa) σ H Q := fun σ H Q ⟨F, ds, ms, P, R, S, h1, h2⟩ =>
  ⟨F, ds, ms, _, R, S, h1, fun xs m vs F1 H1 p1 R1 s1 r1 => hf F1 H1 m vs xs P Q R1 r1 p1 fun d m2 v F2 H2 p2 R2 s2 r2 => h2 d m2 v F2 H2 p2 R2 (s1.trans s2) r2⟩
theorem pd_callB (hc : CallR X (.builtin id) r) (hf : CalD X.K r f) (hg : Gl X x) (hm : X.mg x = none) (hv : bootBuiltins x = some (.builtin id)) (ha : PDA X (e :: es) aa) (hn : x ≠ "__name__" := by decide) (hdb : (x == ("__debug__" : Str)) = false := by decide)
    (he : starEach (e :: es) X.env = (false, eval e X.env) :: starEach es X.env := by rfl) (hpl : (backTo pos (starEach es X.env)).any (·.1) = false := by rfl) : PD X (.Call (.Name x p) (e :: es) [] pos) (dCB f aa) :=
  peImp (pe_callB hc hg hm hv ha hn hdb he hpl) (lift_cb hf)
theorem pd_callTy (hc : CallR X (.type T) r) (hf : CalD X.K r f) (hg : Gl X x) (hm : X.mg x = none) (hv : bootBuiltins x = some (.type T)) (ha : PDA X (e :: es) aa) (hn : x ≠ "__name__" := by decide) (hdb : (x == ("__debug__" : Str)) = false := by decide)
    (he : starEach (e :: es) X.env = (false, eval e X.env) :: starEach es X.env := by rfl) (hpl : (backTo pos (starEach es X.env)).any (·.1) = false := by rfl) : PD X (.Call (.Name x p) (e :: es) [] pos) (dCB f aa) :=
  peImp (pe_callTy hc hg hm hv ha hn hdb he hpl) (lift_cb hf)
end
def cAbs : CF := fun xs ms P => match xs with
  | [.int i] => P (.int (if i < 0 then -i else i)) ms
  | _ => False
def cMax2 : CF := fun xs ms P => match xs with
  | [.int i, .int j] => P (.int (if j > i then j else i)) ms
  | _ => False
def cMin2 : CF := fun xs ms P => match xs with
  | [.int i, .int j] => P (.int (if j < i then j else i)) ms
  | _ => False
def cInt1 : CF := fun xs ms P => match xs with
  | [.int i] => P (.int i) ms
  | [.bl k] => P (.int (if k then 1 else 0)) ms
  | _ => False
def cLen : CF := fun xs ms P => match xs with
  | [.str z] => z.length ≤ sizeLine ∧ P (.int z.length) ms
  | [.tup ys] => P (.int ys.length) ms
  | [d] => (match asL d ms with
    | some ys => P (.int ys.length) ms
    | none => False)
  | _ => False
def cList : CF := fun xs ms P => match xs with
  | [.tup ys] => P (.lst ys) ms
  | [d] => (match asL d ms with
    | some ys => P (.lst ys) ms
    | none => False)
  | _ => False
def cTuple : CF := fun xs ms P => match xs with
  | [.tup ys] => P (.tup ys) ms
  | [d] => (match asL d ms with
    | some ys => P (.tup ys) ms
    | none => False)
  | _ => False
/-- the truths in a list, the ints in a list -/
def blsOf : List D → Option (List Bool)
  | [] => some []
  | .bl b :: r => (blsOf r).map (b :: ·)
  | _ :: _ => none
def intsOf : List D → Option (List Int)
  | [] => some []
  | .int b :: r => (intsOf r).map (b :: ·)
  | _ :: _ => none
def cAll : CF := fun xs ms P => match xs with
  | [.lst ys] => (match blsOf ys with
    | some bs => P (.bl (bs.all id)) ms
    | none => False)
  | _ => False
def cAny : CF := fun xs ms P => match xs with
  | [.lst ys] => (match blsOf ys with
    | some bs => P (.bl (bs.any id)) ms
    | none => False)
  | _ => False
def cSum : CF := fun xs ms P => match xs with
  | [.lst ys] => (match intsOf ys with
    | some ns => P (.int ns.sum) ms
    | none => False)
  | _ => False
section
variable {X : Cx} {K : PySem.W.Frag} {F : Hp}
theorem DRs.bls : ∀ {vs : List V} {ys : List D} {bs : List Bool}, DRs K F vs ys → blsOf ys = some bs → vs = bs.map V.bl
  | _, _, _, .nil, h => by cases h; rfl
  | _, .bl b :: r, bs, .cons (.bl _) t, h => by
    unfold blsOf at h
    obtain ⟨cs, e, rfl⟩ := Option.map_eq_some_iff.mp h
    rw [List.map_cons, DRs.bls t e]
  | _, .non :: _, _, .cons _ _, h => by cases h
  | _, .int _ :: _, _, .cons _ _, h => by cases h
  | _, .str _ :: _, _, .cons _ _, h => by cases h
  | _, .lst _ :: _, _, .cons _ _, h => by cases h
  | _, .tup _ :: _, _, .cons _ _, h => by cases h
  | _, .fro _ :: _, _, .cons _ _, h => by cases h
  | _, .edic :: _, _, .cons _ _, h => by cases h
  | _, .dct _ :: _, _, .cons _ _, h => by cases h
  | _, .opq _ :: _, _, .cons _ _, h => by cases h
  | _, .exc _ _ _ :: _, _, .cons _ _, h => by cases h
theorem cal_max2 : CalD K (fun xs H Q => ∃ i j, xs = [.int i, .int j] ∧ Q (.int (if j > i then j else i)) H) cMax2 := fun F H ms vs xs P Q R r h q => by
  match xs, r, h with
  | [.int i, .int j], .cons (.int _) (.cons (.int _) .nil), h => exact ⟨i, j, rfl, q _ ms _ F H h R Stp.refl (.int _)⟩
theorem cal_min2 : CalD K (fun xs H Q => ∃ i j, xs = [.int i, .int j] ∧ Q (.int (if j < i then j else i)) H) cMin2 := fun F H ms vs xs P Q R r h q => by
  match xs, r, h with
  | [.int i, .int j], .cons (.int _) (.cons (.int _) .nil), h => exact ⟨i, j, rfl, q _ ms _ F H h R Stp.refl (.int _)⟩
theorem cal_int1 : CalD K (fun xs H Q => (∃ i, xs = [.int i] ∧ Q (.int i) H) ∨ ∃ k, xs = [.bl k] ∧ Q (.int (if k then 1 else 0)) H) cInt1 := fun F H ms vs xs P Q R r h q => by
  match xs, r, h with
  | [.int i], .cons (.int _) .nil, h => exact .inl ⟨i, rfl, q _ ms _ F H h R Stp.refl (.int _)⟩
  | [.bl i], .cons (.bl _) .nil, h => exact .inr ⟨i, rfl, q _ ms _ F H h R Stp.refl (.int _)⟩
theorem cal_len : CalD K (fun xs H Q => ∃ x n, xs = [x] ∧ LenV K x H n ∧ Q (.int n) H) cLen := fun F H ms vs xs P Q R r h q => by
  match xs, r, h with
  | a :: _ :: _, _, h => cases a <;> exact h.elim
  | [d], .cons (v := v) rd .nil, h =>
    have fin : ∀ {ys : List D}, asL d ms = some ys → P (.int ys.length) ms → ∃ x n, [v] = [x] ∧ LenV K x H n ∧ Q (.int n) H := by
      intro ys e hp
      obtain ⟨a, ws, rfl, h1, h2⟩ := R.asL rd e
      exact ⟨_, _, rfl, .inl ⟨ws, h1, rfl⟩, q _ ms _ F H (by rw [h2.length]; exact hp) R Stp.refl (.int _)⟩
    cases rd with
    | str z => exact ⟨_, _, rfl, ⟨h.1, rfl⟩, q _ ms _ F H h.2 R Stp.refl (.int _)⟩
    | tup ha hs => exact ⟨_, _, rfl, .inr ⟨_, R.sub.sqT ha, rfl⟩, q _ ms _ F H (by rw [hs.length]; exact h) R Stp.refl (.int _)⟩
    | lst ha hs => exact fin rfl h
    | fro ha hs => exact fin rfl h
    | opq _ =>
      unfold cLen at h
      simp only at h
      cases e : asL (.opq v) ms with
      | none => rw [e] at h; exact h.elim
      | some ys => rw [e] at h; exact fin e h
    | _ => exact h.elim
theorem cal_all : CalD K (rAll K) cAll := fun F H ms vs xs P Q R r h q => by
  match xs, r, h with
  | [.lst ys], .cons (.lst ha hs) .nil, h =>
    unfold cAll at h
    cases e : blsOf ys with
    | none => simp only [e] at h
    | some bs =>
      simp only [e] at h
      have e2 := hs.bls e
      subst e2
      exact ⟨_, bs, rfl, SqL.of (R.sub _ _ ha), q _ ms _ F H h R Stp.refl (.bl _)⟩
end
def Shw (d : D) : Prop := ∃ p, toPy d = some p ∧ p.showable = true ∧ p.depth ≤ 100 ∧ p.shown.length ≤ sizeLine
def repS (d : D) : Str := match toPy d with
  | some p => p.shown
  | none => default
def cRepr : CF := fun xs ms P => match xs with
  | [d] => Shw d ∧ P (.str (repS d)) ms
  | _ => False
def rRepr (K : PySem.W.Frag) : List V → Hp → VK → Prop := fun xs H Q => ∃ F x d, xs = [x] ∧ Sub F H ∧ OneR K F ∧ DR K F x d ∧ Shw d ∧ Q (.str (repS d)) H
theorem call_reprD {X : Cx} {k : Nat} (hr : RoomG k X.A) : CallR X (.builtin "repr") (rRepr X.K) := by
  intro pins s σ H xs us Q I r h
  obtain ⟨F, x, d, rfl, sb, one, hd, ⟨p, e, z1, z3, z4⟩, q⟩ := h
  obtain ⟨u, rfl, ru⟩ := vals1 r
  obtain ⟨as, rd, ou⟩ := DR.readsA I sb d p x u hd e ru
  have z2 : p.hasDict = true → sysModules ∉ as := fun _ hm => (ou _ hm).not1 one rfl
  have er : repS d = p.shown := by unfold repS; rw [e]
  rw [er] at q
  have hu : X.A.units + (p.depth + 1) < cLine := by have := hr.r.un; omega
  cases rd with
  | none => exact PySem.P.repr_of_none ⟨.str _, H, I.tok _, ⟨_, rfl⟩, q⟩
  | bool b => exact PySem.P.repr_of_bool ⟨.str _, H, I.tok _, ⟨_, rfl⟩, q⟩
  | int i t => exact PySem.P.repr_of_int (of_decide_eq_true z1) ⟨.str _, H, I.tok _, ⟨_, rfl⟩, q⟩
  | str y t => exact PySem.P.repr_of_str ⟨.str _, H, I.tok _, ⟨_, rfl⟩, q⟩ z4
  | list h1 h2 h3 h4 => exact repr_of_reads' (.list h1 h2 h3 h4) z1 z2 hr.g hu (fun _ _ e => e) (fun h' t tk hk => ⟨.str _, H, I.kept hk, ⟨_, rfl⟩, q⟩) z4
  | tuple h1 h2 h3 h4 => exact repr_of_reads' (.tuple h1 h2 h3 h4) z1 z2 hr.g hu (fun _ _ e => e) (fun h' t tk hk => ⟨.str _, H, I.kept hk, ⟨_, rfl⟩, q⟩) z4
  | dict h1 h2 h3 h4 h5 => exact repr_of_reads' (.dict h1 h2 h3 h4 h5) z1 z2 hr.g hu (fun _ _ e => e) (fun h' t tk hk => ⟨.str _, H, I.kept hk, ⟨_, rfl⟩, q⟩) z4
theorem cal_repr {K : PySem.W.Frag} : CalD K (rRepr K) cRepr := fun F H ms vs xs P Q R r h q => by
  match xs, r, h with
  | [d], .cons rd .nil, h => exact ⟨F, _, d, rfl, R.sub, R.one, rd, h.1, q _ ms _ F H h.2 R Stp.refl (.str _)⟩
inductive Ty where
  | non | bool | int | str | list | tuple | dict
  deriving DecidableEq
def Ty.nm : Ty → String
  | .non => "NoneType"
  | .bool => "bool"
  | .int => "int"
  | .str => "str"
  | .list => "list"
  | .tuple => "tuple"
  | .dict => "dict"
def tyD (d : D) : Option Ty := match d with
  | .non => some .non
  | .bl _ => some .bool
  | .int _ => some .int
  | .str _ => some .str
  | .lst _ => some .list
  | .tup _ => some .tuple
  | .edic => some .dict
  | _ => none
def subT (a b : Ty) : Bool := decide (a = b) || (decide (a = .bool) && decide (b = .int))
theorem subT_ok : ∀ a b : Ty, b ≠ .non → kitB a.nm b.nm = some (subT a b) := by
  intro a b h
  cases a <;> cases b <;> first | exact absurd rfl h | decide +kernel
def dIsi (T : Ty) (de : DE) : DE := fun ds ms P => de ds ms fun d m => match tyD d with
  | some a => P (.bl (subT a T)) m
  | none => False
theorem tyX_of {K : PySem.W.Frag} {F H : Hp} {ms : MS} {v : V} {d : D} {a : Ty} (R : Rel K F H ms) (r : DR K F v d) (h : tyD d = some a) : TyX K H v (.type a.nm) := by
  cases r with
  | non => cases h; exact .base .non
  | bl b => cases h; exact .base (.bl b)
  | int i => cases h; exact .base (.int i)
  | str x => cases h; exact .base (.str x)
  | lst ha hs => cases h; exact .base (.lst (R.sub _ _ ha))
  | tup ha hs =>
    cases h
    rcases R.sub.sqT ha with (z | ⟨o, z⟩) | ⟨o, its, n, z1, z2, _⟩
    · exact .base (.tup z)
    · exact .fTuple z
    · exact .kTuple z1 z2
  | edic ha => cases h; exact .base (.dK (R.sub _ _ ha))
  | _ => cases h
theorem pd_isi {X : Cx} {e : Expr} {de : DE} {x : Str} {p p2 pos : Pos} (T : Ty) (hT : T ≠ .non) (hg : Gl X "isinstance") (hm : X.mg "isinstance" = none) (hg2 : Gl X x) (hm2 : X.mg x = none) (hv : bootBuiltins x = some (.type T.nm)) (hn : x ≠ "__name__") (hd : (x == ("__debug__" : Str)) = false)
    (h : PD X e de) (he : starEach [e, .Name x p2] X.env = (false, eval e X.env) :: starEach [.Name x p2] X.env := by rfl) (hpl : (backTo pos (starEach [.Name x p2] X.env)).any (·.1) = false := by rfl) :
    PD X (.Call (.Name "isinstance" p) [e, .Name x p2] [] pos) (dIsi T de) :=
  peImp (pe_callB call_isi hg hm (by decide +kernel) (pa_cons h (pa_cons (pe_bltn (v := .ty T.nm) hg2 hm2 hv rfl hn hd) pa_nil) he) (by decide) (by decide) he hpl) fun σ H Q ⟨F, ds, ms, P, R, S, h1, h2⟩ =>
    ⟨F, ds, ms, _, R, S, h1, fun d m v F1 H1 p1 R1 s1 r1 => by
      cases e1 : tyD d with
      | none => rw [e1] at p1; exact p1.elim
      | some a =>
        rw [e1] at p1
        exact ⟨v, .ty T.nm, .type a.nm, .type T.nm, _, rfl, .ty _, tyX_of R1 r1 e1, kit_ty (subT_ok a T hT), h2 _ m _ F1 H1 p1 R1 s1 (.bl _)⟩⟩
abbrev DO := DS → MS → (Option Int → MS → Prop) → Prop
def liftO (K : PySem.W.Frag) (t : DO) : TO := fun σ H Q => ∃ F ds ms P, Rel K F H ms ∧ Sl K F σ ds ∧ t ds ms P ∧ ∀ o ms' F' H', P o ms' → Rel K F' H' ms' → Stp F H ms F' H' ms' → Q o H'
abbrev PDO (X : Cx) (e : Option Expr) (t : DO) : Prop := PO X e (liftO X.K t)
theorem poImp {X : Cx} {e : Option Expr} {t t' : TO} (h : PO X e t) (hi : ∀ σ H Q, t' σ H Q → t σ H Q) : PO X e t' := ⟨fun pins s σ H Q I hq => h.run pins s σ H Q I (hi σ H Q hq)⟩
def oNone : DO := fun _ ms P => P none ms
def oSome (de : DE) : DO := fun ds ms P => de ds ms fun d m => match d with
  | .int i => P (some i) m
  | _ => False
def cutL {α : Type} (xs : List α) (lo hi : Option Int) : List α := (xs.drop (HT.sIx xs.length 0 lo)).take (HT.sIx xs.length xs.length hi - HT.sIx xs.length 0 lo)
abbrev SF := D → Option Int → Option Int → MS → (D → MS → Prop) → Prop
def fSl : SF := fun x lo hi ms P => match x with
  | .str z => z.length ≤ sizeLine ∧ P (.str (cutS z lo hi)) ms
  | .tup xs => P (.tup (cutL xs lo hi)) ms
  | _ => (match asL x ms with
    | some xs => P (.lst (cutL xs lo hi)) ms
    | none => False)
def dSl (de : DE) (lo hi : DO) : DE := fun ds ms P => de ds ms fun x m1 => lo ds m1 fun l m2 => hi ds m2 fun u m3 => fSl x l u m3 P
section
variable {X : Cx} {K : PySem.W.Frag} {e : Expr} {de : DE} {lo hi : Option Expr} {tl th : DO} {p2 pos : Pos} {F : Hp}
theorem pdo_none : PDO X none oNone := poImp po_none fun σ H Q ⟨F, ds, ms, P, R, S, h1, h2⟩ => h2 none ms F H h1 R Stp.refl
theorem pdo_some (h : PD X e de) : PDO X (some e) (oSome de) := poImp (po_some h) fun σ H Q ⟨F, ds, ms, P, R, S, h1, h2⟩ =>
  ⟨F, ds, ms, _, R, S, h1, fun d m v F1 H1 p1 R1 s1 r1 => by
    cases r1 with
    | int i => exact ⟨i, rfl, h2 _ m F1 H1 p1 R1 s1⟩
    | _ => exact p1.elim⟩
theorem DRs.cut {vs : List V} {xs : List D} (r : DRs K F vs xs) (l u : Option Int) : DRs K F (cutV vs l u) (cutL xs l u) := by
  unfold cutV cutL
  rw [r.length]
  exact (r.drop _).take _
def rSlD (K : PySem.W.Frag) : V → Option Int → Option Int → Hp → VK → Prop := fun x l u H Q => rSlL K x l u H Q ∨ (rSlS x l u H Q ∨ rSlA K x l u H Q)
theorem sl_D : SlR X (rSlD X.K) := sl_list.or (sl_str.or sl_tupA)
theorem pd_slice (he : PD X e de) (hl : PDO X lo tl) (hu : PDO X hi th) : PD X (.Subscript e (.Slice lo hi none p2) pos) (dSl de tl th) := peImp (pe_slice sl_D he hl hu) fun σ H Q ⟨F, ds, ms, P, R, S, h1, h2⟩ =>
  ⟨F, ds, ms, _, R, S, h1, fun x m1 v F1 H1 p1 R1 s1 r1 => ⟨F1, ds, m1, _, R1, S.mono s1.sub, p1, fun l m2 F2 H2 p2 R2 s2 => ⟨F2, ds, m2, _, R2, S.mono (s1.trans s2).sub, p2, fun u m3 F3 H3 p3 R3 s3 => by
    have s13 := (s1.trans s2).trans s3
    have r3 := (r1.mono s2.sub).mono s3.sub
    have lst : ∀ {xs : List D}, asL x m3 = some xs → P (.lst (cutL xs l u)) m3 → rSlD X.K v l u H3 Q := by
      intro xs e1 hp
      obtain ⟨a, ws, rfl, z1, z2⟩ := R3.asL r3 e1
      exact .inl ⟨a, ws, rfl, z1, fun p hp2 => h2 _ m3 _ _ _ hp (R3.new hp2) (s13.trans (Stp.new R3 hp2)) (R3.newLst hp2 (z2.cut l u))⟩
    cases r3 with
    | str z => exact .inr (.inl ⟨z, rfl, p3.1, h2 _ m3 _ F3 H3 p3.2 R3 s13 (.str _)⟩)
    | tup ha hs =>
      refine .inr (.inr ⟨_, _, rfl, R3.sub.sqT ha, fun e => ?_, fun _ p hp2 => h2 _ m3 _ _ _ p3 (R3.new hp2) (s13.trans (Stp.new R3 hp2)) (R3.newTup hp2 (hs.cut l u))⟩)
      have p3 : P (.tup (cutL _ l u)) m3 := p3
      unfold cutL at p3
      rw [hs.length] at e
      rw [e.1, e.2, List.drop_zero, Nat.sub_zero, List.take_length] at p3
      exact h2 _ m3 _ F3 H3 p3 R3 s13 (.tup ha hs)
    | lst ha hs => exact lst rfl p3
    | fro ha hs => exact lst rfl p3
    | opq _ =>
      unfold fSl at p3
      simp only at p3
      cases e1 : asL (.opq v) m3 with
      | none => rw [e1] at p3; exact p3.elim
      | some xs => rw [e1] at p3; exact lst e1 p3
    | _ => exact p3.elim⟩⟩⟩
end
end DL
namespace DL
open PySem PySem.Spec PyProof.Rows L2
theorem bnd_of {K : PySem.W.Frag} {x qual : Str} {st : Stmt} {f : Addr} {fd : FuncData} {ps ks : List Str} {n : Nat} {is : List Nat} (F : Fun K x qual st f fd)
    (h : ∀ (kV doc pm : Value) (an : Option Addr) (cdv ct : Value) (us ws : List Value), us.length = n → ws.length = ks.length →
      bindArgs (PySem.W.fnOf x qual (defArgs st) (defBody st) (defScope st) .none kV doc pm an cdv ct) ⟨us, ks.zip ws⟩ = pure (ps.zip (pick is (us ++ ws)))) : Bnd K fd ps n ks is := by
  obtain ⟨oc, od, kV, doc, pm, an, cdv, ct, osl, e, lk, hcd⟩ := F.ex
  subst e
  exact ⟨fun s us ws _ h1 h2 => .of_eq (h kV doc pm an cdv ct us ws h1 h2)⟩
/-- the law's call at the heap behind the top -/
theorem lawG {P : Program} {w : World} {K : PySem.W.Frag} {mg mb : Str → Option Value} {k : Nat} {fa a : Addr} {fd : FuncData} {x : Str} {sp : Sp} {s1 : Shared} {vs : List Value} {ns : List Int}
    (KX : K.In s1.heap) (hns : s1.heap.Ns mainGlobals mg) (hb : s1.heap.Ns builtinsNs mb) (hk1 : K.lookup sysModules = none) (hs1 : s1.heap.NoSeer)
    (hbb : ∀ x : Str, x ≠ "__name__" → mb x = bootBuiltins x) (hlim : s1.heap.NoLimit) (hg : s1.gens = #[])
    (ha : s1.heap.get? a = some { cls := .type "list", data := .seq vs.toArray })
    (hi : IntsAre vs ns) (hl : ns.length ≤ sizeLine) (hr : Room k callerA)
    (G : ∀ base : Heap, K.In base → base.Ns mainGlobals mg → FnG P w K mg base k fa fd [x] sp)
    (hbind : ∀ (s : Shared) (u : Value), BindsTo s fd ⟨[u], []⟩ [(x, u)])
    (hsp : ∀ H : Hp, OneR K H → SqL K H a (ns.map V.int) → sp [.ref a] H (fun v _ => v = .bl true) E0) :
    codeAny (model P w) callerA (.call (.ref fa) ⟨[.ref a], []⟩)
      (fun r s' => r = .ok (.ret (.bool true)) ∧ OldK s1.heap s'.heap ∧ s'.os = s1.os ∧ AllBare s'.gens) s1 := by
  have rv : Vals (ns.map V.int) vs := vals_ints hi
  have lenV := hi.length
  obtain ⟨mm, ⟨om, esm, epm, hom, hdm, _⟩, _⟩ := hs1.mods
  have a1 : a ≠ sysModules := fun z => by
    rw [z, hom] at ha
    cases ha
    cases hdm
  have core : ∀ H : Hp, (∀ b, H b = none ∨ ∃ o u, H b = some (.frz o u)) → OneR K H → SqL K H a (ns.map V.int) → HOk P w H s1.heap → (∀ b, H b ≠ none → b = a ∨ b = sysModules) → (H a ≠ none → K.lookup a = none) →
      codeAny (model P w) callerA (.call (.ref fa) ⟨[.ref a], []⟩)
        (fun r s' => r = .ok (.ret (.bool true)) ∧ OldK s1.heap s'.heap ∧ s'.os = s1.os ∧ AllBare s'.gens) s1 := by
    intro H hO h1 hS hok hA hK
    have noA : ∀ {b : Addr} {o : Obj} {es : Array DictEntry} {ep : Nat}, b ≠ sysModules → s1.heap.get? b = some o → o.data = .dict es ep → H b = none := by
      intro b o es ep hb e d
      cases q : H b with
      | none => rfl
      | some u =>
        have e' : b = a := (hA b (by rw [q]; exact nofun)).resolve_right hb
        rw [e', ha] at e
        cases e
        cases d
    have nsK : ∀ {b : Addr} {m : Str → Option Value}, b ≠ sysModules → s1.heap.Ns b m → (hidT s1.heap H).Ns b m := by
      rintro b m hb ⟨o, es, ep, e, d, r⟩
      exact ⟨o, es, ep, hidT_get e (noA hb e d), d, r⟩
    have hKb : K.In (hidT s1.heap H) := by
      intro b o e
      refine hidT_get (KX b o e) ?_
      cases q : H b with
      | none => rfl
      | some u =>
        have nq : H b ≠ none := by rw [q]; exact nofun
        rcases hA b nq with e' | e'
        · rw [e'] at e nq
          rw [hK nq] at e
          cases e
        · rw [e', hk1] at e
          cases e
    have hM : Mod K mg (hidT s1.heap H) := by
      obtain ⟨mc, h1, h2⟩ := hlim
      exact ⟨hKb, nsK (by decide) hns, ⟨mb, nsK (by decide) hb, hbb⟩, ⟨mc, nsK (by decide) h1, h2⟩⟩
    have e0 : Env0 P w K mg (hidT s1.heap H) callerA [] s1 H := by
      refine ⟨rfl, hM, fun b o e => of_hidT e, Nat.le_of_eq (hidT_size _ _), trivial, fun b hb => ?_, hok, .of_eq hg⟩
      cases hb
    have run := (G _ hKb (nsK (by decide) hns)).go callerA [] s1 H ⟨[.ref a], []⟩ [.ref a] [.ref a] _ ⟨hr, rfl⟩ e0 (hbind s1 (.ref a)) (.cons rfl .nil) (hsp H h1 hS)
    refine codeAny_mono run fun r s' h => ?_
    match r, h with
    | .error e, h => exact h.elim
    | .ok .next, h => exact False.elim h
    | .ok .brk, h => exact False.elim h
    | .ok .cont, h => exact False.elim h
    | .ok (.ret u), h =>
      obtain ⟨v, H', os, bare, un, hok', r', q⟩ := h
      have q' : v = .bl true := q
      subst q'
      have r2 : u = Value.bool true := r'
      subst r2
      refine ⟨rfl, OldK.of_keep fun b o e => ?_, os, bare⟩
      cases q : H b with
      | none => exact un.keep b o e q (fun z => by cases z) (fun z => by cases z)
      | some u =>
        rcases hO b with z | ⟨ob, xs, z⟩
        · rw [q] at z; cases z
        · obtain ⟨e1, _⟩ := hok b _ z
          obtain ⟨e2, _⟩ := hok' b _ (un.frzs b ob _ z)
          rw [e] at e1
          cases e1
          exact e2
  have o1 : ∀ H : Hp, H sysModules = some (.frz om (.ext fun h => h.get? sysModules = some om)) → ObjOk P w H s1.heap sysModules (.frz om (.ext fun h => h.get? sysModules = some om)) := fun H _ =>
    ⟨hom, hom, ⟨om, hom⟩, fun h1 h2 z k => k _ z⟩
  cases hk : K.lookup a with
  | some o =>
    have e := KX a o hk
    rw [ha] at e
    cases e
    have hH : ∀ b u, (if b = sysModules then some (HO.frz om (.ext fun h => h.get? sysModules = some om)) else none) = some u → b = sysModules ∧ u = HO.frz om (.ext fun h => h.get? sysModules = some om) := by
      intro b u z
      by_cases hb : b = sysModules
      · rw [if_pos hb] at z; cases z; exact ⟨hb, rfl⟩
      · rw [if_neg hb] at z; cases z
    refine core (fun b => if b = sysModules then some (.frz om (.ext fun h => h.get? sysModules = some om)) else none) (fun b => ?_) ⟨hk1, om, _, if_pos rfl⟩ (.inr ⟨_, vs.toArray, _, hk, rfl, rfl, rfl, ?_, ?_⟩) (fun b u z => ?_) (fun b z => ?_) fun z => absurd (if_neg a1) z
    · by_cases hb : b = sysModules
      · exact .inr ⟨_, _, if_pos hb⟩
      · exact .inl (if_neg hb)
    · rw [List.size_toArray, lenV]; exact hl
    · rw [List.toList_toArray]; exact rv
    · obtain ⟨rfl, rfl⟩ := hH b u z
      exact o1 _ (if_pos rfl)
    · cases q : (if b = sysModules then some (HO.frz om (.ext fun h => h.get? sysModules = some om)) else none) with
      | none => exact absurd q z
      | some u => exact .inr (hH b u q).1
  | none =>
    have hH : ∀ b u, (if b = a then some (HO.frz { cls := .type "list", data := .seq vs.toArray } (.lst (ns.map V.int))) else if b = sysModules then some (HO.frz om (.ext fun h => h.get? sysModules = some om)) else none) = some u →
        (b = a ∧ u = HO.frz { cls := .type "list", data := .seq vs.toArray } (.lst (ns.map V.int))) ∨ (b = sysModules ∧ u = HO.frz om (.ext fun h => h.get? sysModules = some om)) := by
      intro b u z
      by_cases hb : b = a
      · rw [if_pos hb] at z; cases z; exact .inl ⟨hb, rfl⟩
      · rw [if_neg hb] at z
        by_cases hb2 : b = sysModules
        · rw [if_pos hb2] at z; cases z; exact .inr ⟨hb2, rfl⟩
        · rw [if_neg hb2] at z; cases z
    refine core (fun b => if b = a then some (.frz { cls := .type "list", data := .seq vs.toArray } (.lst (ns.map V.int))) else if b = sysModules then some (.frz om (.ext fun h => h.get? sysModules = some om)) else none) (fun b => ?_) ⟨hk1, om, _, (if_neg a1.symm).trans (if_pos rfl)⟩ (.inl (.inr ⟨_, if_pos rfl⟩)) (fun b u z => ?_) (fun b z => ?_) fun _ => hk
    · by_cases hb : b = a
      · exact .inr ⟨_, _, if_pos hb⟩
      · by_cases hb2 : b = sysModules
        · exact .inr ⟨_, _, (if_neg hb).trans (if_pos hb2)⟩
        · exact .inl ((if_neg hb).trans (if_neg hb2))
    · rcases hH b u z with ⟨rfl, rfl⟩ | ⟨rfl, rfl⟩
      · refine ⟨ha, ?_, vs, _, rv, ha⟩
        rw [List.length_map]; exact hl
      · exact o1 _ z
    · cases q : (if b = a then some (HO.frz { cls := .type "list", data := .seq vs.toArray } (.lst (ns.map V.int))) else if b = sysModules then some (HO.frz om (.ext fun h => h.get? sysModules = some om)) else none) with
      | none => exact absurd q z
      | some u => exact (hH b u q).imp (·.1) (·.1)
/-- what the head leaves, from the law's promise -/
theorem walkG {l : PySem.W.OpenLaw} {n k : Nat} {q : Program} {loose : List Str} {XP : (Str → Option Value) → Heap → Prop} {YP : World → Heap → Prop} {d : DefRec} {K : Params → PySem.W.Frag} {fs : FS} {x : Str}
    (hn : l.most = some n) (hn2 : n ≤ sizeLine) (hdf : d.params.defaults = []) (hr : Room k callerA) (hq : importsNone q = true) (hK1 : ∀ p : Params, (K p).lookup sysModules = none)
    (hY : ∀ (w : World) (h : Heap), YP w h → (K w.params).In h)
    (G : ∀ (w : World) (mg : Str → Option Value) (fa : Addr) (h : Heap), (K w.params).In h → h.Ns mainGlobals mg → mg d.name = some (.ref fa) →
      ∃ fd : FuncData, (∀ (s : Shared) (u : Value), BindsTo s fd ⟨[u], []⟩ [(x, u)]) ∧
        ∀ base : Heap, (K w.params).In base → base.Ns mainGlobals mg → FnG l.prog w (K w.params) mg base k fa fd [x] (spD (K w.params) fs))
    (hsp : ∀ ns : List Int, ns.length ≤ n → fs [.fro (ns.map D.int)] [] (fun v _ => v = .bl true)) :
    PySem.W.WalkO q loose XP YP l.row.toRowW d [] (fun f vs => PySem.call f vs) := by
  refine Att.attach_call hn hdf ?_
  intro w s0 s1 mg mb fa o pm cd doc a vs ns Gr Y ho hd hcd hmg hobj hints hlen hg
  have KX := hY w _ Y
  obtain ⟨fd, hb, hF⟩ := G w mg fa _ KX Gr.T.g hmg
  refine lawG KX Gr.T.g Gr.T.b (hK1 _) (Gr.T.seer hq) Gr.T.builtins Gr.T.nolimit hg hobj hints (Nat.le_trans hlen hn2) hr hF hb fun H h1 hS => ?_
  refine ⟨H, [.fro (ns.map D.int)], [], _, ⟨Sub.refl H, fun p hp => (by cases hp), List.nodup_nil, h1⟩, .cons (.fro hS (DRs.ints ns)) .nil, hsp ns hlen, ?_⟩
  intro e m v F' H' z R s r
  subst z
  cases r
  rfl
end DL
namespace DL
open PySem PySem.Spec PyProof.Rows L2
abbrev ZK := Str → List Str → List D → MS → Prop
abbrev FX := List D → MS → (D → MS → Prop) → ZK → Prop
def spX (K : PySem.W.Frag) (fs : FX) : Sp := fun vs H Q E => ∃ F ds ms P Z, Rel K F H ms ∧ DRs K F vs ds ∧ fs ds ms P Z ∧
  (∀ d ms' v F' H', P d ms' → Rel K F' H' ms' → Stp F H ms F' H' ms' → DR K F' v d → Q v H') ∧
  (∀ c ns xs ms' cv d ws F' H', Z c ns xs ms' → Rel K F' H' ms' → Stp F H ms F' H' ms' → PySem.W.nsIn K mainGlobals c = some (some cv) → XD F' d ns ws → DRs K F' ws xs → E cv d H')
structure FnX (P : Program) (w : World) (K : PySem.W.Frag) (mg : Str → Option Value) (base : Heap) (k : Nat) (f : Addr) (fd : FuncData) (ps : List Str) (sp : Sp) : Prop where
  len : ∀ vs H Q E, sp vs H Q E → vs.length = ps.length
  go : ∀ (A : Around) (outer : List Env) (s : Shared) (H : Hp) (args : Args) (us : List Value) (vs : List V) (Q : VK) (E : XK), RoomG k A → Env0 P w K mg base A outer s H →
    BindsTo s fd args (ps.zip us) → Vals vs us → sp vs H Q E → codeAny (model P w) A (.call (.ref f) args) (CR (L2.CX P w) outer P w H s Q E) s
/-- where nothing is raised -/
theorem FnX.plain {P : Program} {w : World} {K : PySem.W.Frag} {mg : Str → Option Value} {base : Heap} {k : Nat} {f : Addr} {fd : FuncData} {ps : List Str} {fx : FX} {fs : FS}
    (F : FnX P w K mg base k f fd ps (spX K fx)) (h : ∀ ds ms P, fs ds ms P → fx ds ms P fun _ _ _ _ => False) : FnG P w K mg base k f fd ps (spD K fs) := by
  have hc : ∀ vs H Q E, spD K fs vs H Q E → spX K fx vs H Q E0 := fun vs H Q E ⟨F0, ds, ms, P0, R, r, q, z⟩ => ⟨F0, ds, ms, P0, _, R, r, h _ _ _ q, z, fun _ _ _ _ _ _ _ _ _ y => y.elim⟩
  refine ⟨fun vs H Q E q => F.len vs H Q E0 (hc vs H Q E q), fun A outer s H args us vs Q hr e0 hb r q => ?_⟩
  refine codeAny_mono (F.go A outer s H args us vs Q E0 hr e0 hb r (hc vs H Q E0 q)) fun r s' z => ?_
  match r, z with
  | .ok (.ret _), z => exact z
  | .ok .next, z => exact z
  | .ok .brk, z => exact z
  | .ok .cont, z => exact z
  | .error e, z =>
    obtain ⟨_, _, _, _, _, _, _, _, _, _, _, _, y⟩ := z
    exact y.elim
def liftX (K : PySem.W.Frag) (W : WX) (t : DTS) : TS := fun D σ H => ∃ F ds ms E, Rel K F H ms ∧ Sl K F σ ds ∧ t E ds ms ∧
  (∀ ds' ms' σ' F' H', E.nx ds' ms' → Rel K F' H' ms' → Stp F H ms F' H' ms' → Sl K F' σ' ds' → D.nx σ' H') ∧
  (∀ d ms' v F' H', E.rt d ms' → Rel K F' H' ms' → Stp F H ms F' H' ms' → DR K F' v d → D.rt v H') ∧
  (∀ ds' ms' σ' F' H', E.bk ds' ms' → Rel K F' H' ms' → Stp F H ms F' H' ms' → Sl K F' σ' ds' → D.bk σ' H') ∧
  (∀ ds' ms' σ' F' H', E.ct ds' ms' → Rel K F' H' ms' → Stp F H ms F' H' ms' → Sl K F' σ' ds' → D.ct σ' H') ∧
  (∀ c ns xs ds' ms' cv d ws σ' F' H', E.ex c ns xs ds' ms' → Rel K F' H' ms' → Stp F H ms F' H' ms' → Sl K F' σ' ds' → PySem.W.nsIn K mainGlobals c = some (some cv) → XD F' d ns ws → DRs K F' ws xs → W cv d σ' H')
abbrev PX (X : Cx) (W : WX) (st : Stmt) (t : DTS) : Prop := PS X st (liftX X.K W t)
abbrev PXs (X : Cx) (W : WX) (st : List Stmt) (t : DTS) : Prop := PSs X st (liftX X.K W t)
section
variable {X : Cx} {W : WX} {st : Stmt} {rest : List Stmt} {t u : DTS} {c : Expr} {dt : DT} {pos : Pos}
/-- a statement that raises nothing -/
theorem px_of (h : PDS X st t) : PX X W st t := psImp h fun D σ H ⟨F, ds, ms, E, R, S, h, n, r, k, q, _⟩ => ⟨F, ds, ms, E, R, S, h, n, r, k, q⟩
theorem px_nil : PXs X W [] dNext := pssImp pss_nil fun D σ H ⟨F, ds, ms, E, R, S, h, n, _⟩ => n ds ms σ F H h R Stp.refl S
theorem liftX_seq {K : PySem.W.Frag} : ∀ D σ H, liftX K W (dSeq t u) D σ H → tSeq (liftX K W t) (liftX K W u) D σ H := fun D σ H ⟨F, ds, ms, E, R, S, h, n, r, k, q, x⟩ =>
  ⟨F, ds, ms, { E with nx := u E }, R, S, h, fun ds1 m1 σ1 F1 H1 h1 R1 s1 S1 => ⟨F1, ds1, m1, E, R1, S1, h1,
    fun ds2 m2 σ2 F2 H2 h2 R2 s2 S2 => n ds2 m2 σ2 F2 H2 h2 R2 (s1.trans s2) S2, fun d m2 v F2 H2 h2 R2 s2 r2 => r d m2 v F2 H2 h2 R2 (s1.trans s2) r2,
    fun ds2 m2 σ2 F2 H2 h2 R2 s2 S2 => k ds2 m2 σ2 F2 H2 h2 R2 (s1.trans s2) S2, fun ds2 m2 σ2 F2 H2 h2 R2 s2 S2 => q ds2 m2 σ2 F2 H2 h2 R2 (s1.trans s2) S2,
    fun c ns xs ds2 m2 cv d ws σ2 F2 H2 h2 R2 s2 S2 => x c ns xs ds2 m2 cv d ws σ2 F2 H2 h2 R2 (s1.trans s2) S2⟩, r, k, q, x⟩
theorem px_cons (h1 : PX X W st t) (h2 : PXs X W rest u) : PXs X W (st :: rest) (dSeq t u) := pssImp (pss_cons h1 h2) liftX_seq
theorem px_one (h1 : PX X W st t) : PXs X W [st] t := pss_one h1
theorem px_if {x y : List Stmt} (hc : PDT X c dt) (ha : PXs X W x t) (hb : PXs X W y u) : PX X W (.If c x y pos) (dIfS dt t u) := psImp (ps_if hc ha hb) fun D σ H ⟨F, ds, ms, E, R, S, h, n, r, k, q, x⟩ =>
  ⟨F, ds, ms, _, R, S, h, fun b m F1 H1 p1 R1 s1 => by
    have mk : ∀ {w : DTS}, w E ds m → liftX X.K W w D σ H1 := fun {w} hw => ⟨F1, ds, m, E, R1, S.mono s1.sub, hw,
      fun ds2 m2 σ2 F2 H2 h2 R2 s2 S2 => n ds2 m2 σ2 F2 H2 h2 R2 (s1.trans s2) S2, fun d m2 v F2 H2 h2 R2 s2 r2 => r d m2 v F2 H2 h2 R2 (s1.trans s2) r2,
      fun ds2 m2 σ2 F2 H2 h2 R2 s2 S2 => k ds2 m2 σ2 F2 H2 h2 R2 (s1.trans s2) S2, fun ds2 m2 σ2 F2 H2 h2 R2 s2 S2 => q ds2 m2 σ2 F2 H2 h2 R2 (s1.trans s2) S2,
      fun c ns xs ds2 m2 cv d ws σ2 F2 H2 h2 R2 s2 S2 => x c ns xs ds2 m2 cv d ws σ2 F2 H2 h2 R2 (s1.trans s2) S2⟩
    cases b with
    | true => exact mk p1
    | false => exact mk p1⟩
/-- raise X('..'), X an own class without an __init__ -/
def dRaise (c : Str) : DTS := fun E ds ms => E.ex c [] [] ds ms
theorem px_raise {C : Addr} {bmB : List Value} {B newId initId : String} {x m : Str} {j : Nat} {p p2 pos pos' : Pos} (hc : X.calm = true) (tk : Takes X W) (F : ExcBaseFacts B newId initId bmB) (q : PySem.W.excIn X.K C bmB newId = true) (gC : X.mg x = some (.ref C)) (kC : PySem.W.keepIn X.K (.ref C) = true)
    (r : Raises X (.ref C)) (hg : Gl X x) (hn : PySem.W.nsIn X.K mainGlobals x = some (some (.ref C))) (hdb : (x == ("__debug__" : Str)) = false := by decide) :
    PX X W (.Raise (some (.Call (.Name x p) [.Constant (.str m) j p2] [] pos)) none pos') (dRaise x) :=
  psImp (ps_raise hc tk (pmk_own F q gC kC r hg hdb)) fun D σ H ⟨F0, ds, ms, E, R, S, h, _, _, _, _, z⟩ => z x [] [] ds ms _ none [] σ F0 H h R Stp.refl S hn (.inl ⟨rfl, rfl, rfl⟩) .nil
end
section
variable {X : Cx} {W : WX} {k n : Nat} {f : Addr} {fd : FuncData} {ps ks : List Str} {is : List Nat} {sp : Sp} {fx : FX} {x : Str} {p pos kpos : Pos} {e : Expr} {es : List Expr} {aa : DA}
/-- f(..) as a statement -/
def dDoX (n : Nat) (is : List Nat) (fx : FX) (aa : DA) : DTS := fun E ds ms => aa ds ms fun xs m => xs.length = n ∧ fx (pick is xs) m (fun _ m' => E.nx ds m') fun c ns ys m' => E.ex c ns ys ds m'
end
end DL
namespace DL
open PySem PySem.Spec PyProof.Rows L2
theorem fnX_of {P : Program} {w : World} {K : PySem.W.Frag} {mg : Str → Option Value} {base : Heap} {k : Nat} {f : Addr} {fd : FuncData} {x qual : Str} {st : Stmt} {N ps : List Str} {fx : FX} {t : DTS}
    (F : Fun K x qual st f fd) (S : FnScope N ps (defScope st)) (len : ∀ ds ms Q Z, fx ds ms Q Z → ds.length = ps.length)
    (body : ∀ (cdv : Value) (A : Around) (outer : List Env) (s : Shared) (H : Hp) (E : XK), RoomG k (A.deeper (envOfC qual (defScope st) s.heap.objs.size f cdv)) →
      ∀ W : WX, Takes (cxOf (L2.CX P w) P w K mg base N qual (defScope st) f cdv A outer s H E) W → PXs (cxOf (L2.CX P w) P w K mg base N qual (defScope st) f cdv A outer s H E) W (defBody st) t)
    (sem : ∀ ds ms Q Z, fx ds ms Q Z → t { nx := fun _ m => Q .non m, rt := Q, ex := fun c ns xs _ m => Z c ns xs m } (startD N.length ds) ms) : FnX P w K mg base (k + 1) f fd ps (spX K fx) := by
  have hlen : ∀ vs H Q E, spX K fx vs H Q E → vs.length = ps.length := by
    rintro vs H Q E ⟨F0, ds, ms, P0, Z, R, r, h, _⟩
    rw [r.length]
    exact len ds ms P0 Z h
  refine ⟨hlen, ?_⟩
  intro A outer s H args us vs Q E hr e0 hb r hsp
  obtain ⟨oc, od, kV, doc, pm, an, cdv, ct, osl, rfl, lk, hcd⟩ := F.ex
  have hl := hlen _ _ _ _ hsp
  have KX : K.In s.heap := e0.mod.kin.keeps fun b o e => (e0.bs b o e).1
  have lim : s.heap.NoLimit := e0.mod.nolimit.keeps fun b o e => (e0.bs b o e).1
  have hkind : ∀ y ∈ ps.zip us, (defScope st).names.lookup y.1 = some .local ∨ ((defScope st).names.lookup y.1 = some .cell ∧
      ((cellsFrom (s.heap.objs.size + 1) (defScope st).names []).lookup y.1).isSome = true) := by
    rintro ⟨n, v⟩ hy
    exact (S.par n (List.of_mem_zip hy).1).imp id fun q => ⟨q, PySem.W.cellsFrom_some _ _ _ (.inl q)⟩
  have hr2 : RoomG k (A.deeper (envOfC qual (defScope st) s.heap.objs.size f cdv)) := ⟨hr.r.deeper _, hr.g⟩
  refine codeAny_call_function hr.r.depth (KX _ _ lk) rfl S.co S.gen rfl (PySem.W.codeRec_of KX hcd) (hb _ _ _ _ ?_)
  refine wpAny_newFunctionEnv_cells S.kind hkind fun env he s1 x1 => ?_
  subst he
  refine ⟨lim.keeps x1.toInCall.keep, codeAny_func ?_⟩
  have I : Inv (cxOf (L2.CX P w) P w K mg base N qual (defScope st) f cdv A outer s H E) [] (L2.start N vs) H s1 := inv_start S hr.r.hd e0 hl r x1
  have tk : Takes (cxOf (L2.CX P w) P w K mg base N qual (defScope st) f cdv A outer s H E) fun cls d _ H' => E cls d H' := takes_of rfl rfl rfl rfl
  have hq : liftX K (fun cls d _ H' => E cls d H') t { nx := fun _ H' => Q .non H', rt := Q } (L2.start N vs) H := by
    obtain ⟨F0, ds, ms, P0, Z, R, rd, h, q, z⟩ := hsp
    refine ⟨F0, startD N.length ds, ms, _, R, sl_start rd (by rw [hl, ← S.pre]; exact List.length_take_le' _ _), sem ds ms P0 Z h, ?_, ?_, ?_, ?_, ?_⟩
    · exact fun ds' ms' σ' F' H' y R' s' S' => q .non ms' .non F' H' y R' s' .non
    · exact fun d ms' v F' H' y R' s' r' => q d ms' v F' H' y R' s' r'
    · exact fun _ _ _ _ _ y _ _ _ => y.elim
    · exact fun _ _ _ _ _ y _ _ _ => y.elim
    · exact fun c ns xs ds' ms' cv d ws σ' F' H' y R' s' S' hn hx hd => z c ns xs ms' cv d ws F' H' y R' s' hn hx hd
  refine wpAny_mono ((body cdv A outer s H E hr2 _ tk).run [] s1 (L2.start N vs) H _ I hq) (fun fl s' hs => ?_) fun e s' hs => hs
  match fl, hs with
  | .ret u, hs =>
    obtain ⟨v, σ', H', J, rv, q⟩ := hs
    exact ⟨v, H', J.os, J.bare, J.base, J.hok, rv, q⟩
  | .next, hs =>
    obtain ⟨σ', H', J, q⟩ := hs
    exact ⟨V.non, H', J.os, J.bare, J.base, J.hok, rfl, q⟩
  | .brk, hs => obtain ⟨_, _, _, q⟩ := hs; exact False.elim q
  | .cont, hs => obtain ⟨_, _, _, q⟩ := hs; exact False.elim q
end DL
namespace DL
open PySem PySem.Spec PyProof.Rows L2
theorem Sl.off {K : PySem.W.Frag} {F : Hp} {o : Option V} : ∀ {σ : L2.St} {ds : DS} (i : Nat), Sl K F σ ds → Sl K F (σ.set i o) (ds.set i none)
  | _, _, i, .nil => by cases i <;> exact .nil
  | _, _, 0, .sm _ r => .nn r
  | _, _, 0, .nn r => .nn r
  | _, _, i + 1, .sm q r => .sm q (Sl.off i r)
  | _, _, i + 1, .nn r => .nn (Sl.off i r)
/-- try: body, except x as n: y = n; ml: of each class that may come whether the clause takes it -/
def dTry (ml : List (Str × Bool)) (i j : Nat) (tb : DTS) : DTS := fun E ds ms => tb { E with ex := fun c ns xs ds' ms' => match ml.lookup c with
  | some true => E.nx ((setSlot ds' j (.exc c ns xs)).set i none) ms'
  | some false => E.ex c ns xs ds' ms'
  | none => False } ds ms
def dTry0 (ml : List (Str × Bool)) (i j : Nat) (tb : DTS) : DTS := fun E ds ms => dTry ml i j tb { E with ex := fun _ _ _ _ _ => False } ds ms
structure ExF (K : PySem.W.Frag) (c : Str) (C : Addr) (bmB : List Value) (newId : String) : Prop where
  ns : PySem.W.nsIn K mainGlobals c = some (some (.ref C))
  ex : PySem.W.excIn K C bmB newId = true
  kp : PySem.W.keepIn K (.ref C) = true
  sb : PySem.W.subIn K (.ref C) (.type "BaseException") = some true
  ty : PySem.W.typeIn K (.ref C) = some (.type "type")
  cc : ExcC K C
theorem px_raiseF {X : Cx} {W : WX} {C : Addr} {bmB : List Value} {B newId initId : String} {x m : Str} {j : Nat} {p p2 pos pos' : Pos} (hc : X.calm = true) (tk : Takes X W) (F : ExcBaseFacts B newId initId bmB) (E : ExF X.K x C bmB newId) (gC : X.mg x = some (.ref C)) (hg : Gl X x)
    (hdb : (x == ("__debug__" : Str)) = false := by decide) : PX X W (.Raise (some (.Call (.Name x p) [.Constant (.str m) j p2] [] pos)) none pos') (dRaise x) :=
  px_raise hc tk F E.ex gC E.kp (raises_own E.sb E.ty) hg E.ns hdb
abbrev MlE (K : PySem.W.Frag) (cl : Value) (ml : List (Str × Bool)) : Prop := ∀ c b cv, ml.lookup c = some b → PySem.W.nsIn K mainGlobals c = some (some cv) → PySem.W.exmOne K cv cl = some b
theorem mlE_nil {K : PySem.W.Frag} {cl : Value} : MlE K cl [] := fun c b cv h _ => by cases h
theorem ml_split {c c1 : Str} {b b1 : Bool} {ml : List (Str × Bool)} (h : ((c1, b1) :: ml).lookup c = some b) : (c = c1 ∧ b = b1) ∨ ml.lookup c = some b := by
  rw [List.lookup_cons] at h
  split at h
  · rename_i e
    cases h
    exact .inl ⟨beq_iff_eq.mp e, rfl⟩
  · exact .inr h
end DL
namespace DL
open PySem PySem.Spec PyProof.Rows L2
def nonD : D → Option Bool
  | .non => some true
  | .opq (.ref _) => some false
  | .opq _ => none
  | _ => some false
def fIsB (neg : Bool) : OF := fun x y ms P => match y with
  | .bl b => (match x with
    | .bl a => P (.bl (Bool.xor neg (decide (a = b)))) ms
    | _ => False)
  | .non => (match nonD x with
    | some z => P (.bl (Bool.xor neg z)) ms
    | none => False)
  | _ => False
def fIs : OF := fIsB false
def fNotIs : OF := fIsB true
def rIsD (neg : Bool) : R2 := fun x y H Q => (∃ a b, x = .bl a ∧ y = .bl b ∧ Q (.bl (Bool.xor neg (decide (a = b)))) H) ∨ (y = .non ∧ Q (.bl (Bool.xor neg (decide (x = .non)))) H)
theorem op_isD {X : Cx} : OpR X (compareOp .Is) (rIsD false) := by
  intro pins s σ H x y v u Q I rx ry h
  rcases h with ⟨a, b, e1, e2, q⟩ | ⟨e, q⟩
  · exact op_is_bl pins s σ H x y v u Q I rx ry ⟨a, b, e1, e2, by simpa using q⟩
  · exact op_isN pins s σ H x y v u Q I rx ry ⟨e, by simpa using q⟩
theorem op_notIsD {X : Cx} : OpR X (compareOp .IsNot) (rIsD true) := by
  intro pins s σ H x y v u Q I rx ry h
  rcases h with ⟨a, b, e1, e2, q⟩ | ⟨e, q⟩
  · exact op_isnot_bl pins s σ H x y v u Q I rx ry ⟨a, b, e1, e2, by simpa using q⟩
  · exact op_notN pins s σ H x y v u Q I rx ry ⟨e, by simpa using q⟩
theorem nonD_ok {K : PySem.W.Frag} {F : Hp} {x : V} {d : D} {b : Bool} (r : DR K F x d) (h : nonD d = some b) : decide (x = .non) = b := by
  cases r with
  | opq => cases x <;> cases h <;> first | rfl | decide | simp
  | _ => cases h <;> first | rfl | decide | simp
theorem opd_isB {K : PySem.W.Frag} {neg : Bool} : OpD K (rIsD neg) (fIsB neg) := fun F H ms x y dx dy P Q R rx ry h q => by
  cases ry with
  | bl b =>
    cases rx with
    | bl a => exact .inl ⟨a, b, rfl, rfl, q _ ms _ F H h R Stp.refl (.bl _)⟩
    | _ => exact False.elim h
  | non =>
    cases e : nonD dx with
    | none => unfold fIsB at h; simp only [e] at h
    | some z =>
      unfold fIsB at h
      simp only [e] at h
      refine .inr ⟨rfl, ?_⟩
      rw [nonD_ok rx e]
      exact q _ ms _ F H h R Stp.refl (.bl _)
  | _ => exact False.elim h
theorem opd_is {K : PySem.W.Frag} : OpD K (rIsD false) fIs := opd_isB
theorem opd_notIs {K : PySem.W.Frag} : OpD K (rIsD true) fNotIs := opd_isB
def InOk (x : D) (ys : List D) (neg : Bool) (ms : MS) (P : D → MS → Prop) : Prop := ∃ p ps, toPy x = some p ∧ toPys ys = some ps ∧ p.canLay0 = true ∧ p.depth ≤ 60 ∧ PyData.canLayAll0 ps = true ∧ P (.bl (Bool.xor neg (ps.any fun z => PyData.eqv z p))) ms
def fInB (neg : Bool) : OF := fun x y ms P => match y with
  | .lst ys => InOk x ys neg ms P
  | .tup ys => InOk x ys neg ms P
  | _ => False
def fIn : OF := fInB false
def fNotIn : OF := fInB true
def rInF (K : PySem.W.Frag) (neg : Bool) : R2 := fun x y H Q => ∃ F dx dy ms P, Sub F H ∧ DR K F x dx ∧ DR K F y dy ∧ fInB neg dx dy ms P ∧ ∀ b, P (.bl b) ms → Q (.bl b) H
theorem op_inF {X : Cx} (hu : X.A.units + 64 < cLine) : OpR X (compareOp .In) (rInF X.K false) := by
  intro pins s σ H x y v u Q I rx ry h
  obtain ⟨F, dx, dy, ms, P, sb, hx, hy, h, q⟩ := h
  cases hy with
  | lst ha hs =>
    obtain ⟨p, ps, e1, e2, c1, c2, c3, h⟩ := h
    obtain ⟨as, r1⟩ := DR.reads I sb dx p x v hx e1 rx
    obtain ⟨bs, r2⟩ := DR.reads I sb (.lst _) (.list ps) _ u (.lst ha hs) (by unfold toPy; rw [e2]; rfl) ry
    exact SeqAt.in_list_reads r2 r1 c3 c1 (by omega) ⟨.bl _, H, I, rfl, q _ (by simpa using h)⟩
  | tup ha hs =>
    obtain ⟨p, ps, e1, e2, c1, c2, c3, h⟩ := h
    obtain ⟨as, r1⟩ := DR.reads I sb dx p x v hx e1 rx
    obtain ⟨bs, r2⟩ := DR.reads I sb (.tup _) (.tuple ps) _ u (.tup ha hs) (by unfold toPy; rw [e2]; rfl) ry
    exact SeqAt.in_tuple_reads r2 r1 c3 c1 (by omega) ⟨.bl _, H, I, rfl, q _ (by simpa using h)⟩
  | _ => exact False.elim h
theorem op_notInF {X : Cx} (hu : X.A.units + 64 < cLine) : OpR X (compareOp .NotIn) (rInF X.K true) := by
  intro pins s σ H x y v u Q I rx ry h
  obtain ⟨F, dx, dy, ms, P, sb, hx, hy, h, q⟩ := h
  cases hy with
  | lst ha hs =>
    obtain ⟨p, ps, e1, e2, c1, c2, c3, h⟩ := h
    obtain ⟨as, r1⟩ := DR.reads I sb dx p x v hx e1 rx
    obtain ⟨bs, r2⟩ := DR.reads I sb (.lst _) (.list ps) _ u (.lst ha hs) (by unfold toPy; rw [e2]; rfl) ry
    exact SeqAt.notIn_list_reads r2 r1 c3 c1 (by omega) ⟨.bl _, H, I, rfl, q _ (by simpa using h)⟩
  | tup ha hs =>
    obtain ⟨p, ps, e1, e2, c1, c2, c3, h⟩ := h
    obtain ⟨as, r1⟩ := DR.reads I sb dx p x v hx e1 rx
    obtain ⟨bs, r2⟩ := DR.reads I sb (.tup _) (.tuple ps) _ u (.tup ha hs) (by unfold toPy; rw [e2]; rfl) ry
    exact SeqAt.notIn_tuple_reads r2 r1 c3 c1 (by omega) ⟨.bl _, H, I, rfl, q _ (by simpa using h)⟩
  | _ => exact False.elim h
theorem opd_inB {K : PySem.W.Frag} {neg : Bool} : OpD K (rInF K neg) (fInB neg) := fun F H ms x y dx dy P Q R rx ry h q =>
  ⟨F, dx, dy, ms, P, R.sub, rx, ry, h, fun b z => q _ ms _ F H z R Stp.refl (.bl _)⟩
theorem opd_in {K : PySem.W.Frag} : OpD K (rInF K false) fIn := opd_inB
theorem opd_notIn {K : PySem.W.Frag} : OpD K (rInF K true) fNotIn := opd_inB
def dEdic : DE := fun _ ms P => P .edic ms
end DL
namespace DL
open PySem PySem.Spec PyProof.Rows L2
def dIsE (ml : List (Str × Bool)) (de : DE) : DE := fun ds ms P => de ds ms fun d m => match d with
  | .exc c _ _ => (match ml.lookup c with
    | some b => P (.bl b) m
    | none => False)
  | _ => False
def dFld (ml : List (Str × Bool)) (f : Str) (de : DE) : DE := fun ds ms P => de ds ms fun d m => match d with
  | .exc c ns xs => (ml.lookup c).isSome = true ∧ ∃ y, (ns.zip xs).lookup f = some y ∧ P y m
  | _ => False
def tFld (K : PySem.W.Frag) (f : Str) (te : TE) : TE := fun σ H Q => te σ H fun x H1 => ∃ (a C dd : Addr) (fs : List (Str × V)) (v : V), x = .ref a ∧ H1 a = some (ExH (.ref C) (some dd) a) ∧ H1 dd = some (.xd fs) ∧ fs.lookup f = some v ∧ ExcC K C ∧ PySem.W.findIn K (.ref C) f = some none ∧ Q v H1
theorem pe_fld {X : Cx} {e : Expr} {te : TE} {pos : Pos} {f : Str} (he : PE X e te) (hb : attributeBase e f X.env (eval e X.env) = eval e X.env := by rfl) : PE X (.Attribute e f pos) (tFld X.K f te) := by
  refine ⟨fun pins s σ H Q I h => attr_of hb (thn (he.run pins s σ H _ I h) ?_)⟩
  rintro u s1 ⟨x, H1, I1, rx, a, C, dd, fs, v, rfl, ha, hx, hl, hC, hno, q⟩
  obtain rfl : u = Value.ref a := rx
  obtain ⟨⟨oe, fv, ho, hz, hf⟩, _, _⟩ := I1.hok a _ ha
  obtain ⟨mA, hns, hr⟩ := (show ObjOk X.prog X.w H1 s1.heap dd (.xd fs) from I1.hok dd _ hx)
  obtain ⟨od, hod, hlk⟩ := lookIn_ns hns
  obtain ⟨w, hw, rw'⟩ := RelO.some_of (v := v) (o := mA f) (by rw [← hl]; exact hr f)
  have J : PySem.W.InstAt s1.heap a oe C (some od) := ⟨ho, hz.1, by unfold PySem.W.notCls; rw [hf], by rw [hz.2]; exact hod⟩
  exact HandSPX.exc_get I1.kIn J hC.hg hC.hk hC.hs (PySem.W.findObj_own hC.hd hno rfl (by rw [hlk, hw])) (handed_of rw') ⟨v, H1, I1.tok _, rw', q⟩
end DL
namespace DL
open PySem PySem.Spec PyProof.Rows L2
section
open PySem.W PySem.Calls
structure XB (newId initId : String) (bmB : List Value) : Prop where
  made : ∀ {prog : Program} {w : World} {A : Around} {R : Result → Shared → Prop} {h : Heap} {g : Array GenState} {d : Drawn} {t : Nat} {os : OsState} {nm q : Str} {C N : Addr} {bs bm : List Value} {hdct : Bool} {sn : List Str} {sub : List Value} {ab : Bool} {col : Option Bool} {dd : Option Addr} {k0 k1 k2 k3 k5 : Option Value} {rest : List Value} {fI : Addr}, (∀ X : String, bm.contains (.type X) = bmB.contains (.type X)) → h.get? C = some (excClassObj nm q C N bs bm hdct sn sub ab col dd k0 k1 k2 k3 k5 newId) → PySem.W.Looks (model prog w) h (typeLookup (.ref C) "__init__") (some (.ref fI)) → (∀ self, PySem.W.Looks (model prog w) h (bindSpecial (.ref fI) self) (.ref fI, [self])) → rest.length ≤ sizeLine →
    codeAny (model prog w) (A.under (.builtin "type.__call__" ⟨.ref C :: rest, []⟩)) (.call (.ref fI) ⟨.ref (h.objs.size + 1) :: rest, []⟩) (PySem.W.InitBack (h.objs.size + 1) R) ⟨(h.push (PySem.W.kdv_tup rest)).push (PySem.PX.excO C h.objs.size), g, d, t, os⟩ → codeAny (model prog w) A (.call (.ref C) ⟨rest, []⟩) R ⟨h, g, d, t, os⟩
  bound : ∀ {M : Model} {A : Around} {E : Value → Shared → Prop} {Q : Unit → Shared → Prop} {h : Heap} {g : Array GenState} {d : Drawn} {t : Nat} {os : OsState} {nm q : Str} {C N e : Addr} {oe : Obj} {bs bm : List Value} {hdct : Bool} {sn : List Str} {sub : List Value} {ab : Bool} {col : Option Bool} {dd : Option Addr} {k0 k1 k2 k3 k5 : Option Value} {rest : List Value}, h.get? C = some (excClassObj nm q C N bs bm hdct sn sub ab col dd k0 k1 k2 k3 k5 newId) → h.get? e = some oe → oe.cls = .ref C → Q () ⟨h, g, d, t, os⟩ → wpAny M A (checkBoundCall initId ⟨.ref e :: rest, []⟩) Q E ⟨h, g, d, t, os⟩
  plain : plainId initId = true
  entry : entryFor table initId = some Builtin.«BaseException.__init__»
theorem xb_of {B newId initId : String} {bmB : List Value} (F : ExcBaseFacts B newId initId bmB) : XB newId initId bmB := ⟨fun hT hC hi hb hr hq => PySem.PX.call_own F hT hC hi hb hr hq, fun hC he hc hq => check_bound_init F.toExcCallFacts hC he hc hq, F.init.plain, F.initEntry⟩
end
section
open PySem.W PySem.Calls
variable {prog : Program} {w : World} {A : Around} {E : Value → Shared → Prop} {K : Frag} {C x : Addr} {B newId initId : String} {bmB : List Value} {hp : Heap} {g : Array GenState} {d : Drawn} {t : Nat} {os : OsState} {fv : Array Value} {name : Str} {v : Value} {Q : Unit → Shared → Prop}
theorem xst_new {t1 : Addr} (SF : StoreFacts B bmB "object.__setattr__" "object") (X : K.In hp) (hx : hp.get? x = some (excObj C t1 none .none)) (hs : findIn K (.ref C) "__setattr__" = some (some (.builtin "object.__setattr__")))
    (ho : excOver K C bmB = true) (ht : takerIn K C name = some none) (hh : hasDictIn K C = true)
    (hq : ∀ h' tk' dx, (∀ b o, b ≠ x → hp.get? b = some o → h'.get? b = some o) → hp.objs.size ≤ dx → dx ≠ x → h'.get? x = some (excObj C t1 (some dx) .none) →
      h'.Ns1 dx (fun y => if y = name then some v else none) → Q () ⟨h', g, d, tk', os⟩) : wpAny (model prog w) A (setAttr (.ref x) name v) Q E ⟨hp, g, d, t, os⟩ := by
  refine set_plain (od := none) X ⟨hx, rfl, rfl, trivial⟩ hs ?_
  refine osa_openX (od := none) SF X ⟨hx, rfl, rfl, trivial⟩ ho ht fun b => ?_
  obtain ⟨cd, hc, hd'⟩ := any_some hh
  have hxs : x ≠ hp.objs.size := Nat.ne_of_lt (Heap.lt_size hx)
  refine wpAny_bind (wpAny_pure (wpAny_bind (instanceDict_exc hx (looks_clsIn X hc) hd' ?_)))
  refine HandSPX.store_in_new ?_ ?_
  · exact ⟨_, #[], _, (Heap.get?_update_ne _ _ _ _ hxs.symm).trans (Heap.get?_push_at rfl rfl), rfl, fun e he => absurd he (by simp), fun _ => rfl⟩
  · intro h' tk' hn' hsm
    have hx₁ : (hp.push (dictOf [] 0)).get? x = some (excObj C t1 none .none) := Heap.get?_push_of_some _ hx
    refine hq h' tk' hp.objs.size (fun b o hb ho => ?_) (Nat.le_refl _) hxs.symm ?_ hn'
    · exact (hsm.2 b (Nat.ne_of_lt (Heap.lt_size ho))).trans ((Heap.get?_update_ne _ _ _ _ hb).trans (Heap.get?_push_of_some _ ho))
    · exact (hsm.2 x hxs).trans (Heap.get?_update_self _ hx₁ rfl)
theorem xst_old {t1 dx : Addr} {m0 : Str → Option Value} {nl : List Str} (SF : StoreFacts B bmB "object.__setattr__" "object") (X : K.In hp) (hx : hp.get? x = some (excObj C t1 (some dx) .none)) (hns : hp.Ns1 dx m0) (hw : Within m0 nl) (hz : nl.length ≤ 1000) (hs : findIn K (.ref C) "__setattr__" = some (some (.builtin "object.__setattr__")))
    (ho : excOver K C bmB = true) (ht : takerIn K C name = some none) (hh : hasDictIn K C = true)
    (hq : ∀ h' tk', (∀ b o, b ≠ dx → hp.get? b = some o → h'.get? b = some o) → h'.Ns1 dx (fun y => if y = name then some v else m0 y) → Q () ⟨h', g, d, tk', os⟩) : wpAny (model prog w) A (setAttr (.ref x) name v) Q E ⟨hp, g, d, t, os⟩ := by
  obtain ⟨oD, esD, epD, hoD, hdD, _⟩ := hns.count hw
  refine set_plain (od := some oD) X ⟨hx, rfl, rfl, hoD⟩ hs ?_
  refine osa_openX (od := some oD) SF X ⟨hx, rfl, rfl, hoD⟩ ho ht fun b => ?_
  obtain ⟨cd, hc, hd'⟩ := any_some hh
  refine wpAny_bind (wpAny_pure (wpAny_bind (wpAny_bind (wpAny_loadPart hx (wpAny_bind ((looks_clsIn X hc).here ?_))))))
  rw [hd']
  refine wpAny_pure (a := some dx) ?_
  refine OEX.store_in_old hns hw hz ?_
  intro h' tk' hn' hsm
  exact hq h' tk' (fun b o hb ho => (hsm.2 b hb).trans ho) hn'
end
section
open PySem.W PySem.Calls
variable {prog : Program} {w : World} {A : Around} {E : Value → Shared → Prop} {K : Frag} {C x u : Addr} {B newId initId : String} {bmB : List Value} {hp : Heap} {g : Array GenState} {d : Drawn} {t : Nat} {os : OsState}
/-- the bound __init__ of the built-in class, called -/
theorem xin_call {t0 : Addr} {rest : List Value} {Q : Value → Shared → Prop} (FB : XB newId initId bmB) (q : excInitIn K C bmB newId = true) (X : K.In hp) (hu : hp.get? u = some (kxs_mw initId x)) (he : hp.get? x = some (excObj C t0 none .none)) (hz : rest.length ≤ sizeLine)
    (fin : ∀ h' t1, (∀ b o, b ≠ x → hp.get? b = some o → h'.get? b = some o) → h'.get? x = some (excObj C t1 none .none) → Q .none ⟨h', g, d, t, os⟩) : wpAny (model prog w) A (call (.ref u) rest) Q E ⟨hp, g, d, t, os⟩ := by
  obtain ⟨nm, N', qn, bs, bm, hdct, sn, sub, ab, col, dd, k0, k1, k2, k3, k5, hC, hT⟩ := excInit_of X q
  refine wpAny_call (codeAny_of_tree ?_)
  show wpAny _ A.in1 (callAny (.ref u) ⟨rest, []⟩) _ _ _
  simp only [callAny]
  refine wpAny_bind (wpAny_load hu ?_)
  simp only [kxs_mw, show (Value.type "method-wrapper" == Value.type "method" || Value.type "method-wrapper" == Value.type "builtin_function_or_method" || Value.type "method-wrapper" == Value.type "method-wrapper") = true by decide, if_true]
  refine KFB.if_so (by decide) ?_
  refine wpAny_bind (FB.bound hC he rfl ?_)
  refine wpAny_bind (wpAny_pure (wpAny_pure ?_))
  refine ⟨plainId_quiet FB.plain _, codeAny_builtin FB.entry ?_⟩
  exact exc_init_tree (cls := .ref C) (t0 := t0) (dv := none) (c2 := .none) (c3 := .none) (b4 := .bool false) he hz fun h' k e' _ => fin h' _ k e'
end
abbrev supSt (m : Str) (j : Nat) (p0 p1 p2 p3 p4 p5 : Pos) : Stmt := .Expr (.Call (.Attribute (.Call (.Name "super" p0) [] [] p1) "__init__" p2) [.Constant (.str m) j p3] [] p4) p5
abbrev fldSt (f : Str) (q : Pos × Pos × Pos × Pos) : Stmt := .Assign [.Attribute (.Name "self" q.1) f q.2.1] (.Name f q.2.2.1) q.2.2.2
/-- what the top says of such a class: C the class, fI its __init__, cc the cell of __class__, cda the code -/
structure ExI (prog : Program) (K : PySem.W.Frag) (c : Str) (C fI cc cda : Addr) (B newId initId : String) (bmB : List Value) (fs : List Str) : Prop where
  ns : PySem.W.nsIn K mainGlobals c = some (some (.ref C))
  kp : PySem.W.keepIn K (.ref C) = true
  sb : PySem.W.subIn K (.ref C) (.type "BaseException") = some true
  sB : PySem.W.subIn K (.ref C) (.type B) = some true
  ty : PySem.W.typeIn K (.ref C) = some (.type "type")
  ini : PySem.W.findIn K (.ref C) "__init__" = some (some (.ref fI))
  fn : PySem.W.isFn K (.ref fI) = true
  ex : PySem.W.excInitIn K C bmB newId = true
  ov : PySem.W.excOver K C bmB = true
  sa : PySem.W.findIn K (.ref C) "__setattr__" = some (some (.builtin "object.__setattr__"))
  hd : PySem.W.hasDictIn K C = true
  sup : PySem.W.ks_superIn K C C "__init__" = some (some (.builtin initId))
  mro : PySem.W.mroIn K C (.ref C) = some true
  tkr : ∀ f ∈ fs, PySem.W.takerIn K C f = some none
  cell : ∃ cl cld csl, K.lookup cc = some ⟨cl, cld, .cell (some (.ref C)), csl⟩
  code : ∃ ccl cdd vs ccs file tf, K.lookup cda = some ⟨ccl, cdd, .fields vs, ccs⟩ ∧ vs[2]? = some (.str file tf) ∧ ((prog.main.file : Str) == file) = true
  sup0 : PySem.W.nsIn K mainGlobals "super" = some none
  any0 : PySem.W.nsIn K cStatics "thirdparty.any" = some none
  top0 : (prog.main.scope.names.lookup ("super" : Str)).isSome = false
/-- what its __init__ says -/
structure InitF (K : PySem.W.Frag) (fI cc cda : Addr) (fs : List Str) (fd : FuncData) : Prop where
  at_ : ∃ oc od osl, K.lookup fI = some ⟨oc, od, .func fd, osl⟩
  cd : PySem.W.codeIn K (.ref cda) fd.qualname = true
  form : ∃ name qual params m j p0 p1 p2 p3 p4 p5 qs scope dV kV doc pm an ct, fd = PySem.W.ksFn name qual params (supSt m j p0 p1 p2 p3 p4 p5 :: (fs.zip qs).map fun z => fldSt z.1 z.2) scope dV kV doc pm an (.ref cda) ct cc ∧ fs.length = qs.length ∧
    scope.names.lookup ("super" : Str) = some .globalImplicit ∧ scope.names.lookup ("__class__" : Str) = some .free ∧ scope.names.lookup ("self" : Str) = some .local ∧ (∀ f ∈ fs, scope.names.lookup f = some .local) ∧ scope.kind = .function ∧
    (∀ y ∈ scope.names, y.2 ≠ .cell) ∧ scope.isCoroutine = false ∧ scope.isGenerator = false ∧ (∃ ar, (params.posonlyargs ++ params.args).head? = some ar ∧ ar.arg = "self") ∧
    ∀ env : Env, ∃ pl : Sem Bool, eval (.Call (.Attribute (.Call (.Name "super" p0) [] [] p1) "__init__" p2) [.Constant (.str m) j p3] [] p4) env = (do
      let ov ← attributeBase (.Call (.Name "super" p0) [] [] p1) "__init__" env (eval (.Call (.Name "super" p0) [] [] p1) env)
      standAt p2.atName
      let (f, first) ← holding [ov] (getMethod ov "__init__" pl)
      callWith p4 f first (backTo p4 (starEach [.Constant (.str m) j p3] env)) [])
  bind : ∀ (s : Shared) (v : Value) (us : List Value), us.length = fs.length → BindsTo s fd ⟨v :: us, []⟩ (("self", v) :: fs.zip us)
  dist : fs.Nodup ∧ ("self" : Str) ∉ fs ∧ fs ≠ [] ∧ fs.length ≤ 5 ∧ ∀ f ∈ fs, (f == ("__debug__" : Str)) = false
section
open PySem.W PySem.Calls
variable {prog : Program} {w : World} {A : Around} {E : Value → Shared → Prop} {K : Frag} {C x fI cc cda : Addr} {B newId initId : String} {bmB : List Value} {hp : Heap} {g : Array GenState} {d : Drawn} {t : Nat} {os : OsState} {c : Str} {fs : List Str} {fd : FuncData}
/-- the stores behind the first one -/
theorem xst_rest {env : Env} {mL : Str → Option Value} {t1 dx : Addr} (SF : StoreFacts B bmB "object.__setattr__" "object") (ex : ExI prog K c C fI cc cda B newId initId bmB fs) (hk : env.scope.kind = .function) (hs : env.kindOf "self" = some .local) (hself : mL "self" = some (.ref x)) :
    ∀ (qs : List (Str × Pos × Pos × Pos × Pos)) (us : List Value) (hp : Heap) (t : Nat) (m0 : Str → Option Value) (nl : List Str) (Q : Flow → Shared → Prop), K.In hp → (∀ z ∈ qs, z.1 ∈ fs ∧ env.kindOf z.1 = some .local ∧ (z.1 == ("__debug__" : Str)) = false) → (∀ z ∈ qs.zip us, mL z.1.1 = some z.2) → qs.length = us.length →
      hp.get? x = some (excObj C t1 (some dx) .none) → hp.Ns env.locals mL → env.locals ≠ dx → hp.Ns1 dx m0 → Within m0 nl → nl.length + qs.length ≤ 1000 → dx ≠ x → K.lookup dx = none →
      (∀ h' tk' m', (∀ b o, b ≠ dx → hp.get? b = some o → h'.get? b = some o) → h'.Ns1 dx m' → (∀ f, m' f = match ((qs.map (·.1)).zip us).reverse.lookup f with | some u => some u | none => m0 f) → Q .next ⟨h', g, d, tk', os⟩) →
      wpAny (model prog w) A (execs (qs.map fun z => fldSt z.1 z.2) env) Q E ⟨hp, g, d, t, os⟩
  | [], us, hp, t, m0, nl, Q, X, _, _, hl, hx, hL, hne, hn, hw, hz, hdx, hkd, q => by
    match us, hl with
    | [], _ => exact wpAny_execs_nil (q hp t m0 (fun _ _ _ h => h) hn fun f => rfl)
  | z :: qs, [], hp, t, m0, nl, Q, X, _, _, hl, _, _, _, _, _, _, _, _, _ => by cases hl
  | z :: qs, u :: us, hp, t, m0, nl, Q, X, hq, hm, hl, hx, hL, hne, hn, hw, hz, hdx, hkd, q => by
    obtain ⟨hf, hloc, hdb⟩ := hq z List.mem_cons_self
    have hu : mL z.1 = some u := hm (z, u) (by rw [List.zip_cons_cons]; exact List.mem_cons_self)
    rw [List.length_cons] at hz
    rw [List.map_cons]
    refine wpAny_execs_cons (plainObj_wpAny_Assign_Attribute (wpAny_Name (wpAny_loadName_local hk hloc hL hu (wpAny_Name (wpAny_loadName_local hk hs hL hself ?_) (by decide))) hdb) ?_)
    · refine xst_old SF X hx hn hw (by omega) ex.sa ex.ov (ex.tkr _ hf) ex.hd fun h' tk' k hn' => ?_
      have Xn : K.In h' := fun b o e => k b o (fun y => by rw [y, hkd] at e; cases e) (X b o e)
      obtain ⟨oL, es, ep, eL, rL⟩ := hL
      refine xst_rest SF ex hk hs hself qs us h' tk' _ (z.1 :: nl) Q Xn (fun y hy => hq y (List.mem_cons_of_mem _ hy)) (fun y hy => hm y (by rw [List.zip_cons_cons]; exact List.mem_cons_of_mem _ hy)) (by simpa using hl) (k x _ (Ne.symm hdx) hx) ⟨oL, es, ep, k _ _ hne eL, rL⟩ hne hn' (Within.cons z.1 u hw) (by rw [List.length_cons]; omega) hdx hkd ?_
      intro h2 tk2 m' k2 hn2 hm2
      refine q h2 tk2 m' (fun b o hb e => k2 b o hb (k b o hb e)) hn2 fun f => ?_
      rw [hm2 f, List.map_cons, List.zip_cons_cons, List.reverse_cons, List.lookup_append]
      cases e : ((qs.map (·.1)).zip us).reverse.lookup f with
      | some v => rfl
      | none =>
        by_cases hff : f = z.1
        · subst hff; simp [List.lookup]
        · have e2 : (f == z.1) = false := by simpa using hff
          simp [List.lookup, e2, hff]
    · rfl
theorem look_zip_rev {V : Type} : ∀ {ns : List Str} {us : List V} (f : Str), ns.Nodup → (ns.zip us).reverse.lookup f = (ns.zip us).lookup f
  | [], _, _, _ => rfl
  | _ :: _, [], _, _ => rfl
  | n :: ns, u :: us, f, hd => by
    rw [List.nodup_cons] at hd
    rw [List.zip_cons_cons, List.reverse_cons, List.lookup_append, look_zip_rev f hd.2]
    by_cases e : f = n
    · subst e
      have h : (ns.zip us).lookup f = none := by
        rw [List.lookup_eq_none_iff]
        intro p hp
        have := (List.of_mem_zip hp).1
        simp only [bne_iff_ne, ne_eq, beq_iff_eq]
        first
          | exact fun z => hd.1 (z ▸ this)
          | (simp; exact fun z => hd.1 (z ▸ this))
      rw [h]; simp [List.lookup]
    · have e2 : (f == n) = false := by simpa using e
      have e3 : List.lookup f ((n, u) :: ns.zip us) = List.lookup f (ns.zip us) := by rw [List.lookup_cons, e2]
      have e4 : List.lookup f [(n, u)] = none := by rw [List.lookup_cons, e2]; rfl
      rw [e3, e4, Option.or_none]
theorem look_mem_zip {V : Type} : ∀ {ns : List Str} {us : List V} {z : Str × V}, ns.Nodup → z ∈ ns.zip us → (ns.zip us).lookup z.1 = some z.2
  | [], _, _, _, h => by simp at h
  | _ :: _, [], _, _, h => by simp at h
  | n :: ns, u :: us, z, hd, h => by
    rw [List.nodup_cons] at hd
    rw [List.zip_cons_cons] at h ⊢
    rcases List.mem_cons.mp h with rfl | h
    · rw [List.lookup_cons, beq_self_eq_true]
    · have e : (z.1 == n) = false := by
        have := (List.of_mem_zip h).1
        simpa using fun y : z.1 = n => hd.1 (y ▸ this)
      rw [List.lookup_cons, e]
      exact look_mem_zip hd.2 h
/-- all stores of __init__ -/
theorem xst_all {env : Env} {mL : Str → Option Value} {t1 : Addr} {f : Str} {q : Pos × Pos × Pos × Pos} {u : Value} {qs : List (Str × Pos × Pos × Pos × Pos)} {us : List Value} {Q : Flow → Shared → Prop} (SF : StoreFacts B bmB "object.__setattr__" "object") (ex : ExI prog K c C fI cc cda B newId initId bmB fs) (hk : env.scope.kind = .function) (hs : env.kindOf "self" = some .local) (hself : mL "self" = some (.ref x))
    (X : K.In hp) (hxk : K.lookup x = none) (hf : f ∈ fs ∧ env.kindOf f = some .local ∧ (f == ("__debug__" : Str)) = false) (hfu : mL f = some u) (hq : ∀ z ∈ qs, z.1 ∈ fs ∧ env.kindOf z.1 = some .local ∧ (z.1 == ("__debug__" : Str)) = false) (hm : ∀ z ∈ qs.zip us, mL z.1.1 = some z.2) (hl : qs.length = us.length)
    (hx : hp.get? x = some (excObj C t1 none .none)) (hL : hp.Ns env.locals mL) (hLx : env.locals ≠ x) (hz : qs.length ≤ 900) (hnd : (f :: qs.map (·.1)).Nodup)
    (fin : ∀ h' tk' m' dx, (∀ b o, b ≠ x → hp.get? b = some o → h'.get? b = some o) → hp.objs.size ≤ dx → dx ≠ x → h'.get? x = some (excObj C t1 (some dx) .none) → h'.Ns1 dx m' → (∀ y, m' y = ((f, u) :: (qs.map (·.1)).zip us).lookup y) → Q .next ⟨h', g, d, tk', os⟩) :
    wpAny (model prog w) A (execs (fldSt f q :: qs.map fun z => fldSt z.1 z.2) env) Q E ⟨hp, g, d, t, os⟩ := by
  refine wpAny_execs_cons (plainObj_wpAny_Assign_Attribute (wpAny_Name (wpAny_loadName_local hk hf.2.1 hL hfu (wpAny_Name (wpAny_loadName_local hk hs hL hself ?_) (by decide))) hf.2.2) ?_)
  · refine xst_new SF X hx ex.sa ex.ov (ex.tkr _ hf.1) ex.hd fun h5 tk5 dx k5 hdx hdxx hx5 hn5 => ?_
    have hd4 : env.locals ≠ dx := by
      obtain ⟨oL, es, ep, eL, rL⟩ := hL
      exact Nat.ne_of_lt (Nat.lt_of_lt_of_le (Heap.lt_size eL) hdx)
    have hKd : K.lookup dx = none := by
      cases e : K.lookup dx with
      | none => rfl
      | some o => exact absurd (Heap.lt_size (X _ _ e)) (Nat.not_lt.mpr hdx)
    have nx : ∀ {b : Addr} {o : Obj}, K.lookup b = some o → b ≠ x := fun {b o} e z => by rw [z, hxk] at e; cases e
    have X5 : K.In h5 := fun b o e => k5 b o (nx e) (X b o e)
    have hL5 : h5.Ns env.locals mL := by
      obtain ⟨oL, es, ep, eL, rL⟩ := hL
      exact ⟨oL, es, ep, k5 _ _ hLx eL, rL⟩
    refine xst_rest SF ex hk hs hself qs us h5 tk5 _ [f] _ X5 hq hm hl hx5 hL5 hd4 hn5 (Within.cons f u Within.nil) (by rw [List.length_singleton]; omega) hdxx hKd ?_
    intro h6 tk6 m6 k6 hn6 hm6
    have hne : ∀ b o, hp.get? b = some o → b ≠ dx := fun b o e => Nat.ne_of_lt (Nat.lt_of_lt_of_le (Heap.lt_size e) hdx)
    refine fin h6 tk6 m6 dx (fun b o hb e => k6 b o (hne b o e) (k5 b o hb e)) hdx hdxx (k6 _ _ hdxx.symm hx5) hn6 fun y => ?_
    rw [List.nodup_cons] at hnd
    rw [hm6 y, look_zip_rev y hnd.2]
    by_cases e : y = f
    · subst e
      have h0 : ((qs.map (·.1)).zip us).lookup y = none := by
        rw [List.lookup_eq_none_iff]
        intro p hp
        have := (List.of_mem_zip hp).1
        first
          | exact fun z => hnd.1 (z ▸ this)
          | (simp; exact fun z => hnd.1 (z ▸ this))
      rw [h0, List.lookup_cons, beq_self_eq_true]
      simp
    · have e2 : (y == f) = false := by simpa using e
      rw [List.lookup_cons, e2]
      cases ((qs.map (·.1)).zip us).lookup y with
      | some v => rfl
      | none => simp [e]
  · rfl
/-- __init__ is run -/
theorem init_run {us : List Value} {mg mb : Str → Option Value} {t0 : Addr} {R : Result → Shared → Prop} (FB : XB newId initId bmB) (SF : StoreFacts B bmB "object.__setattr__" "object") (KF : KxsFacts B initId) (ex : ExI prog K c C fI cc cda B newId initId bmB fs) (inf : InitF K fI cc cda fs fd)
    (X : K.In hp) (hlim : hp.NoLimit) (hg : hp.Ns mainGlobals mg) (hgs : mg "super" = none) (hb : hp.Ns builtinsNs mb) (hbs : mb "super" = some (.type "super")) (hroom : A.depth < recursionLimit) (hx : hp.get? x = some (excObj C t0 none .none)) (hxk : K.lookup x = none) (hl : us.length = fs.length)
    (fin : ∀ h' tk dx t1 m', (∀ b o, b ≠ x → hp.get? b = some o → h'.get? b = some o) → h'.get? x = some (excObj C t1 (some dx) .none) → hp.objs.size ≤ dx → dx ≠ x → h'.Ns1 dx m' → (∀ f, m' f = (fs.zip us).lookup f) → R (.ok (.ret .none)) ⟨h', g, d, tk, os⟩) :
    codeAny (model prog w) A (.call (.ref fI) ⟨.ref x :: us, []⟩) R ⟨hp, g, d, t, os⟩ := by
  obtain ⟨oc, od, osl, lk⟩ := inf.at_
  obtain ⟨name, qual, params, m, j, p0, p1, p2, p3, p4, p5, qs, scope, dV, kV, doc, pm, an, ct, rfl, hqs, hks, hkc, hka, hkf, hk, hcell, hco, hgen, ⟨ar, har, hars⟩, hev⟩ := inf.form
  obtain ⟨hnd, hsf, hne, hle, hdbg⟩ := inf.dist
  obtain ⟨ccl, cdd, vs, ccs, file, tf, hcode, hvs, hfile⟩ := ex.code
  obtain ⟨cl, cld, csl, hcel⟩ := ex.cell
  have hloc : ∀ y ∈ ((("self" : Str), Value.ref x) :: fs.zip us), scope.names.lookup y.1 = some NameKind.local := by
    intro y hy
    rcases List.mem_cons.mp hy with rfl | hy
    · exact hka
    · exact hkf _ (List.of_mem_zip hy).1
  obtain ⟨oD, cdD, hD0, hD1, hDc⟩ : ∃ oD cdD, K.lookup C = some oD ∧ oD.data = .cls cdD ∧ clsIn K C = some cdD := by
    obtain ⟨cd', hc', _⟩ := any_some ex.hd
    have hc2 := hc'
    unfold clsIn at hc2
    split at hc2
    · rename_i a1 a2 a3 a4 ho
      cases hc2
      exact ⟨_, _, ho, rfl, hc'⟩
    · cases hc2
  refine ks_codeAny_call_defAt hroom (X _ _ lk) rfl hlim (codeRec_of X inf.cd) rfl (inf.bind ⟨hp, g, d, t, os⟩ (.ref x) us hl) hcell hloc (fun h1 hns1 k1 => ?_) hco hgen hk
  have X1 : K.In h1 := X.keeps k1
  have mself : (((("self" : Str), Value.ref x) :: fs.zip us).reverse).lookup ("self" : Str) = some (.ref x) := by
    rw [List.reverse_cons, List.lookup_append]
    have h0 : (fs.zip us).reverse.lookup ("self" : Str) = none := by
      rw [look_zip_rev _ hnd, List.lookup_eq_none_iff]
      intro p hp
      have := (List.of_mem_zip hp).1
      first
        | exact fun z => hsf (z ▸ this)
        | (simp; exact fun z => hsf (z ▸ this))
    rw [h0]; simp [List.lookup]
  have mfld : ∀ f u, (fs.zip us).lookup f = some u → ((("self" : Str), Value.ref x) :: fs.zip us).reverse.lookup f = some u := fun f u e => by
    rw [List.reverse_cons, List.lookup_append, look_zip_rev _ hnd, e]; rfl
  obtain ⟨pl, hev⟩ := hev (ksEnv qual scope hp.objs.size fI (.ref cda) cc)
  refine ks_wpAt_execs_cons (ks_wpAt_Expr_any (ks_wpAt_MethodCall (pl := pl) ?_ hev) (by show (scope.kind == ScopeKind.module && _) = false; rw [hk]; rfl))
  refine ks_wpAt_super_base (env := ksEnv qual scope hp.objs.size fI (.ref cda) cc) hks hkc (by decide) rfl (k1 _ _ (X _ _ lk)) rfl har rfl (k1 _ _ (X _ _ hcode)) rfl hvs hfile ex.top0 ?_
  refine ks_loadName_global hk hks (loadGlobal_builtin (env := ksEnv qual scope hp.objs.size fI (.ref cda) cc) (hg.keeps k1) hgs (hb.keeps k1) hbs ⟨rfl, ?_⟩)
  refine wpAny_loadName_free hk hkc rfl ⟨_, X1 _ _ hcel, rfl⟩ ?_
  refine wpAny_loadName_local hk (by rw [hars]; exact hka) hns1 (by rw [hars]; exact mself) ?_
  refine ks_wpAny_isType_cls (X1 _ _ hD0) hD1 ⟨rfl, ?_⟩
  refine ks_wpAny_call_super (X1 _ _ hD0) hD1 (k1 _ _ hx) rfl (fun c e => by cases e) (looks_mroIn X1 ex.mro) (fun h2 e2 k2 => ?_)
  have X2 : K.In h2 := X1.keeps k2
  have hx2 : h2.get? x = some (excObj C t0 none .none) := k2 _ _ (k1 _ _ hx)
  have I2 : InstAt h2 x (excObj C t0 none .none) C none := ⟨hx2, rfl, rfl, trivial⟩
  have hsup := ex.sup
  unfold ks_superIn at hsup
  rw [hDc] at hsup
  refine kxs_getMethod KF e2 (looks_opaque X2 ex.any0) (l₀ := cdD.mro) ((looks_clsIn X2 hDc).andThen .now) rfl X2 hsup (I2.type.andThen (looks_subIn X2 ex.sB)) (ks_ne X2 I2 hDc) (by decide) ?_
  have k3 : ∀ b o, h2.get? b = some o → (h2.push (kxs_mw initId x)).get? b = some o := fun b o e => Heap.get?_push_of_some _ e
  have hu3 : (h2.push (kxs_mw initId x)).get? h2.objs.size = some (kxs_mw initId x) := Heap.get?_push_at rfl rfl
  refine kxs_callWith (i := initId) (x := x) rfl (evalArgs_plain (args_cons (Calls.Constant_str (args_nil ⟨hu3, ?_⟩))))
  refine xin_call FB ex.ex (X2.keeps k3) hu3 (k3 _ _ hx2) (by show 1 ≤ sizeLine; rw [sizeLine_eq]; omega) fun h4 t4 k4 hx4 => ?_
  have nx : ∀ {b : Addr} {o : Obj}, K.lookup b = some o → b ≠ x := fun {b o} e z => by rw [z, hxk] at e; cases e
  have X4 : K.In h4 := fun b o e => k4 b o (nx e) (X2.keeps k3 b o e)
  have hxL : x < hp.objs.size := Heap.lt_size hx
  have hLx : hp.objs.size ≠ x := Nat.ne_of_gt hxL
  have up : ∀ b o, b ≠ x → h1.get? b = some o → h4.get? b = some o := fun b o hb e => k4 b o hb (k3 _ _ (k2 _ _ e))
  have hL4 : h4.Ns hp.objs.size (fun y => ((("self" : Str), Value.ref x) :: fs.zip us).reverse.lookup y) := by
    obtain ⟨oL, es, ep, eL, rL⟩ := hns1
    exact ⟨oL, es, ep, up _ _ hLx eL, rL⟩
  refine wpAt_of_wpAny ?_
  have hfu : ∀ z ∈ fs.zip us, ((("self" : Str), Value.ref x) :: fs.zip us).reverse.lookup z.1 = some z.2 := fun z hz => mfld _ _ (look_mem_zip hnd hz)
  have hall : ∀ f ∈ fs, f ∈ fs ∧ (ksEnv qual scope hp.objs.size fI (.ref cda) cc).kindOf f = some .local ∧ (f == ("__debug__" : Str)) = false := fun f hf => ⟨hf, hkf f hf, hdbg f hf⟩
  cases hfs : fs with
  | nil => exact absurd hfs hne
  | cons f fs' =>
    cases us with
    | nil => rw [hfs] at hl; cases hl
    | cons u us =>
      cases qs with
      | nil => rw [hfs] at hqs; cases hqs
      | cons q qs =>
        rw [hfs] at hqs hl hle hnd
        have hqs' : fs'.length = qs.length := by simpa using hqs
        have hl' : us.length = fs'.length := by simpa using hl
        have em : (fs'.zip qs).map (·.1) = fs' := List.map_fst_zip (by omega)
        rw [List.zip_cons_cons, List.map_cons]
        refine xst_all (env := ksEnv qual scope hp.objs.size fI (.ref cda) cc) (mL := fun y => ((("self" : Str), Value.ref x) :: fs.zip (u :: us)).reverse.lookup y) (u := u) (us := us) SF ex hk hka mself X4 hxk (hall f (by rw [hfs]; exact List.mem_cons_self)) (hfu (f, u) (by rw [hfs, List.zip_cons_cons]; exact List.mem_cons_self)) (fun z hz => hall _ (by rw [hfs]; exact List.mem_cons_of_mem _ (List.of_mem_zip hz).1)) (fun z hz => ?_) (by rw [List.length_zip]; omega) hx4 hL4 hLx (by rw [List.length_zip]; simp at hle; omega) (by rw [em]; exact hnd) ?_
        · obtain ⟨z1, z2⟩ := z
          refine hfu (z1.1, z2) ?_
          rw [hfs, List.zip_cons_cons]
          refine List.mem_cons_of_mem _ ?_
          obtain ⟨i, hi, e⟩ := List.mem_iff_getElem.mp hz
          rw [List.getElem_zip] at e
          obtain ⟨e1, e2⟩ := Prod.mk.inj e
          rw [List.getElem_zip] at e1
          rw [List.length_zip, List.length_zip] at hi
          refine List.mem_iff_getElem.mpr ⟨i, by rw [List.length_zip]; omega, ?_⟩
          rw [List.getElem_zip, ← e1, ← e2]
        · intro h6 tk6 m6 dx k6 hdx hdxx hx6 hn6 hm6
          have hsz : hp.objs.size ≤ dx := by
            obtain ⟨oL, es, ep, eL, rL⟩ := hL4
            exact Nat.le_trans (Nat.le_of_lt (Heap.lt_size eL)) hdx
          refine fin h6 tk6 dx t4 m6 (fun b o hb e => k6 b o hb (up b o hb (k1 b o e))) hx6 hsz hdxx hn6 fun y => ?_
          rw [hm6 y, em, hfs, List.zip_cons_cons]
end
theorem relO_zip : ∀ {fs : List Str} {vs : List V} {us : List Value} (f : Str), Vals vs us → RelO ((fs.zip vs).lookup f) ((fs.zip us).lookup f)
  | [], _, _, _, _ => True.intro
  | _ :: _, _, _, _, .nil => True.intro
  | n :: fs, _, _, f, .cons (b := u) r t => by
    rw [List.zip_cons_cons, List.zip_cons_cons, List.lookup_cons, List.lookup_cons]
    cases f == n with
    | true => exact r
    | false => exact relO_zip f t
def tMkI (C : Addr) (fs : List Str) (ta : TA) : L2.St → Hp → XK → Prop := fun σ H Q => ta σ H fun vs H1 => vs.length = fs.length ∧ ∀ d, H1 d = none → Q (.ref C) (some d) (upd H1 d (.xd (fs.zip vs)))
section
variable {X : Cx} {C fI cc cda : Addr} {B newId initId : String} {bmB : List Value} {x : Str} {fs : List Str} {fd : FuncData} {e : Expr} {es : List Expr} {ta : TA} {p pos : Pos} {k : Nat}
theorem pmk_I (FB : XB newId initId bmB) (SF : StoreFacts B bmB "object.__setattr__" "object") (KF : PySem.W.KxsFacts B initId) (ex : ExI X.prog X.K x C fI cc cda B newId initId bmB fs) (inf : InitF X.K fI cc cda fs fd) (hr : Room k X.A) (hg : Gl X x) (hm : X.mg x = some (.ref C)) (ha : PA X (e :: es) ta)
    (hdb : (x == ("__debug__" : Str)) = false := by decide) (he : starEach (e :: es) X.env = (false, eval e X.env) :: starEach es X.env := by rfl) (hpl : (backTo pos (starEach es X.env)).any (·.1) = false := by rfl) :
    PMk X (.Call (.Name x p) (e :: es) [] pos) (tMkI C fs ta) := by
  intro pins s σ H Q I h
  refine wpAny_Call_Name_kw (ld_glob I hg hm ?_ hdb)
  refine PySem.W.callWith_K (h₀ := X.base) I.ok.mod.kin ex.kp (thn (ha.run pos pins s σ H _ I h) fun us s1 ⟨vs, H1, I1, r1, hz, q1⟩ => ⟨I1.kIn, ?_⟩) he hpl
  show wpAny _ _ (call (.ref C) us) _ _ _
  obtain ⟨hp, g, dr, tk, os⟩ := s1
  obtain ⟨nm, N', qn, bs, bm, hdct, sn, sub, ab, col, dd, k0, k1, k2, k3, k5, hC, hT⟩ := PySem.W.excInit_of I1.kIn ex.ex
  obtain ⟨hnd, hsf, hne, hle, hdbg⟩ := inf.dist
  have hul : us.length = fs.length := by rw [← Paired.length r1]; exact hz
  have hus : us.length ≤ sizeLine := by rw [hul, sizeLine_eq]; omega
  obtain ⟨oI, hoI, hcI⟩ : ∃ oI, hp.get? fI = some oI ∧ oI.cls = .type "function" := by
    obtain ⟨o, ho, hc⟩ := Option.map_eq_some_iff.mp (show (X.K.lookup fI).map (·.cls) = some (.type "function") from beq_iff_eq.mp ex.fn)
    exact ⟨o, I1.kIn _ _ ho, hc⟩
  have hget : ((hp.push (PySem.W.excTup us)).push (PySem.W.excObj C hp.objs.size none .none)).get? (hp.objs.size + 1) = some (PySem.W.excObj C hp.objs.size none .none) := by heap_get
  have kk : ∀ b o, hp.get? b = some o → ((hp.push (PySem.W.excTup us)).push (PySem.W.excObj C hp.objs.size none .none)).get? b = some o := fun b o e => Heap.get?_push_of_some _ (Heap.get?_push_of_some _ e)
  have hsz : hp.objs.size ≤ hp.objs.size + 1 := Nat.le_succ _
  have M := I1.mod
  have bk : ∀ b o, X.base.get? b = some o → hp.get? b = some o := I1.bk
  obtain ⟨mb, hmb, hbb⟩ := M.blt
  have bk2 : ∀ b o, X.base.get? b = some o → ((hp.push (PySem.W.excTup us)).push (PySem.W.excObj C hp.objs.size none .none)).get? b = some o := fun b o e => kk b o (bk b o e)
  have hxk : X.K.lookup (hp.objs.size + 1) = none := by
    cases e : X.K.lookup (hp.objs.size + 1) with
    | none => rfl
    | some o => exact absurd (Heap.lt_size (I1.kIn _ _ e)) (Nat.not_lt.mpr hsz)
  have hroom : (X.A.under (.builtin "type.__call__" ⟨.ref C :: us, []⟩)).depth < recursionLimit := by have := hr.dp; rw [make_depth]; omega
  refine wpAny_call (FB.made hT hC (PySem.W.looks_findIn I1.kIn ex.ini) (fun self => PySem.W.exc_bind hoI hcI self) hus ?_)
  refine init_run FB SF KF ex inf (I1.kIn.keeps kk) (M.nolimit.keeps bk2) (M.glob.keeps bk2) (PySem.W.mg_none_of M.kin M.glob ex.sup0) (hmb.keeps bk2) ((hbb _ (by decide)).trans PyProof.Rows.Boot.«super») hroom hget hxk hul ?_
  intro h' tk' dx t1 m' hk hx' hdx hdxx hn' hm'
  refine ⟨rfl, ?_⟩
  have hdx' : hp.objs.size ≤ dx := by
    rw [Heap.size_push, Heap.size_push] at hdx
    omega
  obtain ⟨G, g1, g2⟩ := restrict h' fun b => decide (b ≠ hp.objs.size + 1)
  have gk : ∀ b, b ≠ hp.objs.size + 1 → G.get? b = h'.get? b := fun b hb => g1 b (decide_eq_true hb)
  have ge : G.get? (hp.objs.size + 1) = none := g2 _ (by simp)
  have kG : ∀ b o, hp.get? b = some o → G.get? b = some o := fun b o e => by
    have hb : b ≠ hp.objs.size + 1 := Nat.ne_of_lt (Nat.lt_succ_of_lt (Heap.lt_size e))
    rw [gk b hb]
    exact hk b o hb (kk b o e)
  have J : Inv X pins σ (upd H1 dx (.xd (fs.zip vs))) ⟨G, g, dr, tk', os⟩ := I1.laid (t' := tk') (a := dx) (o := .xd (fs.zip vs)) (h' := G) kG hdx' ⟨m', hn'.at fun o y => (gk dx hdxx).trans y, fun f => by rw [hm' f]; exact relO_zip f r1⟩
  have na : (upd H1 dx (.xd (fs.zip vs))) (hp.objs.size + 1) = none := by rw [upd_ne hdxx.symm]; exact I1.hok.fresh hsz
  refine ⟨hp.objs.size + 1, _, _, ⟨G, g, dr, tk', os⟩, _, .ref C, some dx, rfl, J, fun b o e => ?_, ge, hx', ⟨rfl, rfl⟩, rfl, rfl, na, rfl, I1.bare, raises_own ex.sb ex.ty, q1 dx (I1.hok.fresh hdx')⟩
  by_cases hb : b = hp.objs.size + 1
  · rw [hb, ge] at e; cases e
  · exact (gk b hb).symm.trans e
end
/-- raise X(..), X an own class that keeps its arguments -/
def dRaiseI (c : Str) (fs : List Str) (aa : DA) : DTS := fun E ds ms => aa ds ms fun xs m => xs.length = fs.length ∧ E.ex c fs xs ds m
section
variable {X : Cx} {W : WX} {C fI cc cda : Addr} {B newId initId : String} {bmB : List Value} {x : Str} {fs : List Str} {fd : FuncData} {e : Expr} {es : List Expr} {aa : DA} {p pos pos' : Pos} {k : Nat}
theorem px_raiseI (hc : X.calm = true) (tk : Takes X W) (FB : XB newId initId bmB) (SF : StoreFacts B bmB "object.__setattr__" "object") (KF : PySem.W.KxsFacts B initId) (ex : ExI X.prog X.K x C fI cc cda B newId initId bmB fs) (inf : InitF X.K fI cc cda fs fd) (hr : RoomG k X.A) (hg : Gl X x) (hm : X.mg x = some (.ref C)) (ha : PDA X (e :: es) aa)
    (hdb : (x == ("__debug__" : Str)) = false := by decide) (he : starEach (e :: es) X.env = (false, eval e X.env) :: starEach es X.env := by rfl) (hpl : (backTo pos (starEach es X.env)).any (·.1) = false := by rfl) :
    PX X W (.Raise (some (.Call (.Name x p) (e :: es) [] pos)) none pos') (dRaiseI x fs aa) :=
  psImp (ps_raise hc tk (pmk_I FB SF KF ex inf hr.r hg hm ha hdb he hpl)) fun D σ H ⟨F0, ds, ms, E, R, S, h, _, _, _, _, z⟩ =>
    ⟨F0, ds, ms, _, R, S, h, fun xs m vs F1 H1 p1 R1 s1 rs => ⟨rs.length.trans p1.1, fun d hd => by
      have sb : Sub F1 (upd F1 d (.xd (fs.zip vs))) := Sub.new (R1.sub.none hd)
      exact z x fs xs ds m _ (some d) vs σ (upd F1 d (.xd (fs.zip vs))) _ p1.2 (R1.new hd) (s1.trans (Stp.new R1 hd)) ((S.mono s1.sub).mono sb) ex.ns (.inr ⟨d, rfl, upd_same, by rw [rs.length]; exact p1.1.symm, inf.dist.2.2.1⟩) (rs.mono sb)⟩⟩
end
end DL
namespace DL
open PySem PySem.Spec PyProof.Rows L2
abbrev ZD := Str → List Str → List D → DS → MS → Prop
def liftZ (K : PySem.W.Frag) (W : WX) (Z : ZD) (de : DE) : TE := fun σ H Q => ∃ F ds ms P, Rel K F H ms ∧ Sl K F σ ds ∧ de ds ms P ∧
  (∀ d ms' v F' H', P d ms' → Rel K F' H' ms' → Stp F H ms F' H' ms' → DR K F' v d → Q v H') ∧
  (∀ c ns xs ms' cv d ws F' H', Z c ns xs ds ms' → Rel K F' H' ms' → Stp F H ms F' H' ms' → PySem.W.nsIn K mainGlobals c = some (some cv) → XD F' d ns ws → DRs K F' ws xs → W cv d σ H')
abbrev PDZ (X : Cx) (W : WX) (Z : ZD) (e : Expr) (de : DE) : Prop := PE X e (liftZ X.K W Z de)
def dCallZ (n m : Nat) (is : List Nat) (fx : FX) (aa ak : DA) (Z : ZD) : DE := fun ds ms P => aa ds ms fun xs m1 => ak ds m1 fun zs m2 => xs.length = n ∧ zs.length = m ∧ fx (pick is (xs ++ zs)) m2 P fun c ns ys m' => Z c ns ys ds m'
section
variable {X : Cx} {W : WX} {Z : ZD} {k n m i : Nat} {f : Addr} {fd : FuncData} {ps ks : List Str} {is : List Nat} {fx : FX} {x y : Str} {p pos kpos py : Pos} {e o : Expr} {es : List Expr} {kws : List Keyword} {aa ak : DA} {da dx : DE}
theorem run_x {pins : List (Addr × Obj)} {σ : L2.St} {H : Hp} {s : Shared} {Q : VK} {us ws : List Value} {vs zs : List V} (tk : Takes X W) (F : FnX X.prog X.w X.K X.mg X.base k f fd ps (spX X.K fx)) (hr : RoomG k X.A) (hb : Bnd X.K fd ps n ks is)
    (I : Inv X pins σ H s) (r : Vals vs us) (rz : Vals zs ws) (l1 : vs.length = n) (l2 : zs.length = ks.length) (h : spX X.K fx (pick is (vs ++ zs)) H Q fun cv d H3 => W cv d σ H3) :
    wpAny (model X.prog X.w) X.A (call (.ref f) us (ks.zip ws)) (EP X pins σ Q) X.xe s := by
  have hb' := hb.to s us ws I.kIn (r.length ▸ l1) (rz.length ▸ l2)
  refine wpAny_call (codeAny_mono (F.go X.A X.stack s H ⟨us, ks.zip ws⟩ _ _ Q _ hr I.env0 hb' (pick_vals (r.append rz) is) h) fun r s' z => ?_)
  match r, z with
  | .error v, z => exact passAt tk σ pins H s v s' I z
  | .ok (.ret u), z => exact I.after z
  | .ok .next, z => exact False.elim z
  | .ok .brk, z => exact False.elim z
  | .ok .cont, z => exact False.elim z
def dExprZ (de : ZD → DE) : DTS := fun E ds ms => de E.ex ds ms fun _ m => E.nx ds m
def dRetZ (de : ZD → DE) : DTS := fun E ds ms => de E.ex ds ms E.rt
def dAsgZ (de : ZD → DE) (g : DG) : DTS := fun E ds ms => de E.ex ds ms fun d m => g d ds fun ds1 => E.nx ds1 m
variable {dz : ZD → DE}
theorem px_setZ {i : Nat} {x : Str} {pos' : Pos} (hN : X.N.Nodup) (hi : X.N[i]? = some x) (hx : Loc X.env.scope x) (he : ∀ Z, PDZ X W Z e (dz Z)) (hs : swapsWith e (some (.Name x pos')) pos.line X.env = pure false := by rfl)
    (hf : X.fn x = true ∨ X.env.scope.names.lookup x = some .local := by first | exact .inl rfl | exact .inr rfl | assumption) : PX X W (.Assign [.Name x pos'] e pos) (dAsgZ dz (sName i)) :=
  ⟨fun pins s σ H D I ⟨F, ds, ms, E, R, S, h, n, r, k, q, x⟩ => (ps_set hN hi hx (he E.ex) hs hf).run pins s σ H D I
    ⟨F, ds, ms, _, R, S, h, fun d m v F1 H1 p1 R1 s1 r1 => n _ m _ F1 H1 p1 R1 s1 (Sl.set r1 i (S.mono s1.sub)), fun c ns xs m cv d ws F1 H1 z R1 s1 hn hx hd => x c ns xs ds m cv d ws σ F1 H1 z R1 s1 (S.mono s1.sub) hn hx hd⟩⟩
end
end DL
namespace DL
open PySem PySem.Spec PyProof.Rows L2
structure ExB (K : PySem.W.Frag) (c : Str) (C : Addr) : Prop where
  ns : PySem.W.nsIn K mainGlobals c = some (some (.ref C))
  kp : PySem.W.keepIn K (.ref C) = true
  sb : PySem.W.subIn K (.ref C) (.type "BaseException") = some true
  ty : PySem.W.typeIn K (.ref C) = some (.type "type")
  cc : ExcC K C
section
variable {K : PySem.W.Frag} {c1 c2 f : Str} {b1 : Bool} {C C2 : Addr} {cw : Value} {ml : List (Str × Bool)}
theorem mlE_b (E1 : ExB K c1 C) (E2 : ExB K c2 C2) (h : PySem.W.subIn K (.ref C) (.ref C2) = some b1) (r : MlE K (.ref C2) ml) : MlE K (.ref C2) ((c1, b1) :: ml) := fun c b cv hl hn => by
  rcases ml_split hl with ⟨rfl, rfl⟩ | hl
  · rw [E1.ns] at hn
    cases hn
    exact PySem.W.exm_ref E2.sb E2.cc.hd E2.ty h
  · exact r c b cv hl hn
end
def clsInit (s : Stmt) : Stmt := match s with
  | .ClassDef _ _ _ b _ _ _ _ _ _ _ => (b.find? fun t => match t with | .FunctionDef .. => true | _ => false).getD (.Pass ⟨0, 0, 0, 0⟩)
  | _ => .Pass ⟨0, 0, 0, 0⟩
structure InitT (st : Stmt) (fs : List Str) : Prop where
  form : ∃ m j p0 p1 p2 p3 p4 p5 qs, defBody st = (supSt m j p0 p1 p2 p3 p4 p5 :: (fs.zip qs).map fun z => fldSt z.1 z.2) ∧ fs.length = qs.length ∧
    ∀ env : Env, ∃ pl : Sem Bool, eval (.Call (.Attribute (.Call (.Name "super" p0) [] [] p1) "__init__" p2) [.Constant (.str m) j p3] [] p4) env = (do
      let ov ← attributeBase (.Call (.Name "super" p0) [] [] p1) "__init__" env (eval (.Call (.Name "super" p0) [] [] p1) env)
      standAt p2.atName
      let (f, first) ← holding [ov] (getMethod ov "__init__" pl)
      callWith p4 f first (backTo p4 (starEach [.Constant (.str m) j p3] env)) [])
  k1 : (defScope st).names.lookup ("super" : Str) = some .globalImplicit
  k2 : (defScope st).names.lookup ("__class__" : Str) = some .free
  k3 : (defScope st).names.lookup ("self" : Str) = some .local
  k4 : ∀ f ∈ fs, (defScope st).names.lookup f = some .local
  k5 : (defScope st).kind = .function
  k6 : ∀ y ∈ (defScope st).names, y.2 ≠ .cell
  k7 : (defScope st).isCoroutine = false
  k8 : (defScope st).isGenerator = false
  k9 : ∃ ar, ((defArgs st).posonlyargs ++ (defArgs st).args).head? = some ar ∧ ar.arg = "self"
  bind : ∀ (name qual : Str) (kV doc pm : Value) (an : Option Addr) (cdv ct : Value) (cc : Addr) (v : Value) (us : List Value), us.length = fs.length →
    bindArgs (PySem.W.ksFn name qual (defArgs st) (defBody st) (defScope st) .none kV doc pm an cdv ct cc) ⟨v :: us, []⟩ = pure ((("self" : Str), v) :: fs.zip us)
  dist : fs.Nodup ∧ ("self" : Str) ∉ fs ∧ fs ≠ [] ∧ fs.length ≤ 5 ∧ ∀ f ∈ fs, (f == ("__debug__" : Str)) = false
theorem initF_mk {K : PySem.W.Frag} {fI cc cda : Addr} {st : Stmt} {fs : List Str} {name qual : Str} {kV doc pm ct oc : Value} {an od : Option Addr} {osl : Array (Option Value)} (T : InitT st fs)
    (lk : K.lookup fI = some ⟨oc, od, .func (PySem.W.ksFn name qual (defArgs st) (defBody st) (defScope st) .none kV doc pm an (.ref cda) ct cc), osl⟩) (cd : PySem.W.codeIn K (.ref cda) qual = true) :
    InitF K fI cc cda fs (PySem.W.ksFn name qual (defArgs st) (defBody st) (defScope st) .none kV doc pm an (.ref cda) ct cc) := by
  obtain ⟨m, j, p0, p1, p2, p3, p4, p5, qs, e, hl, he⟩ := T.form
  refine ⟨⟨_, _, _, lk⟩, cd, ⟨name, qual, defArgs st, m, j, p0, p1, p2, p3, p4, p5, qs, defScope st, .none, kV, doc, pm, an, ct, by rw [e], hl, T.k1, T.k2, T.k3, T.k4, T.k5, T.k6, T.k7, T.k8, T.k9, he⟩, fun s v us hu => .of_eq (T.bind _ _ _ _ _ _ _ _ _ v us hu), T.dist⟩
def cStr : CF := fun xs ms P => match xs with
  | [.str x] => P (.str x) ms
  | [d] => Shw d ∧ P (.str (repS d)) ms
  | _ => False
def dChain (f f' : OF) (da db dc : DE) : DE := fun ds ms P => da ds ms fun x m1 => db ds m1 fun y m2 => f x y m2 fun z m3 => match z with
  | .bl k => if k = true then dc ds m3 fun w m4 => f' y w m4 P else P (.bl false) m3
  | _ => False
section
variable {X : Cx} {a b c : Expr} {da db dc : DE} {op op' : CmpOp} {r r' : R2} {f f' : OF} {pos : Pos}
theorem lift_chain {K : PySem.W.Frag} (hf : OpD K r f) (hf' : OpD K r' f') : ∀ σ H Q, lift K (dChain f f' da db dc) σ H Q → tChain r r' (lift K da) (lift K db) (lift K dc) σ H Q := fun σ H Q ⟨F, ds, ms, P, R, S, h1, h2⟩ =>
  ⟨F, ds, ms, _, R, S, h1, fun dx m1 x F1 H1 p1 R1 s1 r1 => ⟨F1, ds, m1, _, R1, S.mono s1.sub, p1, fun dy m2 y F2 H2 p2 R2 s2 r2 => hf F2 H2 m2 x y dx dy _ _ R2 (r1.mono s2.sub) r2 p2 fun dz m3 z F3 H3 p3 R3 s3 r3 => by
    cases r3 with
    | bl k =>
      refine ⟨k, rfl, ?_⟩
      cases k with
      | true =>
        have s13 := (s1.trans s2).trans s3
        simp only [if_true] at p3 ⊢
        exact ⟨F3, ds, m3, _, R3, S.mono s13.sub, p3, fun dw m4 w F4 H4 p4 R4 s4 r4 => hf' F4 H4 m4 y w dy dw _ _ R4 ((r2.mono s3.sub).mono s4.sub) r4 p4 fun d m5 v F5 H5 p5 R5 s5 r5 => h2 d m5 v F5 H5 p5 R5 ((s13.trans s4).trans s5) r5⟩
      | false =>
        simp only [if_neg Bool.false_ne_true] at p3 ⊢
        exact h2 _ m3 _ F3 H3 p3 R3 ((s1.trans s2).trans s3) (.bl false)
    | _ => exact p3.elim⟩⟩
theorem pd_chain (ho : OpR X (compareOp op) r) (hf : OpD X.K r f) (ho' : OpR X (compareOp op') r') (hf' : OpD X.K r' f') (ha : PD X a da) (hb : PD X b db) (hc : PD X c dc)
    (hm : lastMarks [op, op'] [b, c] = false := by with_unfolding_all rfl) : PD X (.Compare a [op, op'] [b, c] pos) (dChain f f' da db dc) := peImp (pe_chain ho ho' ha hb hc hm) (lift_chain hf hf')
end
end DL
namespace DL
open PySem PySem.Spec PyProof.Rows L2
def StG (t : DTS) (E : EN) (ds : DS) (ms : MS) : Prop := t E ds ms
def ExG (de : DE) (ds : DS) (ms : MS) (P : D → MS → Prop) : Prop := de ds ms P
def TsG (dt : DT) (ds : DS) (ms : MS) (P : Bool → MS → Prop) : Prop := dt ds ms P
def ArG (da : DA) (ds : DS) (ms : MS) (P : List D → MS → Prop) : Prop := da ds ms P
def ItG (di : DI) (ds : DS) (ms : MS) (P : List D → MS → Prop) : Prop := di ds ms P
def OgG (o : DO) (ds : DS) (ms : MS) (P : Option Int → MS → Prop) : Prop := o ds ms P
def TgG (g : DG) (d : D) (ds : DS) (P : DS → Prop) : Prop := g d ds P
def TgsG (g : DGs) (d : List D) (ds : DS) (P : DS → Prop) : Prop := g d ds P
def OpG (f : OF) (x y : D) (ms : MS) (P : D → MS → Prop) : Prop := f x y ms P
def CbG (f : CF) (xs : List D) (ms : MS) (P : D → MS → Prop) : Prop := f xs ms P
def SlG (x : D) (l u : Option Int) (ms : MS) (P : D → MS → Prop) : Prop := fSl x l u ms P
def NxG (E : EN) (ds : DS) (ms : MS) : Prop := E.nx ds ms
def RtG (E : EN) (d : D) (ms : MS) : Prop := E.rt d ms
def BkG (E : EN) (ds : DS) (ms : MS) : Prop := E.bk ds ms
def CtG (E : EN) (ds : DS) (ms : MS) : Prop := E.ct ds ms
def XcG (E : EN) (c : Str) (ns : List Str) (xs : List D) (ds : DS) (ms : MS) : Prop := E.ex c ns xs ds ms
/-- ends with another next, as a loop's body has them, with other exceptions -/
def EN.wn (E : EN) (f : DS → MS → Prop) : EN := { E with nx := f }
def EN.lp (E : EN) (f : DS → MS → Prop) : EN := { E with nx := f, ct := f, bk := E.nx }
def EN.wx (E : EN) (f : Str → List Str → List D → DS → MS → Prop) : EN := { E with ex := f }
section
variable {E : EN} {f : DS → MS → Prop} {fx : Str → List Str → List D → DS → MS → Prop} {ds : DS} {ms : MS} {d : D} {c : Str} {ns : List Str} {xs : List D} {un ub uc : DS → MS → Prop} {ur : D → MS → Prop} {ux : Str → List Str → List D → DS → MS → Prop}
theorem n_wn (h : f ds ms) : NxG (EN.wn E f) ds ms := h
theorem n_lp (h : f ds ms) : NxG (EN.lp E f) ds ms := h
theorem n_wx (h : NxG E ds ms) : NxG (EN.wx E fx) ds ms := h
theorem n_mk (h : un ds ms) : NxG ⟨un, ur, ub, uc, ux⟩ ds ms := h
theorem t_wn (h : RtG E d ms) : RtG (EN.wn E f) d ms := h
theorem t_lp (h : RtG E d ms) : RtG (EN.lp E f) d ms := h
theorem t_wx (h : RtG E d ms) : RtG (EN.wx E fx) d ms := h
theorem t_mk (h : ur d ms) : RtG ⟨un, ur, ub, uc, ux⟩ d ms := h
theorem b_wn (h : BkG E ds ms) : BkG (EN.wn E f) ds ms := h
theorem b_lp (h : NxG E ds ms) : BkG (EN.lp E f) ds ms := h
theorem b_wx (h : BkG E ds ms) : BkG (EN.wx E fx) ds ms := h
theorem c_wn (h : CtG E ds ms) : CtG (EN.wn E f) ds ms := h
theorem c_lp (h : f ds ms) : CtG (EN.lp E f) ds ms := h
theorem c_wx (h : CtG E ds ms) : CtG (EN.wx E fx) ds ms := h
theorem x_wn (h : XcG E c ns xs ds ms) : XcG (EN.wn E f) c ns xs ds ms := h
theorem x_lp (h : XcG E c ns xs ds ms) : XcG (EN.lp E f) c ns xs ds ms := h
theorem x_wx (h : fx c ns xs ds ms) : XcG (EN.wx E fx) c ns xs ds ms := h
theorem x_mk (h : ux c ns xs ds ms) : XcG ⟨un, ur, ub, uc, ux⟩ c ns xs ds ms := h
end
section
variable {t : DTS} {E : EN} {ds : DS} {ms : MS} {de : DE} {P : D → MS → Prop} {dt : DT} {PT : Bool → MS → Prop} {da : DA} {PA : List D → MS → Prop} {di : DI} {o : DO} {PO : Option Int → MS → Prop} {g : DG} {gs : DGs} {d x y : D} {xs : List D} {PS : DS → Prop} {f : OF} {c : CF} {l u : Option Int}
theorem StG.out (h : t E ds ms) : StG t E ds ms := h
theorem ExG.out (h : de ds ms P) : ExG de ds ms P := h
theorem TsG.out (h : dt ds ms PT) : TsG dt ds ms PT := h
theorem ArG.out (h : da ds ms PA) : ArG da ds ms PA := h
theorem ItG.out (h : di ds ms PA) : ItG di ds ms PA := h
theorem OgG.out (h : o ds ms PO) : OgG o ds ms PO := h
theorem TgG.out (h : g d ds PS) : TgG g d ds PS := h
theorem TgsG.out (h : gs xs ds PS) : TgsG gs xs ds PS := h
theorem OpG.out (h : f x y ms P) : OpG f x y ms P := h
theorem CbG.out (h : c xs ms P) : CbG c xs ms P := h
theorem SlG.out (h : fSl x l u ms P) : SlG x l u ms P := h
end
section
variable {E : EN} {ds ds' : DS} {ms m : MS} {P : D → MS → Prop} {A B : Prop} {t u tb : DTS} {de da db dc : DE} {dt du : DT} {g : DG} {gs : DGs} {aa ak : DA} {di : DI} {d x y : D} {xs ys zs : List D} {n k i j : Nat} {b : Bool} {PT : Bool → MS → Prop} {PA : List D → MS → Prop} {PS : DS → Prop} {PO : Option Int → MS → Prop}
theorem w_seq (h : StG t (EN.wn E (StG u E)) ds ms) : dSeq t u E ds ms := h
theorem w_next (h : NxG E ds ms) : dNext E ds ms := h
theorem w_break (h : BkG E ds ms) : dBreak E ds ms := h
theorem w_cont (h : CtG E ds ms) : dCont E ds ms := h
theorem w_ret (h : ExG de ds ms (RtG E)) : dRet de E ds ms := h
theorem w_retN (h : RtG E .non ms) : dRetN E ds ms := h
theorem w_drop (h : ExG de ds ms fun _ m => NxG E ds m) : dDrop de E ds ms := h
theorem w_ifS (h : TsG dt ds ms fun b m => if b = true then StG t E ds m else StG u E ds m) : dIfS dt t u E ds ms := h
theorem w_asg (h : ExG de ds ms fun d m => TgG g d ds fun ds1 => NxG E ds1 m) : dAsg de g E ds ms := h
def mPar (i j : Nat) (E : EN) (ds : DS) (xs : List D) (m : MS) : Prop := match xs with
  | [x, y] => E.nx (setSlot (setSlot ds i x) j y) m
  | _ => False
theorem w_par (h : ArG aa ds ms fun xs m => mPar i j E ds xs m) : dPar i j aa E ds ms := h
theorem w_mPar (e : setSlot (setSlot ds i x) j y = ds') (h : NxG E ds' m) : mPar i j E ds [x, y] m := by subst e; exact h
theorem w_for (h : ItG di ds ms fun xs m => loopD g tb E xs ds m) : dFor di g tb E ds ms := h
theorem w_raise {c : Str} (h : XcG E c [] [] ds ms) : dRaise c E ds ms := h
theorem w_raiseI {c : Str} {fs : List Str} (h : ArG aa ds ms fun xs m => xs.length = fs.length ∧ XcG E c fs xs ds m) : dRaiseI c fs aa E ds ms := h
theorem w_exprZ {dz : ZD → DE} (h : ExG (dz (XcG E)) ds ms fun _ m => NxG E ds m) : dExprZ dz E ds ms := h
theorem w_retZ {dz : ZD → DE} (h : ExG (dz (XcG E)) ds ms (RtG E)) : dRetZ dz E ds ms := h
theorem w_asgZ {dz : ZD → DE} (h : ExG (dz (XcG E)) ds ms fun d m => TgG g d ds fun ds1 => NxG E ds1 m) : dAsgZ dz g E ds ms := h
def mTry (ml : List (Str × Bool)) (i j : Nat) (E : EN) (c : Str) (ns : List Str) (xs : List D) (ds : DS) (ms : MS) : Prop := match ml.lookup c with
  | some true => E.nx ((setSlot ds j (.exc c ns xs)).set i none) ms
  | some false => E.ex c ns xs ds ms
  | none => False
theorem w_try {ml : List (Str × Bool)} (h : StG tb (EN.wx E (mTry ml i j E)) ds ms) : dTry ml i j tb E ds ms := h
theorem w_try0 {ml : List (Str × Bool)} (h : StG (dTry ml i j tb) (EN.wx E fun _ _ _ _ _ => False) ds ms) : dTry0 ml i j tb E ds ms := h
theorem w_mTry {ml : List (Str × Bool)} {c : Str} {ns : List Str} (e : ml.lookup c = some true) (e2 : (setSlot ds j (.exc c ns xs)).set i none = ds') (h : NxG E ds' ms) : mTry ml i j E c ns xs ds ms := by
  unfold mTry; rw [e]; subst e2; exact h
theorem w_mTryF {ml : List (Str × Bool)} {c : Str} {ns : List Str} (e : ml.lookup c = some false) (h : XcG E c ns xs ds ms) : mTry ml i j E c ns xs ds ms := by
  unfold mTry; rw [e]; exact h
theorem w_name (e : setSlot ds i d = ds') (h : PS ds') : sName i d ds PS := by subst e; exact h
theorem w_stup (e : xs.length = n) (h : TgsG gs xs ds PS) : sTup n gs (.tup xs) ds PS := ⟨e, h⟩
theorem w_scons (h : TgG g x ds fun ds1 => TgsG gs ys ds1 PS) : sCons g gs (x :: ys) ds PS := h
theorem w_snil (h : PS ds) : sNil [] ds PS := h
theorem w_c (h : P d ms) : dC d ds ms P := h
theorem w_var (e : slot ds i = some d) (h : P d ms) : dVar i ds ms P := by unfold dVar; rw [e]; exact h
theorem w_op {f : OF} (h : ExG da ds ms fun x m => ExG db ds m fun y m2 => OpG f x y m2 P) : dOp f da db ds ms P := h
theorem w_tup (h : ArG aa ds ms fun xs m => xs.length ≤ sizeLine ∧ P (.tup xs) m) : dTup aa ds ms P := h
theorem w_lst (h : ArG aa ds ms fun xs m => xs.length ≤ sizeLine ∧ P (.lst xs) m) : dLst aa ds ms P := h
theorem w_lstM (h : ArG aa ds ms fun xs m => xs.length ≤ sizeLine ∧ ∀ p, (∀ q ∈ m, q.1 ≠ p) → P (.opq (.ref p)) ((p, xs) :: m)) : dLstM aa ds ms P := h
theorem w_size (e : n ≤ sizeLine) (h : A) : n ≤ sizeLine ∧ A := ⟨e, h⟩
theorem w_sizeL (e : n < sizeLine) (h : A) : n < sizeLine ∧ A := ⟨e, h⟩
theorem w_anil (h : PA [] ms) : aNil ds ms PA := h
theorem w_acons (h : ExG de ds ms fun x m1 => ArG aa ds m1 fun xs m2 => PA (x :: xs) m2) : aCons de aa ds ms PA := h
theorem w_edic (h : P .edic ms) : dEdic ds ms P := h
def mNeg (d : D) (m : MS) (P : D → MS → Prop) : Prop := match d with
  | .int i => P (.int (-i)) m
  | _ => False
theorem w_neg (h : ExG de ds ms fun x m => mNeg x m P) : dNeg de ds ms P := h
theorem w_mNeg {i : Int} (h : P (.int (-i)) m) : mNeg (.int i) m P := h
def mNot (d : D) (m : MS) (P : D → MS → Prop) : Prop := match d with
  | .bl b => P (.bl (!b)) m
  | _ => False
theorem w_notV (h : ExG de ds ms fun x m => mNot x m P) : dNotV de ds ms P := h
theorem w_mNotT (e : b = true) (h : P (.bl false) m) : mNot (.bl b) m P := by subst e; exact h
theorem w_mNotF (e : b = false) (h : P (.bl true) m) : mNot (.bl b) m P := by subst e; exact h
theorem w_mNot (h : P (.bl (!b)) m) : mNot (.bl b) m P := h
def mAnd (db : DE) (ds : DS) (d : D) (m : MS) (P : D → MS → Prop) : Prop := match d with
  | .bl b => if b = true then db ds m P else P (.bl false) m
  | _ => False
theorem w_andV (h : ExG da ds ms fun x m => mAnd db ds x m P) : dAndV da db ds ms P := h
theorem w_mAnd (h : if b = true then ExG db ds m P else P (.bl false) m) : mAnd db ds (.bl b) m P := h
def mOr (db : DE) (ds : DS) (d : D) (m : MS) (P : D → MS → Prop) : Prop := match d with
  | .bl b => if b = true then P (.bl true) m else db ds m P
  | _ => False
theorem w_orV (h : ExG da ds ms fun x m => mOr db ds x m P) : dOrV da db ds ms P := h
theorem w_mOr (h : if b = true then P (.bl true) m else ExG db ds m P) : mOr db ds (.bl b) m P := h
theorem w_if (h : TsG dt ds ms fun b m => if b = true then ExG da ds m P else ExG db ds m P) : dIf dt da db ds ms P := h
theorem w_iteT (e : b = true) (h : A) : if b = true then A else B := by rw [if_pos e]; exact h
theorem w_iteF (e : b = false) (h : B) : if b = true then A else B := by rw [if_neg (by rw [e]; decide)]; exact h
def mTest (d : D) (m : MS) (P : Bool → MS → Prop) : Prop := match d with
  | .bl b => P b m
  | _ => False
theorem w_test (h : ExG da ds ms fun x m => mTest x m PT) : dTest da ds ms PT := h
theorem w_mTest (h : PT b m) : mTest (.bl b) m PT := h
theorem w_yes (h : PT true ms) : dYes ds ms PT := h
theorem w_not (h : TsG dt ds ms fun b m => PT (!b) m) : dNot dt ds ms PT := h
theorem w_and (h : TsG dt ds ms fun b m => if b = true then TsG du ds m PT else PT false m) : dAnd dt du ds ms PT := h
theorem w_or (h : TsG dt ds ms fun b m => if b = true then PT true m else TsG du ds m PT) : dOr dt du ds ms PT := h
theorem w_tru (h : ExG da ds ms fun x m => truD x m fun b => PT b m) : dTru da ds ms PT := h
def mCall (n k : Nat) (is : List Nat) (fs : FS) (xs zs : List D) (m : MS) (P : D → MS → Prop) : Prop := xs.length = n ∧ zs.length = k ∧ fs (pick is (xs ++ zs)) m P
theorem w_call {is : List Nat} {fs : FS} (h : ArG aa ds ms fun xs m1 => ArG ak ds m1 fun zs m2 => mCall n k is fs xs zs m2 P) : dCall n k is fs aa ak ds ms P := h
theorem w_mCall {is : List Nat} {fs : FS} (e1 : xs.length = n) (e2 : zs.length = k) (e : pick is (xs ++ zs) = ys) (h : fs ys m P) : mCall n k is fs xs zs m P := ⟨e1, e2, by rw [e]; exact h⟩
def mCallZ (n k : Nat) (is : List Nat) (fx : FX) (Z : ZD) (ds : DS) (xs zs : List D) (m : MS) (P : D → MS → Prop) : Prop := xs.length = n ∧ zs.length = k ∧ fx (pick is (xs ++ zs)) m P fun c ns ys m' => Z c ns ys ds m'
theorem w_callZ {is : List Nat} {fx : FX} {Z : ZD} (h : ArG aa ds ms fun xs m1 => ArG ak ds m1 fun zs m2 => mCallZ n k is fx Z ds xs zs m2 P) : dCallZ n k is fx aa ak Z ds ms P := h
theorem w_mCallZ {is : List Nat} {fx : FX} {Z : ZD} (e1 : xs.length = n) (e2 : zs.length = k) (e : pick is (xs ++ zs) = ys) (h : fx ys m P fun c ns ys m' => Z c ns ys ds m') : mCallZ n k is fx Z ds xs zs m P := ⟨e1, e2, by rw [e]; exact h⟩
theorem w_cb {f : CF} (h : ArG aa ds ms fun xs m => CbG f xs m P) : dCB f aa ds ms P := h
section
variable {i j : Int} {a c : List D} {z w : Str} {lo hi : Option Int} {p : Addr}
theorem w_add_ii (h : P (.int (i + j)) ms) : fAdd (.int i) (.int j) ms P := h
theorem w_add_ss (h : z.length + w.length ≤ sizeLine ∧ P (.str (z ++ w)) ms) : fAdd (.str z) (.str w) ms P := h
theorem w_add_ll (h : a.length + c.length ≤ sizeLine ∧ P (.lst (a ++ c)) ms) : fAdd (.lst a) (.lst c) ms P := h
theorem w_add_ol (e : look ms p = some a) (h : a.length + c.length ≤ sizeLine ∧ P (.lst (a ++ c)) ms) : fAdd (.opq (.ref p)) (.lst c) ms P := by unfold fAdd; simp only [e]; exact h
theorem w_add_tt (h : a.length + c.length ≤ sizeLine ∧ P (.tup (a ++ c)) ms) : fAdd (.tup a) (.tup c) ms P := h
theorem w_sub (h : P (.int (i - j)) ms) : fSub (.int i) (.int j) ms P := ⟨trivial, h⟩
theorem w_mul (h : CMulD i j ∧ P (.int (i * j)) ms) : fMul (.int i) (.int j) ms P := h
theorem w_mul_l (h : (-(2 ^ 63) ≤ i ∧ i < 2 ^ 63 ∧ a.length * i.toNat ≤ sizeLine) ∧ P (.lst (List.replicate i.toNat a).flatten) ms) : fMul (.lst a) (.int i) ms P := h
theorem w_div (h : CDivA i j ∧ P (.int (i.fdiv j)) ms) : fDiv (.int i) (.int j) ms P := h
theorem w_mod (h : j ≠ 0 ∧ P (.int (i.fmod j)) ms) : fMod (.int i) (.int j) ms P := h
theorem w_pow (e : 0 ≤ j ∧ j ≤ 1000000) {r : Int} (er : (10 : Int) ^ j.toNat = r) (h : P (.int r) ms) : fPow (.int 10) (.int j) ms P := ⟨⟨e.1, e.2, by decide⟩, by rw [← er] at h; exact h⟩
theorem w_lt (h : P (.bl (decide (i < j))) ms) : fLt (.int i) (.int j) ms P := ⟨trivial, h⟩
theorem w_le (h : P (.bl (decide (i ≤ j))) ms) : fLe (.int i) (.int j) ms P := ⟨trivial, h⟩
theorem w_gt (h : P (.bl (decide (j < i))) ms) : fGt (.int i) (.int j) ms P := ⟨trivial, h⟩
theorem w_ge (h : P (.bl (decide (j ≤ i))) ms) : fGe (.int i) (.int j) ms P := ⟨trivial, h⟩
theorem w_eq_ii (h : P (.bl (i == j)) ms) : fEq (.int i) (.int j) ms P := h
theorem w_eq_ss (h : P (.bl (z == w)) ms) : fEq (.str z) (.str w) ms P := h
theorem w_eq_l0 (h : P (.bl a.isEmpty) ms) : fEq (.lst a) (.lst []) ms P := h
theorem w_eq_bb {b c : Bool} (h : P (.bl (b == c)) ms) : fEq (.bl b) (.bl c) ms P := ⟨⟨_, rfl, rfl⟩, ⟨_, rfl, rfl⟩, by
  have e : eqD (.bl b) (.bl c) = (b == c) := by cases b <;> cases c <;> rfl
  rw [e]; exact h⟩
theorem w_eq_lc (h : ShD (.lst a) ∧ ShD (.lst (d :: c)) ∧ P (.bl (eqD (.lst a) (.lst (d :: c)))) ms) : fEq (.lst a) (.lst (d :: c)) ms P := h
theorem w_eq_tt (h : ShD (.tup a) ∧ ShD (.tup c) ∧ P (.bl (eqD (.tup a) (.tup c))) ms) : fEq (.tup a) (.tup c) ms P := h
theorem w_ne_ii (h : P (.bl (!(i == j))) ms) : fNe (.int i) (.int j) ms P := h
theorem w_ne_ss (h : P (.bl (!(z == w))) ms) : fNe (.str z) (.str w) ms P := h
theorem w_ne_l0 (h : P (.bl (!a.isEmpty)) ms) : fNe (.lst a) (.lst []) ms P := h
theorem w_ne_bb {b c : Bool} (h : P (.bl (!(b == c))) ms) : fNe (.bl b) (.bl c) ms P := ⟨⟨_, rfl, rfl⟩, ⟨_, rfl, rfl⟩, by
  have e : eqD (.bl b) (.bl c) = (b == c) := by cases b <;> cases c <;> rfl
  rw [e]; exact h⟩
theorem w_ne_lc (h : ShD (.lst a) ∧ ShD (.lst (d :: c)) ∧ P (.bl (!eqD (.lst a) (.lst (d :: c)))) ms) : fNe (.lst a) (.lst (d :: c)) ms P := h
theorem w_ne_tt (h : ShD (.tup a) ∧ ShD (.tup c) ∧ P (.bl (!eqD (.tup a) (.tup c))) ms) : fNe (.tup a) (.tup c) ms P := h
theorem w_in_l (h : InOk x a false ms P) : fIn x (.lst a) ms P := h
theorem w_in_t (h : InOk x a false ms P) : fIn x (.tup a) ms P := h
theorem w_notIn_l (h : InOk x a true ms P) : fNotIn x (.lst a) ms P := h
theorem w_notIn_t (h : InOk x a true ms P) : fNotIn x (.tup a) ms P := h
theorem w_ix_t (e : atI a i = some d) (h : P d ms) : fIx (.tup a) (.int i) ms P := by unfold fIx; simp only [e]; exact h
theorem w_ix_l (e : atI a i = some d) (h : P d ms) : fIx (.lst a) (.int i) ms P := by unfold fIx; simp only [asL, e]; exact h
theorem w_ix_o (e0 : look ms p = some a) (e : atI a i = some d) (h : P d ms) : fIx (.opq (.ref p)) (.int i) ms P := by unfold fIx; simp only [asL, e0, e]; exact h
theorem w_at0 {α : Type} (x : α) (r : List α) : atI (x :: r) 0 = some x := by simp [atI, ixN]
theorem w_at1 {α : Type} (x y : α) (r : List α) : atI (x :: y :: r) 1 = some y := by
  have h : (1 : Int) < (r.length : Int) + 1 + 1 := by omega
  simp [atI, ixN, h]
theorem w_at2 {α : Type} (x y z : α) (r : List α) : atI (x :: y :: z :: r) 2 = some z := by
  have h : (2 : Int) < (r.length : Int) + 1 + 1 + 1 := by omega
  simp [atI, ixN, h]
theorem w_at3 {α : Type} (x y z u : α) (r : List α) : atI (x :: y :: z :: u :: r) 3 = some u := by
  have h : (3 : Int) < (r.length : Int) + 1 + 1 + 1 + 1 := by omega
  simp [atI, ixN, h]
theorem w_sl {ol oh : DO} (h : ExG de ds ms fun x m1 => OgG ol ds m1 fun l m2 => OgG oh ds m2 fun u m3 => SlG x l u m3 P) : dSl de ol oh ds ms P := h
theorem w_sl_l (h : P (.lst (cutL a lo hi)) ms) : fSl (.lst a) lo hi ms P := h
theorem w_sl_f (h : P (.lst (cutL a lo hi)) ms) : fSl (.fro a) lo hi ms P := h
theorem w_sl_t (h : P (.tup (cutL a lo hi)) ms) : fSl (.tup a) lo hi ms P := h
theorem w_sl_s (h : z.length ≤ sizeLine ∧ P (.str (cutS z lo hi)) ms) : fSl (.str z) lo hi ms P := h
theorem w_onone (h : PO none ms) : oNone ds ms PO := h
def mSome (d : D) (m : MS) (P : Option Int → MS → Prop) : Prop := match d with
  | .int i => P (some i) m
  | _ => False
theorem w_osome (h : ExG de ds ms fun d m => mSome d m PO) : oSome de ds ms PO := h
theorem w_mSome (h : PO (some i) m) : mSome (.int i) m PO := h
theorem w_len_l (h : P (.int a.length) ms) : cLen [.lst a] ms P := h
theorem w_len_f (h : P (.int a.length) ms) : cLen [.fro a] ms P := h
theorem w_len_t (h : P (.int a.length) ms) : cLen [.tup a] ms P := h
theorem w_len_s (h : z.length ≤ sizeLine ∧ P (.int z.length) ms) : cLen [.str z] ms P := h
theorem w_len_o (e : look ms p = some a) (h : P (.int a.length) ms) : cLen [.opq (.ref p)] ms P := by unfold cLen; simp only [asL, e]; exact h
theorem w_list_l (h : P (.lst a) ms) : cList [.lst a] ms P := h
theorem w_list_f (h : P (.lst a) ms) : cList [.fro a] ms P := h
theorem w_list_t (h : P (.lst a) ms) : cList [.tup a] ms P := h
theorem w_tuple_l (h : P (.tup a) ms) : cTuple [.lst a] ms P := h
theorem w_tuple_t (h : P (.tup a) ms) : cTuple [.tup a] ms P := h
theorem w_str_s (h : P (.str z) ms) : cStr [.str z] ms P := h
theorem w_str_l (h : Shw (.lst a) ∧ P (.str (repS (.lst a))) ms) : cStr [.lst a] ms P := h
theorem w_str_i (h : Shw (.int i) ∧ P (.str (repS (.int i))) ms) : cStr [.int i] ms P := h
theorem w_repr (h : Shw d ∧ P (.str (repS d)) ms) : cRepr [d] ms P := h
theorem w_abs (h : P (.int (if i < 0 then -i else i)) ms) : cAbs [.int i] ms P := h
theorem w_max2 (h : P (.int (if j > i then j else i)) ms) : cMax2 [.int i, .int j] ms P := h
theorem w_min2 (h : P (.int (if j < i then j else i)) ms) : cMin2 [.int i, .int j] ms P := h
theorem w_int_i (h : P (.int i) ms) : cInt1 [.int i] ms P := h
theorem w_int_b (h : P (.int (if b then 1 else 0)) ms) : cInt1 [.bl b] ms P := h
theorem w_all {bs : List Bool} (e : blsOf a = some bs) (h : P (.bl (bs.all id)) ms) : cAll [.lst a] ms P := by unfold cAll; simp only [e]; exact h
def mSeq (d : D) (m : MS) (P : List D → MS → Prop) : Prop := match d with
  | .lst xs => P xs m
  | .fro xs => P xs m
  | _ => False
theorem w_iseq (h : ExG de ds ms fun d m => mSeq d m PA) : iSeq de ds ms PA := h
theorem w_mSeq (h : PA a m) : mSeq (.lst a) m PA := h
theorem w_mSeqF (h : PA a m) : mSeq (.fro a) m PA := h
def mTupI (d : D) (m : MS) (P : List D → MS → Prop) : Prop := match d with
  | .tup xs => P xs m
  | _ => False
theorem w_itup (h : ExG de ds ms fun d m => mTupI d m PA) : iTupD de ds ms PA := h
theorem w_mTupI (h : PA a m) : mTupI (.tup a) m PA := h
def mRng (xs : List D) (m : MS) (P : List D → MS → Prop) : Prop := match xs with
  | [.int j] => (-(2 ^ 62) ≤ j ∧ j < 2 ^ 62) ∧ P (rng 0 j.toNat) m
  | _ => False
theorem w_irng1 (h : ArG aa ds ms fun xs m => mRng xs m PA) : iRange1 aa ds ms PA := h
theorem w_mRng (e : -(2 ^ 62) ≤ j ∧ j < 2 ^ 62) (h : PA (rng 0 j.toNat) m) : mRng [.int j] m PA := ⟨e, h⟩
def mZip (xs : List D) (m : MS) (P : List D → MS → Prop) : Prop := match xs with
  | [.lst a, .lst b] => P (zipD a b) m
  | _ => False
theorem w_izip (h : ArG aa ds ms fun xs m => mZip xs m PA) : iZipD aa ds ms PA := h
theorem w_mZip (h : PA (zipD a c) m) : mZip [.lst a, .lst c] m PA := h
def mEnum (xs : List D) (m : MS) (P : List D → MS → Prop) : Prop := match xs with
  | [.lst a] => P (enumD a) m
  | _ => False
theorem w_ienum (h : ArG aa ds ms fun xs m => mEnum xs m PA) : iEnumD aa ds ms PA := h
theorem w_mEnum (h : PA (enumD a) m) : mEnum [.lst a] m PA := h
theorem w_lc {tt : DT} {te : DE} {vs : List Nat} (e : ∀ d, wipeD d vs = wipeD d vs) (h : ItG di ds ms fun xs m => compD g tt te (wipeD ds vs) xs [] m fun ys m' => P (.lst ys) m') : dLc di g tt te vs ds ms P := h
def mIsi (T : Ty) (d : D) (m : MS) (P : D → MS → Prop) : Prop := match tyD d with
  | some a => P (.bl (subT a T)) m
  | none => False
theorem w_isi {T : Ty} (h : ExG de ds ms fun d m => mIsi T d m P) : dIsi T de ds ms P := h
theorem w_mIsiT {T a : Ty} (e : tyD d = some a) (e2 : subT a T = true) (h : P (.bl true) m) : mIsi T d m P := by unfold mIsi; simp only [e, e2]; exact h
theorem w_mIsiF {T a : Ty} (e : tyD d = some a) (e2 : subT a T = false) (h : P (.bl false) m) : mIsi T d m P := by unfold mIsi; simp only [e, e2]; exact h
def mIsE (ml : List (Str × Bool)) (d : D) (m : MS) (P : D → MS → Prop) : Prop := match d with
  | .exc c _ _ => (match ml.lookup c with
    | some b => P (.bl b) m
    | none => False)
  | _ => False
theorem w_isE {ml : List (Str × Bool)} (h : ExG de ds ms fun d m => mIsE ml d m P) : dIsE ml de ds ms P := h
theorem w_mIsE {ml : List (Str × Bool)} {c : Str} {ns : List Str} {b : Bool} (e : ml.lookup c = some b) (h : P (.bl b) m) : mIsE ml (.exc c ns xs) m P := by unfold mIsE; simp only [e]; exact h
def mFld (ml : List (Str × Bool)) (f : Str) (d : D) (m : MS) (P : D → MS → Prop) : Prop := match d with
  | .exc c ns xs => (ml.lookup c).isSome = true ∧ ∃ y, (ns.zip xs).lookup f = some y ∧ P y m
  | _ => False
theorem w_fld {ml : List (Str × Bool)} {f : Str} (h : ExG de ds ms fun d m => mFld ml f d m P) : dFld ml f de ds ms P := h
theorem w_mFld {ml : List (Str × Bool)} {f c : Str} {ns : List Str} {b : Bool} (e : ml.lookup c = some b) (e2 : (ns.zip xs).lookup f = some y) (h : P y m) : mFld ml f (.exc c ns xs) m P := by unfold mFld; simp only [e]; exact ⟨rfl, y, e2, h⟩
def mApp (aa : DA) (ds : DS) (d : D) (m : MS) (P : D → MS → Prop) : Prop := match d with
  | .opq (.ref p) => (∃ xs0, look m p = some xs0) ∧ aa ds m fun ys m2 => (match ys with
    | [y] => (match look m2 p with
      | some xs => xs.length < sizeLine ∧ P .non (put m2 p (xs ++ [y]))
      | none => False)
    | _ => False)
  | _ => False
def mApp2 (p : Addr) (ys : List D) (m : MS) (P : D → MS → Prop) : Prop := match ys with
  | [y] => (match look m p with
    | some xs => xs.length < sizeLine ∧ P .non (put m p (xs ++ [y]))
    | none => False)
  | _ => False
theorem w_append (h : ExG de ds ms fun d m => mApp aa ds d m P) : dAppend de aa ds ms P := h
theorem w_mApp (e : look m p = some xs) (h : ArG aa ds m fun ys m2 => mApp2 p ys m2 P) : mApp aa ds (.opq (.ref p)) m P := ⟨⟨_, e⟩, h⟩
theorem w_mApp2 {m' : MS} (e : look m p = some xs) (e2 : put m p (xs ++ [y]) = m') (h : xs.length < sizeLine ∧ P .non m') : mApp2 p [y] m P := by unfold mApp2; simp only [e, e2]; exact h
theorem put_new {p : Addr} {xs ys : List D} {m : MS} : put ((p, xs) :: m) p ys = (p, ys) :: m := by unfold put; rw [if_pos rfl]
theorem drp_new {p : Addr} {xs : List D} {m : MS} : drp ((p, xs) :: m) p = m := by unfold drp; rw [if_pos rfl]
def mFrz (d : D) (m : MS) (P : D → MS → Prop) : Prop := match d with
  | .opq (.ref p) => (match look m p with
    | some xs => P (.lst xs) (drp m p)
    | none => False)
  | _ => False
theorem w_frz (h : ExG de ds ms fun d m => mFrz d m P) : dFrz de ds ms P := h
theorem w_mFrz {m' : MS} (e : look m p = some xs) (e2 : drp m p = m') (h : P (.lst xs) m') : mFrz (.opq (.ref p)) m P := by unfold mFrz; simp only [e, e2]; exact h
theorem look_new {p : Addr} {xs : List D} {m : MS} (hy : nofld xs = true := by first | rfl | assumption | exact nofld_map _ (fun _ => rfl) _ | exact nofld_app (by first | rfl | assumption | exact nofld_map _ (fun _ => rfl) _) (by first | rfl | assumption | exact nofld_map _ (fun _ => rfl) _)) : look ((p, xs) :: m) p = some xs := by unfold look; rw [if_pos rfl, if_pos hy]
def mChain (f' : OF) (dc : DE) (ds : DS) (y z : D) (m : MS) (P : D → MS → Prop) : Prop := match z with
  | .bl k => if k = true then dc ds m fun w m4 => f' y w m4 P else P (.bl false) m
  | _ => False
theorem w_chain {f f' : OF} (h : ExG da ds ms fun x m1 => ExG db ds m1 fun y m2 => OpG f x y m2 fun z m3 => mChain f' dc ds y z m3 P) : dChain f f' da db dc ds ms P := h
theorem w_mChain {f' : OF} (h : if b = true then ExG dc ds m fun w m4 => OpG f' y w m4 P else P (.bl false) m) : mChain f' dc ds y (.bl b) m P := h
def mIs (neg : Bool) (x y : D) (m : MS) (P : D → MS → Prop) : Prop := fIsB neg x y m P
theorem w_is (h : mIs false x y ms P) : fIs x y ms P := h
theorem w_notIs (h : mIs true x y ms P) : fNotIs x y ms P := h
theorem w_mIsN {neg z : Bool} (e : nonD x = some z) (h : P (.bl (Bool.xor neg z)) ms) : mIs neg x .non ms P := by unfold mIs fIsB; simp only [e]; exact h
theorem w_mIsB {neg a c : Bool} (h : P (.bl (Bool.xor neg (decide (a = c)))) ms) : mIs neg (.bl a) (.bl c) ms P := h
end
end
section
variable {E : EN} {ds : DS} {ms : MS} {P : D → MS → Prop} {t u : DTS} {de da db : DE} {dt du : DT} {g : DG} {gs : DGs} {aa ak : DA} {di : DI} {d : D} {n k i : Nat} {PT : Bool → MS → Prop} {PS : DS → Prop} {f : OF} {c : CF} {is : List Nat} {fs : FS}
theorem r_nx (h : NxG E ds ms) : E.nx ds ms := h
theorem r_rt (h : RtG E d ms) : E.rt d ms := h
theorem r_seq (h : StG (dSeq t u) E ds ms) : dSeq t u E ds ms := h
theorem r_ret (h : StG (dRet de) E ds ms) : dRet de E ds ms := h
theorem r_ifS (h : StG (dIfS dt t u) E ds ms) : dIfS dt t u E ds ms := h
theorem r_asg (h : StG (dAsg de g) E ds ms) : dAsg de g E ds ms := h
theorem r_drop (h : StG (dDrop de) E ds ms) : dDrop de E ds ms := h
theorem r_for (h : StG (dFor di g t) E ds ms) : dFor di g t E ds ms := h
theorem r_exprZ {dz : ZD → DE} (h : StG (dExprZ dz) E ds ms) : dExprZ dz E ds ms := h
theorem r_name (h : TgG (sName i) d ds PS) : sName i d ds PS := h
theorem r_stup (h : TgG (sTup n gs) d ds PS) : sTup n gs d ds PS := h
theorem r_op (h : ExG (dOp f da db) ds ms P) : dOp f da db ds ms P := h
theorem r_call (h : ExG (dCall n k is fs aa ak) ds ms P) : dCall n k is fs aa ak ds ms P := h
theorem r_cb (h : ExG (dCB c aa) ds ms P) : dCB c aa ds ms P := h
theorem r_var (h : ExG (dVar i) ds ms P) : dVar i ds ms P := h
theorem r_c (h : ExG (dC d) ds ms P) : dC d ds ms P := h
theorem r_tup (h : ExG (dTup aa) ds ms P) : dTup aa ds ms P := h
theorem r_lst (h : ExG (dLst aa) ds ms P) : dLst aa ds ms P := h
theorem r_andV (h : ExG (dAndV da db) ds ms P) : dAndV da db ds ms P := h
theorem r_orV (h : ExG (dOrV da db) ds ms P) : dOrV da db ds ms P := h
theorem r_notV (h : ExG (dNotV da) ds ms P) : dNotV da ds ms P := h
theorem r_if (h : ExG (dIf dt da db) ds ms P) : dIf dt da db ds ms P := h
theorem r_test (h : TsG (dTest da) ds ms PT) : dTest da ds ms PT := h
theorem r_not (h : TsG (dNot dt) ds ms PT) : dNot dt ds ms PT := h
theorem r_and (h : TsG (dAnd dt du) ds ms PT) : dAnd dt du ds ms PT := h
theorem r_or (h : TsG (dOr dt du) ds ms PT) : dOr dt du ds ms PT := h
theorem r_lc {tt : DT} {te : DE} {vs : List Nat} (h : ExG (dLc di g tt te vs) ds ms P) : dLc di g tt te vs ds ms P := h
theorem r_sl {ol oh : DO} (h : ExG (dSl de ol oh) ds ms P) : dSl de ol oh ds ms P := h
theorem r_isi {T : Ty} (h : ExG (dIsi T de) ds ms P) : dIsi T de ds ms P := h
theorem r_chain {f' : OF} {dc : DE} (h : ExG (dChain f f' da db dc) ds ms P) : dChain f f' da db dc ds ms P := h
theorem r_neg (h : ExG (dNeg de) ds ms P) : dNeg de ds ms P := h
end
end DL
namespace DL
open PySem PySem.Spec PyProof.Rows L2
def EN.gone (E : EN) (i : Nat) : EN := { nx := fun ds m => E.nx (ds.set i none) m, rt := E.rt, bk := fun ds m => E.bk (ds.set i none) m, ct := fun ds m => E.ct (ds.set i none) m }
def mTryG (ml : List (Str × Bool)) (i : Nat) (ts : DTS) (E : EN) (c : Str) (ns : List Str) (xs : List D) (ds : DS) (ms : MS) : Prop := match ml.lookup c with
  | some true => ts (EN.gone E i) (setSlot ds i (.exc c ns xs)) ms
  | some false => E.ex c ns xs ds ms
  | none => False
def dTryG (ml : List (Str × Bool)) (i : Nat) (tb ts : DTS) : DTS := fun E ds ms => tb { E with ex := mTryG ml i ts E } ds ms
def dTryG0 (ml : List (Str × Bool)) (i : Nat) (tb ts : DTS) : DTS := fun E ds ms => dTryG ml i tb ts { E with ex := fun _ _ _ _ _ => False } ds ms
section
variable {ml : List (Str × Bool)} {i : Nat} {tb ts : DTS} {E : EN} {ds ds' : DS} {ms : MS} {c : Str} {ns : List Str} {xs : List D} {d : D}
theorem w_tryG (h : StG tb (EN.wx E (mTryG ml i ts E)) ds ms) : dTryG ml i tb ts E ds ms := h
theorem w_tryG0 (h : StG (dTryG ml i tb ts) (EN.wx E fun _ _ _ _ _ => False) ds ms) : dTryG0 ml i tb ts E ds ms := h
theorem w_mTryG (e : ml.lookup c = some true) (e2 : setSlot ds i (.exc c ns xs) = ds') (h : StG ts (EN.gone E i) ds' ms) : mTryG ml i ts E c ns xs ds ms := by
  unfold mTryG; rw [e]; subst e2; exact h
theorem w_mTryGF (e : ml.lookup c = some false) (h : XcG E c ns xs ds ms) : mTryG ml i ts E c ns xs ds ms := by
  unfold mTryG; rw [e]; exact h
theorem n_gone (e : ds.set i none = ds') (h : NxG E ds' ms) : NxG (EN.gone E i) ds ms := by subst e; exact h
theorem t_gone (h : RtG E d ms) : RtG (EN.gone E i) d ms := h
theorem b_gone (e : ds.set i none = ds') (h : BkG E ds' ms) : BkG (EN.gone E i) ds ms := by subst e; exact h
theorem c_gone (e : ds.set i none = ds') (h : CtG E ds' ms) : CtG (EN.gone E i) ds ms := by subst e; exact h
end
def dCallA (n m : Nat) (is : List Nat) (fs : FS) (dd : List D) (aa ak : DA) : DE := fun ds ms P => aa ds ms fun xs m1 => ak ds m1 fun zs m2 => xs.length = n ∧ zs.length = m ∧ fs (pick is (xs ++ (zs ++ dd))) m2 P
def dCallAZ (n m : Nat) (is : List Nat) (fx : FX) (dd : List D) (aa ak : DA) (Z : ZD) : DE := fun ds ms P => aa ds ms fun xs m1 => ak ds m1 fun zs m2 => xs.length = n ∧ zs.length = m ∧ fx (pick is (xs ++ (zs ++ dd))) m2 P fun c ns ys m' => Z c ns ys ds m'
section
variable {n k : Nat} {is : List Nat} {fs : FS} {fx : FX} {dd xs zs ys : List D} {aa ak : DA} {ds : DS} {ms m : MS} {P : D → MS → Prop} {Z : ZD}
def mCallA (n k : Nat) (is : List Nat) (fs : FS) (dd xs zs : List D) (m : MS) (P : D → MS → Prop) : Prop := xs.length = n ∧ zs.length = k ∧ fs (pick is (xs ++ (zs ++ dd))) m P
theorem w_callA (h : ArG aa ds ms fun xs m1 => ArG ak ds m1 fun zs m2 => mCallA n k is fs dd xs zs m2 P) : dCallA n k is fs dd aa ak ds ms P := h
theorem w_mCallA (e1 : xs.length = n) (e2 : zs.length = k) (e : pick is (xs ++ (zs ++ dd)) = ys) (h : fs ys m P) : mCallA n k is fs dd xs zs m P := ⟨e1, e2, by rw [e]; exact h⟩
def mCallAZ (n k : Nat) (is : List Nat) (fx : FX) (dd : List D) (Z : ZD) (ds : DS) (xs zs : List D) (m : MS) (P : D → MS → Prop) : Prop := xs.length = n ∧ zs.length = k ∧ fx (pick is (xs ++ (zs ++ dd))) m P fun c ns ys m' => Z c ns ys ds m'
theorem w_callAZ (h : ArG aa ds ms fun xs m1 => ArG ak ds m1 fun zs m2 => mCallAZ n k is fx dd Z ds xs zs m2 P) : dCallAZ n k is fx dd aa ak Z ds ms P := h
theorem w_mCallAZ (e1 : xs.length = n) (e2 : zs.length = k) (e : pick is (xs ++ (zs ++ dd)) = ys) (h : fx ys m P fun c ns ys m' => Z c ns ys ds m') : mCallAZ n k is fx dd Z ds xs zs m P := ⟨e1, e2, by rw [e]; exact h⟩
end
end DL
namespace DL
open PySem PySem.Spec PyProof.Rows L2
def asT (d : D) (ms : MS) : Option (List D) := match d with
  | .tup xs => some xs
  | d => asL d ms
def aStar (de : DE) (da : DA) : DA := fun ds ms P => de ds ms fun d m1 => match asT d m1 with
  | some xs => da ds m1 fun ys m2 => P (xs ++ ys) m2
  | none => False
section
variable {X : Cx} {K : PySem.W.Frag} {da : DE} {e : Expr} {es : List Expr} {p : Pos} {aa : DA}
theorem Rel.asT {F H : Hp} {ms : MS} (R : Rel K F H ms) {v : V} {d : D} {xs : List D} (r : DR K F v d) (h : asT d ms = some xs) : ∃ a vs, v = .ref a ∧ (SqT K H a vs ∨ SqL K H a vs) ∧ DRs K F vs xs := by
  cases r with
  | tup h1 h2 => cases h; exact ⟨_, _, rfl, .inl (R.sub.sqT h1), h2⟩
  | lst h1 h2 => obtain ⟨a, vs, e, h3, h4⟩ := R.asL (.lst h1 h2) h; exact ⟨a, vs, e, .inr h3, h4⟩
  | fro h1 h2 => obtain ⟨a, vs, e, h3, h4⟩ := R.asL (.fro h1 h2) h; exact ⟨a, vs, e, .inr h3, h4⟩
  | opq v => obtain ⟨a, vs, e, h3, h4⟩ := R.asL (.opq v) h; exact ⟨a, vs, e, .inr h3, h4⟩
  | _ => cases h
theorem pda_star (ha : PD X e da) (hr : PDA X es aa) (hs : starEach (.Starred e p :: es) X.env = (true, eval e X.env) :: starEach es X.env := by rfl) : PDA X (.Starred e p :: es) (aStar da aa) :=
  paImp (StX.pa_star ha hr hs) fun σ H Q ⟨F, ds, ms, P, R, S, h1, h2⟩ =>
    ⟨F, ds, ms, _, R, S, h1, fun dx m1 x F1 H1 p1 R1 s1 r1 => by
      revert p1
      split
      · rename_i xs e1
        intro p1
        obtain ⟨a, vs, rfl, h3, h4⟩ := R1.asT r1 e1
        exact ⟨a, vs, rfl, h3, F1, ds, m1, _, R1, S.mono s1.sub, p1, fun ys m2 ws F2 H2 p2 R2 s2 r2 =>
          h2 _ m2 (vs ++ ws) F2 H2 p2 R2 (s1.trans s2) ((h4.mono s2.sub).append r2)⟩
      · intro p1; exact p1.elim⟩
end
end DL
namespace DL
open PySem PySem.Spec PyProof.Rows L2
def dLcM (di : DI) (g : DG) (tt : DT) (te : DE) (vs : List Nat) : DE := fun ds ms P => di ds ms fun xs m => compD g tt te (wipeD ds vs) xs [] m fun ys m' => ∀ p, (∀ q ∈ m', q.1 ≠ p) → P (.opq (.ref p)) ((p, ys) :: m')
section
variable {K : PySem.W.Frag} {di : DI} {dg : DG} {tt : DT} {te : DE} {g : TG} {vs : List Nat}
theorem lift_lcM (hg : TgD K g dg vs) (hm : MonG g) : ∀ σ H Q, lift K (dLcM di dg tt te vs) σ H Q → tLc (liftI K di) g (liftT K tt) (lift K te) vs σ H Q := fun σ H Q ⟨F, ds, ms, P, R, S, h, q⟩ => by
  refine ⟨F, ds, ms, _, R, S, h, fun xs m F0 H0 J p0 R0 s0 wk L hL => ?_⟩
  have nL : F0 L = none := R0.sub.none hL
  have nM : ∀ p ∈ m, p.1 ≠ L := fun p hp => by
    obtain ⟨_, ws, h2, _⟩ := R0.mu p hp
    exact ne_of_none h2 hL
  refine lc_it wk (fun i H1 => ∃ F1 m1 acc av, Rel K F1 H1 m1 ∧ Stp F0 H0 m F1 H1 m1 ∧ H1 L = some (.lst av) ∧ F1 L = none ∧ (∀ p ∈ m1, p.1 ≠ L) ∧ DRs K F1 av acc ∧ compD dg tt te (wipeD ds vs) (xs.drop i) acc m1 fun ys m' => ∀ p, (∀ q ∈ m', q.1 ≠ p) → P (.opq (.ref p)) ((p, ys) :: m'))
    ⟨F0, m, [], [], R0.lay hL, ⟨Sub.refl F0, fun a u h1 _ _ => by rw [upd_ne (ne_of_none h1 hL)]; exact h1, fun _ _ h => .inl h, fun q hq => .inl ⟨q, hq, rfl⟩⟩, upd_same, nL, nM, .nil, p0⟩
    (fun i H1 _ ⟨F1, m1, acc, av, R1, s1, _⟩ => s1.sub.trans R1.sub) ?_ ?_
  · rintro i x H1 H2 hi ⟨F1, m1, acc, av, R1, s1, hD, hF, hM, ra, h1⟩ ⟨d, hd, hy⟩
    rw [drop_get hd] at h1
    have fin : ∀ {F2 : Hp} {x : V}, Rel K F2 H2 m1 → Stp F0 H0 m F2 H2 m1 → Sub F1 F2 → DR K F2 x d → H2 L = some (.lst av) → F2 L = none →
        g x (L2.wipe σ vs) H2 fun σ2 H3 => L2.wipe σ2 vs = L2.wipe σ vs ∧ liftT K tt σ2 H3 fun b H4 => if b = true then lift K te σ2 H4 fun y H5 => ∃ acc, H5 L = some (.lst acc) ∧ acc.length < sizeLine ∧
          (∃ F1 m1 acc' av, Rel K F1 (upd H5 L (.lst (acc ++ [y]))) m1 ∧ Stp F0 H0 m F1 (upd H5 L (.lst (acc ++ [y]))) m1 ∧ (upd H5 L (.lst (acc ++ [y]))) L = some (.lst av) ∧ F1 L = none ∧ (∀ p ∈ m1, p.1 ≠ L) ∧ DRs K F1 av acc' ∧ compD dg tt te (wipeD ds vs) (xs.drop (i + 1)) acc' m1 fun ys m' => ∀ p, (∀ q ∈ m', q.1 ≠ p) → P (.opq (.ref p)) ((p, ys) :: m'))
          else ∃ F1 m1 acc av, Rel K F1 H4 m1 ∧ Stp F0 H0 m F1 H4 m1 ∧ H4 L = some (.lst av) ∧ F1 L = none ∧ (∀ p ∈ m1, p.1 ≠ L) ∧ DRs K F1 av acc ∧ compD dg tt te (wipeD ds vs) (xs.drop (i + 1)) acc m1 fun ys m' => ∀ p, (∀ q ∈ m', q.1 ≠ p) → P (.opq (.ref p)) ((p, ys) :: m') := by
      intro F2 x R2 s2 s12 rx hD2 hF2
      have hw := hg.wip x (L2.wipe σ vs) H2 _ (hg.snd x (L2.wipe σ vs) F2 H2 (fun σ2 H3 => H3 = H2 ∧ ∃ ds2, Sl K F2 σ2 ds2 ∧ tt ds2 m1 fun b m3 => if b = true then te ds2 m3 fun y m4 => acc.length < sizeLine ∧ compD dg tt te (wipeD ds vs) (xs.drop (i + 1)) (acc ++ [y]) m4 fun ys m' => ∀ p, (∀ q ∈ m', q.1 ≠ p) → P (.opq (.ref p)) ((p, ys) :: m') else compD dg tt te (wipeD ds vs) (xs.drop (i + 1)) acc m3 fun ys m' => ∀ p, (∀ q ∈ m', q.1 ≠ p) → P (.opq (.ref p)) ((p, ys) :: m')) d (wipeD ds vs) _ R2.sub ((S.wipe vs).mono (s0.sub.trans s2.sub)) rx h1 fun ds2 σ2 h2 S2 => ⟨rfl, ds2, S2, h2⟩)
      refine hm _ _ _ _ _ ?_ hw
      rintro σ2 H3 ⟨e1, rfl, ds2, S2, h2⟩
      refine ⟨e1.trans (wipe_wipe fun u hu => hu), F2, ds2, m1, _, R2, S2, h2, fun b m4 F4 H4 p4 R4 s4 => ?_⟩
      obtain ⟨hD4, hF4, hM4⟩ := s4.kp hD2 hF2 hM
      cases b with
      | false =>
        rw [if_neg Bool.false_ne_true] at p4 ⊢
        exact ⟨F4, m4, acc, av, R4, s2.trans s4, hD4, hF4, hM4, (ra.mono s12).mono s4.sub, p4⟩
      | true =>
        rw [if_pos rfl] at p4 ⊢
        refine ⟨F4, ds2, m4, _, R4, S2.mono s4.sub, p4, fun y m5 v5 F5 H5 p5 R5 s5 r5 => ?_⟩
        obtain ⟨hD5, hF5, hM5⟩ := s5.kp hD4 hF4 hM4
        have ra5 := ((ra.mono s12).mono s4.sub).mono s5.sub
        have s05 := (s2.trans s4).trans s5
        refine ⟨av, hD5, by rw [ra.length]; exact p5.1, F5, m5, acc ++ [y], av ++ [v5], ?_, ?_, upd_same, hF5, hM5, ra5.append (.cons r5 .nil), p5.2⟩
        · refine ⟨fun b u e => ?_, fun p hp => ?_, R5.nd, R5.one⟩
          · rw [upd_ne (fun z => by rw [z, hF5] at e; cases e)]; exact R5.sub b u e
          · obtain ⟨z1, ws, z2, z3⟩ := R5.mu p hp
            exact ⟨z1, ws, by rw [upd_ne (hM5 p hp)]; exact z2, z3⟩
        · exact ⟨s05.sub, fun a u z1 z2 z3 => by rw [upd_ne (ne_of_none z1 hL)]; exact s05.keep a u z1 z2 z3, s05.newF, s05.newM⟩
    rcases hy with ⟨rfl, rx⟩ | ⟨T, a, b, da, db, rfl, hT, rfl, rfl, ra', rb'⟩
    · exact fin R1 s1 (Sub.refl F1) (rx.mono s1.sub) hD hF
    · have hne : L ≠ T := ne_of_none hD hT
      exact fin (R1.new hT) (s1.trans (Stp.new R1 hT)) (Sub.new (R1.sub.none hT)) (R1.newTup hT (.cons (ra'.mono s1.sub) (.cons (rb'.mono s1.sub) .nil))) (by rw [upd_ne hne]; exact hD) (by rw [upd_ne hne]; exact hF)
  · rintro H1 ⟨F1, m1, acc, av, R1, s1, hD, hF, hM, ra, h1⟩
    rw [List.drop_length] at h1
    refine q _ ((L, acc) :: m1) (.ref L) F1 H1 (h1 L hM) ?_ (s0.trans ?_) (.opq _)
    · refine ⟨R1.sub, fun p hp => ?_, ?_, R1.one⟩
      · rcases List.mem_cons.mp hp with rfl | hp
        · exact ⟨hF, av, by rw [cell_no ra.no]; exact hD, by rw [body_no ra.no]; exact ra⟩
        · exact R1.mu p hp
      · rw [List.map_cons, List.nodup_cons]
        refine ⟨fun hm => ?_, R1.nd⟩
        obtain ⟨q, hq, e⟩ := List.mem_map.mp hm
        exact hM q hq e
    · refine ⟨s1.sub, s1.keep, s1.newF, fun p hp => ?_⟩
      rcases List.mem_cons.mp hp with rfl | hp
      · exact .inr (.inl hL)
      · exact s1.newM p hp
end
section
variable {X : Cx} {elt tg iter : Expr} {ifs : List Expr} {scope : Scope} {own : List (Str × Nat)} {pos spos py : Pos} {di : DI} {g : TG} {dg : DG} {tt : DT} {te : DE} {i : Nat} {y : Str}
theorem pd_lcM (hc : X.calm = true) (hN : X.N.Nodup) (hi : PDI X tg iter di) (ok : BlkOk X.N X.env.scope scope own)
    (hg : ∀ (s : Shared) (H : Hp) (C : Addr) (cl : List (Str × Addr)) (fp : List Addr), PG (X.blk s H scope (compEnvC scope cl C X.env) fp) tg g)
    (hd : TgD X.K g dg (own.map (·.2))) (hm : MonG g)
    (ht : ∀ (s : Shared) (H : Hp) (C : Addr) (cl : List (Str × Addr)) (fp : List Addr), PDTs (X.blk s H scope (compEnvC scope cl C X.env) fp) ifs tt)
    (he : ∀ (s : Shared) (H : Hp) (C : Addr) (cl : List (Str × Addr)) (fp : List Addr), PD (X.blk s H scope (compEnvC scope cl C X.env) fp) elt te)
    (hs : ∀ x, foldedSetIterable iter X.env x = pure x := by intro _; rfl) :
    PD X (.ListComp elt [⟨tg, iter, ifs, 0⟩] scope pos) (dLcM di dg tt te (own.map (·.2))) :=
  peImp (pe_lc hc hN hi ok hg ht he hs) (lift_lcM hd hm)
theorem pds_setLcM (hc : X.calm = true) (hN : X.N.Nodup) (hy : X.N[i]? = some y) (hyl : X.env.scope.names.lookup y = some .local)
    (hsw : swapsWith (.ListComp elt [⟨tg, iter, ifs, 0⟩] scope pos) (some (.Name y py)) spos.line X.env = pure true) (hi : PDI X tg iter di) (ok : BlkOk X.N X.env.scope scope own)
    (hg : ∀ (s : Shared) (H : Hp) (C : Addr) (cl : List (Str × Addr)) (fp : List Addr), PG (X.blk s H scope (compEnvC scope cl C X.env) fp) tg g)
    (hd : TgD X.K g dg (own.map (·.2))) (hm : MonG g)
    (ht : ∀ (s : Shared) (H : Hp) (C : Addr) (cl : List (Str × Addr)) (fp : List Addr), PDTs (X.blk s H scope (compEnvC scope cl C X.env) fp) ifs tt)
    (he : ∀ (s : Shared) (H : Hp) (C : Addr) (cl : List (Str × Addr)) (fp : List Addr), PD (X.blk s H scope (compEnvC scope cl C X.env) fp) elt te)
    (hs : ∀ x, foldedSetIterable iter X.env x = pure x := by intro _; rfl) :
    PDS X (.Assign [.Name y py] (.ListComp elt [⟨tg, iter, ifs, 0⟩] scope pos) spos) (dAsg (dLcM di dg tt te (own.map (·.2))) (sName i)) :=
  psImp (ps_setLc hc hN hy hyl hsw hi ok hg ht he hs) fun D σ H h => by
    obtain ⟨F, ds, ms, P, R, S, z1, z2⟩ := h
    exact lift_lcM hd hm σ H _ ⟨F, ds, ms, _, R, S, z1, fun d m v F1 H1 p1 R1 s1 r1 => z2.1 _ m _ F1 H1 p1 R1 s1 ((S.mono s1.sub).set r1 i)⟩
end
/-- a + b, lists, written to -/
def fAddM : OF := fun x y ms P => match x, y with
  | .lst a, .lst b => a.length + b.length ≤ sizeLine ∧ ∀ p, (∀ q ∈ ms, q.1 ≠ p) → P (.opq (.ref p)) ((p, a ++ b) :: ms)
  | _, _ => False
/-- list(x), written to -/
def cListM : CF := fun xs ms P => match xs with
  | [.tup ys] => ∀ p, (∀ q ∈ ms, q.1 ≠ p) → P (.opq (.ref p)) ((p, ys) :: ms)
  | [.lst ys] => ∀ p, (∀ q ∈ ms, q.1 ≠ p) → P (.opq (.ref p)) ((p, ys) :: ms)
  | _ => False
theorem cal_listM {K : PySem.W.Frag} : CalD K (fun xs H Q => ∃ p ys, xs = [.ref p] ∧ (SqL K H p ys ∨ SqT K H p ys) ∧ ∀ l, H l = none → Q (.ref l) (upd H l (.lst ys))) cListM := fun F H ms vs xs P Q R r h q => by
  match xs, r, h with
  | a :: _ :: _, _, h => cases a <;> exact h.elim
  | [d], .cons (v := v) rd .nil, h =>
    cases rd with
    | tup ha hs => exact ⟨_, _, rfl, .inr (R.sub.sqT ha), fun l hl => q _ _ _ F _ (h l (R.newMut hl hs).1) (R.newMut hl hs).2 (Stp.newMut hl) (.opq _)⟩
    | lst ha hs => exact ⟨_, _, rfl, .inl (SqL.of (R.sub _ _ ha)), fun l hl => q _ _ _ F _ (h l (R.newMut hl hs).1) (R.newMut hl hs).2 (Stp.newMut hl) (.opq _)⟩
    | _ => exact h.elim
theorem w_listM_t {ys : List D} {ms : MS} {P : D → MS → Prop} (h : ∀ p, (∀ q ∈ ms, q.1 ≠ p) → P (.opq (.ref p)) ((p, ys) :: ms)) : cListM [.tup ys] ms P := h
theorem w_listM_l {ys : List D} {ms : MS} {P : D → MS → Prop} (h : ∀ p, (∀ q ∈ ms, q.1 ≠ p) → P (.opq (.ref p)) ((p, ys) :: ms)) : cListM [.lst ys] ms P := h
/-- ahead of a statement a list that changes no more is made fast -/
def dFrzS (i : Nat) (t : DTS) : DTS := fun E ds ms => match slot ds i with
  | some (.opq (.ref p)) => (match look ms p with
    | some xs => t E (setSlot ds i (.lst xs)) (drp ms p)
    | none => False)
  | _ => False
theorem setSlot_σ : ∀ {K : PySem.W.Frag} {F : Hp} {σ : L2.St} {ds : DS} {i : Nat} {v : V} {d : D}, Sl K F σ ds → σ[i]? = some (some v) → DR K F v d → Sl K F σ (setSlot ds i d)
  | _, _, _, _, i, _, _, .nil, _, _ => by cases i <;> exact .nil
  | _, _, _, _, 0, _, _, .sm h r, e, q => by cases e; exact .sm q r
  | _, _, _, _, 0, _, _, .nn r, e, q => by
    have e' := Option.some.inj e
    subst e'
    exact .sm q r
  | _, _, _, _, i + 1, _, _, .sm h r, e, q => .sm h (setSlot_σ (i := i) r e q)
  | _, _, _, _, i + 1, _, _, .nn r, e, q => .nn (setSlot_σ (i := i) r e q)
theorem liftS_frz {K : PySem.W.Frag} {t : DTS} {i : Nat} : ∀ D σ H, liftS K (dFrzS i t) D σ H → liftS K t D σ H := fun D σ H ⟨F, ds, ms, E, R, S, h, n, r, k, q⟩ => by
  unfold dFrzS at h
  split at h
  · rename_i p e
    split at h
    · rename_i xs e1
      obtain ⟨v, hv, hr⟩ := S.get e
      cases hr
      obtain ⟨vs, z1, z2, z3⟩ := relFrz R e1
      exact ⟨_, _, _, E, z1, setSlot_σ (S.mono z2.sub) hv z3, h, fun ds' m' σ' F' H' h' R' s' S' => n ds' m' σ' F' H' h' R' (z2.trans s') S', fun d m' v' F' H' h' R' s' r' => r d m' v' F' H' h' R' (z2.trans s') r',
        fun ds' m' σ' F' H' h' R' s' S' => k ds' m' σ' F' H' h' R' (z2.trans s') S', fun ds' m' σ' F' H' h' R' s' S' => q ds' m' σ' F' H' h' R' (z2.trans s') S'⟩
    · exact h.elim
  · exact h.elim
theorem pds_frz {X : Cx} {st : Stmt} {t : DTS} {i : Nat} (h : PDS X st t) : PDS X st (dFrzS i t) := psImp h liftS_frz
theorem w_frzS {t : DTS} {E : EN} {ds ds' : DS} {ms ms' : MS} {i : Nat} {p : Addr} {xs : List D} (e : slot ds i = some (.opq (.ref p))) (e1 : look ms p = some xs) (e2 : setSlot ds i (.lst xs) = ds') (e3 : drp ms p = ms') (h : StG t E ds' ms') : dFrzS i t E ds ms := by
  unfold dFrzS; simp only [e, e1, e2, e3]; exact h
theorem w_lcM {di : DI} {g : DG} {tt : DT} {te : DE} {vs : List Nat} {ds : DS} {ms : MS} {P : D → MS → Prop} (h : ItG di ds ms fun xs m => compD g tt te (wipeD ds vs) xs [] m fun ys m' => ∀ p, (∀ q ∈ m', q.1 ≠ p) → P (.opq (.ref p)) ((p, ys) :: m')) : dLcM di g tt te vs ds ms P := h
theorem w_addM {a c : List D} {ms : MS} {P : D → MS → Prop} (h : a.length + c.length ≤ sizeLine ∧ ∀ p, (∀ q ∈ ms, q.1 ≠ p) → P (.opq (.ref p)) ((p, a ++ c) :: ms)) : fAddM (.lst a) (.lst c) ms P := h
mutual
def flat : D → Bool
  | .non => true
  | .bl _ => true
  | .int _ => true
  | .str _ => true
  | .tup xs => flats xs
  | .opq _ => true
  | .lst _ => false
  | .fro _ => false
  | .edic => false
  | .dct _ => false
  | .exc _ _ _ => false
  | .fld _ _ _ => true
  | .kls _ => true
def flats : List D → Bool
  | [] => true
  | x :: r => flat x && flats r
end
def flatM (ms : MS) : Prop := ∀ q ∈ ms, flats q.2 = true
theorem flats_body {xs : List D} (h : flats xs = true) : flats (body xs) = true := by
  cases x : nofld xs with
  | true => rw [body_no x]; exact h
  | false =>
    cases xs with
    | nil => cases x
    | cons d r =>
      cases d with
      | fld _ _ _ => exact (Bool.and_eq_true_iff.mp h).2
      | _ => cases x
mutual
theorem DR.flat {K : PySem.W.Frag} {F F' : Hp} (e : ∀ b vs, (F b = some (.tup vs) → F' b = some (.tup vs)) ∧ ∀ o, F b = some (.frz o (.tup vs)) → F' b = some (.frz o (.tup vs))) : ∀ {v : V} {d : D}, flat d = true → DR K F v d → DR K F' v d
  | _, _, _, .non => .non
  | _, _, _, .bl b => .bl b
  | _, _, _, .int i => .int i
  | _, _, _, .str x => .str x
  | _, _, h, .tup (a := a) (xs := xs) hq hs => .tup (by
      rcases hq with (h1 | ⟨o, h1⟩) | h1
      · exact .inl (.inl ((e _ _).1 h1))
      · exact .inl (.inr ⟨o, (e _ _).2 o h1⟩)
      · exact .inr h1) (DRs.flat e h hs)
  | _, _, _, .opq v => .opq v
  | _, _, h, .lst _ _ => by cases h
  | _, _, h, .fro _ _ => by cases h
  | _, _, h, .edic _ => by cases h
  | _, _, h, .dct _ => by cases h
  | _, _, h, .exc _ _ _ _ => by cases h
  | _, _, _, .kls h => .kls h
theorem DRs.flat {K : PySem.W.Frag} {F F' : Hp} (e : ∀ b vs, (F b = some (.tup vs) → F' b = some (.tup vs)) ∧ ∀ o, F b = some (.frz o (.tup vs)) → F' b = some (.frz o (.tup vs))) : ∀ {vs : List V} {ds : List D}, flats ds = true → DRs K F vs ds → DRs K F' vs ds
  | _, _, _, .nil => .nil
  | _, _, h, .cons h1 h2 => .cons (DR.flat e (Bool.and_eq_true_iff.mp h).1 h1) (DRs.flat e (Bool.and_eq_true_iff.mp h).2 h2)
end
def dLoan (i : Nat) (de : DE) : DE := fun ds ms P => match slot ds i with
  | some (.opq (.ref p)) => (match look ms p with
    | some xs => de (setSlot ds i (.lst xs)) (drp ms p) fun d m => flat d = true ∧ flatM m ∧ P d ((p, xs) :: m)
    | none => False)
  | _ => False
theorem w_loan {i : Nat} {de : DE} {ds ds' : DS} {ms ms' : MS} {P : D → MS → Prop} {p : Addr} {xs : List D} (e : slot ds i = some (.opq (.ref p))) (e1 : look ms p = some xs) (e2 : setSlot ds i (.lst xs) = ds') (e3 : drp ms p = ms') (h : ExG de ds' ms' fun d m => flat d = true ∧ flatM m ∧ P d ((p, xs) :: m)) : dLoan i de ds ms P := by
  unfold dLoan; simp only [e, e1, e2, e3]; exact h
def mSetIx (E : EN) (ds : DS) (v o i : D) (m3 : MS) : Prop := match o, i with
  | .opq (.ref p), .int k => (match look m3 p with
    | some xs => (match ixN xs.length k with
      | some j => E.nx ds (put m3 p (xs.set j v))
      | none => False)
    | none => False)
  | _, _ => False
theorem w_setIx {do_ di dv : DE} {E : EN} {ds : DS} {ms : MS} (h : ExG dv ds ms fun v m1 => ExG do_ ds m1 fun o m2 => ExG di ds m2 fun i m3 => mSetIx E ds v o i m3) : dSetIx do_ di dv E ds ms := h
theorem w_mSetIx {E : EN} {ds : DS} {v : D} {p : Addr} {k : Int} {m m' : MS} {xs : List D} {j : Nat} (e : look m p = some xs) (e2 : ixN xs.length k = some j) (e3 : put m p (xs.set j v) = m') (h : NxG E ds m') : mSetIx E ds v (.opq (.ref p)) (.int k) m := by
  unfold mSetIx; simp only [e, e2, e3]; exact h
end DL
namespace DL
open PySem PySem.Spec PyProof.Rows L2
/-- C(..), an own class without an __init__ -/
def dMk0 (c : Str) (aa : DA) : DE := fun ds ms P => aa ds ms fun xs m => xs.length ≤ sizeLine ∧ P (.exc c [] []) m
/-- C(..), an own class that keeps its arguments -/
def dMkI (c : Str) (fs : List Str) (aa : DA) : DE := fun ds ms P => aa ds ms fun xs m => xs.length = fs.length ∧ P (.exc c fs xs) m
structure CntOk (a : List D) (d : D) (n : Nat) : Prop where
  ex : ∃ ps q, toPys a = some ps ∧ toPy d = some q ∧ PyData.plainAll ps = true ∧ q.plain = true ∧ q.depth ≤ 60 ∧ n = ps.countP fun y => PyData.eqv y q
def dCount (dx : DE) (aa : DA) : DE := fun ds ms P => dx ds ms fun x m1 => match x with
  | .lst a => aa ds m1 fun ys m2 => (match ys with
    | [y] => ∃ n, CntOk a y n ∧ P (.int n) m2
    | _ => False)
  | _ => False
section
variable {ds : DS} {ms m : MS} {P : D → MS → Prop} {aa : DA} {dx : DE} {c : Str} {fs : List Str} {xs ys : List D} {A : Prop} {α β : Type} {u : List α} {v : List β}
theorem w_mk0 (h : ArG aa ds ms fun xs m => xs.length ≤ sizeLine ∧ P (.exc c [] []) m) : dMk0 c aa ds ms P := h
theorem w_mkI (h : ArG aa ds ms fun xs m => xs.length = fs.length ∧ P (.exc c fs xs) m) : dMkI c fs aa ds ms P := h
theorem w_lenq (e : u.length = v.length) (h : A) : u.length = v.length ∧ A := ⟨e, h⟩
def mCnt (aa : DA) (ds : DS) (x : D) (m : MS) (P : D → MS → Prop) : Prop := match x with
  | .lst a => aa ds m fun ys m2 => (match ys with
    | [y] => ∃ n, CntOk a y n ∧ P (.int n) m2
    | _ => False)
  | _ => False
def mCnt2 (a ys : List D) (m : MS) (P : D → MS → Prop) : Prop := match ys with
  | [y] => ∃ n, CntOk a y n ∧ P (.int n) m
  | _ => False
theorem w_count (h : ExG dx ds ms fun x m => mCnt aa ds x m P) : dCount dx aa ds ms P := h
theorem w_mCnt (h : ArG aa ds m fun ys m2 => mCnt2 xs ys m2 P) : mCnt aa ds (.lst xs) m P := h
end
end DL
namespace DL
open PySem PySem.Spec PyProof.Rows L2
abbrev MF := Str → List D → MS → (D → MS → Prop) → Prop
def dM1 (f : MF) (dx dy : DE) : DE := fun ds ms P => dx ds ms fun x m1 => match x with
  | .str a => dy ds m1 fun y m2 => f a [y] m2 P
  | _ => False
def mPart : MF := fun a ys ms P => match ys with
  | [.str b] => (b.length == 0) = false ∧ a.length ≤ sizeLine ∧ P (.tup [.str (Txt.partition a b).1, .str (Txt.partition a b).2.1, .str (Txt.partition a b).2.2]) ms
  | _ => False
def mStarts : MF := fun a ys ms P => match ys with
  | [.str b] => P (.bl (Txt.startswith a b)) ms
  | _ => False
def mEnds : MF := fun a ys ms P => match ys with
  | [.str b] => P (.bl (Txt.endswith a b)) ms
  | _ => False
def mSplit : MF := fun a ys ms P => match ys with
  | [.str b] => (b.length == 0) = false ∧ a.length + 2 ≤ sizeLine ∧ P (.lst ((Txt.split a b).map D.str)) ms
  | _ => False
def mZfill : MF := fun a ys ms P => match ys with
  | [.int i] => PadOk i = true ∧ P (.str (Txt.zfill a i)) ms
  | _ => False
def mRemSuf : MF := fun a ys ms P => match ys with
  | [.str b] => a.length ≤ sizeLine ∧ P (.str (Txt.removesuffix a b)) ms
  | _ => False
def dJoinRev (dx dy : DE) : DE := fun ds ms P => dx ds ms fun x m1 => match x with
  | .str a => dy ds m1 fun y m2 => ∃ zs : List Str, asL y m2 = some (zs.map D.str) ∧ (zs.reverse.map (·.length)).sum + zs.reverse.length * a.length ≤ 16777216 ∧ P (.str (Txt.join a zs.reverse)) m2
  | _ => False
def cDivmod : CF := fun xs ms P => match xs with
  | [.int i, .int j] => CDivP i j ∧ P (.tup [.int (i / j), .int (i % j)]) ms
  | _ => False
def fInS (neg : Bool) : OF := fun x y ms P => match x, y with
  | .str a, .str z => ∃ c : Nat, a = ⟨#[c]⟩ ∧ P (.bl (Bool.xor neg (decide (c ∈ z.cps.toList)))) ms
  | _, _ => False
def fInSign : OF := fInS false
def fNotInSign : OF := fInS true
theorem opd_inSign {K : PySem.W.Frag} : OpD K (fun x y H Q => ∃ (c : Nat) (z : Str), x = .str ⟨#[c]⟩ ∧ y = .str z ∧ Q (.bl (decide (c ∈ z.cps.toList))) H) fInSign := fun F H ms x y dx dy P Q R rx ry h q => by
  match dx, dy, h, rx, ry with
  | .str a, .str z, ⟨c, e, h⟩, .str _, .str _ => subst e; exact ⟨c, z, rfl, rfl, by simpa using q _ ms _ F H h R Stp.refl (.bl _)⟩
def dFmt (de : DE) : DE := fun ds ms P => de ds ms fun x m => match x with
  | .str y => y.length ≤ sizeLine ∧ P (.str y) m
  | .int i => i.natAbs.log2 < 1920 ∧ P (.str (toString i)) m
  | _ => False
def jsD : List DE → Str → DS → MS → (Str → MS → Prop) → Prop
  | [], acc, _, ms, P => P acc ms
  | t :: ts, acc, ds, ms, P => t ds ms fun x m => match x with
    | .str y => (acc ++ y).length ≤ sizeLine ∧ jsD ts (acc ++ y) ds m P
    | _ => False
def dJoined (ts : List DE) : DE := fun ds ms P => jsD ts Str.empty ds ms fun out m => P (.str out) m
section
variable {ds : DS} {ms m : MS} {P : D → MS → Prop} {dx dy de : DE} {f : MF} {a b z : Str} {i j : Int} {zs : List Str} {ts : List DE} {y d : D}
def mM1 (f : MF) (dy : DE) (ds : DS) (x : D) (m : MS) (P : D → MS → Prop) : Prop := match x with
  | .str a => dy ds m fun y m2 => f a [y] m2 P
  | _ => False
def MtG (f : MF) (a : Str) (ys : List D) (m : MS) (P : D → MS → Prop) : Prop := f a ys m P
theorem w_m1 (h : ExG dx ds ms fun x m => mM1 f dy ds x m P) : dM1 f dx dy ds ms P := h
theorem w_mM1 (h : ExG dy ds m fun y m2 => MtG f a [y] m2 P) : mM1 f dy ds (.str a) m P := h
theorem w_part (h : (b.length == 0) = false ∧ a.length ≤ sizeLine ∧ P (.tup [.str (Txt.partition a b).1, .str (Txt.partition a b).2.1, .str (Txt.partition a b).2.2]) ms) : MtG mPart a [.str b] ms P := h
theorem w_starts (h : P (.bl (Txt.startswith a b)) ms) : MtG mStarts a [.str b] ms P := h
theorem w_ends (h : P (.bl (Txt.endswith a b)) ms) : MtG mEnds a [.str b] ms P := h
theorem w_split (h : (b.length == 0) = false ∧ a.length + 2 ≤ sizeLine ∧ P (.lst ((Txt.split a b).map D.str)) ms) : MtG mSplit a [.str b] ms P := h
theorem w_zfill (h : PadOk i = true ∧ P (.str (Txt.zfill a i)) ms) : MtG mZfill a [.int i] ms P := h
theorem w_remSuf (h : a.length ≤ sizeLine ∧ P (.str (Txt.removesuffix a b)) ms) : MtG mRemSuf a [.str b] ms P := h
def mJr (dy : DE) (ds : DS) (x : D) (m : MS) (P : D → MS → Prop) : Prop := match x with
  | .str a => dy ds m fun y m2 => ∃ zs : List Str, asL y m2 = some (zs.map D.str) ∧ (zs.reverse.map (·.length)).sum + zs.reverse.length * a.length ≤ 16777216 ∧ P (.str (Txt.join a zs.reverse)) m2
  | _ => False
def mJr2 (a : Str) (y : D) (m : MS) (P : D → MS → Prop) : Prop := ∃ zs : List Str, asL y m = some (zs.map D.str) ∧ (zs.reverse.map (·.length)).sum + zs.reverse.length * a.length ≤ 16777216 ∧ P (.str (Txt.join a zs.reverse)) m
theorem w_joinRev (h : ExG dx ds ms fun x m => mJr dy ds x m P) : dJoinRev dx dy ds ms P := h
theorem w_mJr (h : ExG dy ds m fun y m2 => mJr2 a y m2 P) : mJr dy ds (.str a) m P := h
theorem w_divmod (h : CDivP i j ∧ P (.tup [.int (i / j), .int (i % j)]) ms) : cDivmod [.int i, .int j] ms P := h
theorem w_inSign {c : Nat} (h : P (.bl (decide (c ∈ z.cps.toList))) ms) : fInSign (.str ⟨#[c]⟩) (.str z) ms P := ⟨c, rfl, by simpa using h⟩
theorem w_notInSign {c : Nat} (h : P (.bl (!decide (c ∈ z.cps.toList))) ms) : fNotInSign (.str ⟨#[c]⟩) (.str z) ms P := ⟨c, rfl, by simpa using h⟩
def mFmt (x : D) (m : MS) (P : D → MS → Prop) : Prop := match x with
  | .str y => y.length ≤ sizeLine ∧ P (.str y) m
  | .int i => i.natAbs.log2 < 1920 ∧ P (.str (toString i)) m
  | _ => False
theorem w_fmt (h : ExG de ds ms fun x m => mFmt x m P) : dFmt de ds ms P := h
theorem w_mFmtS (h : a.length ≤ sizeLine ∧ P (.str a) m) : mFmt (.str a) m P := h
theorem w_mFmtI (h : i.natAbs.log2 < 1920 ∧ P (.str (toString i)) m) : mFmt (.int i) m P := h
def JsG (ts : List DE) (acc : Str) (ds : DS) (ms : MS) (P : Str → MS → Prop) : Prop := jsD ts acc ds ms P
def mJs (ts : List DE) (acc : Str) (ds : DS) (x : D) (m : MS) (P : Str → MS → Prop) : Prop := match x with
  | .str y => (acc ++ y).length ≤ sizeLine ∧ jsD ts (acc ++ y) ds m P
  | _ => False
theorem w_joined (h : JsG ts Str.empty ds ms fun out m => P (.str out) m) : dJoined ts ds ms P := h
theorem w_jsN {P : Str → MS → Prop} (h : P a ms) : JsG [] a ds ms P := h
theorem w_jsC {P : Str → MS → Prop} (h : ExG de ds ms fun x m => mJs ts a ds x m P) : JsG (de :: ts) a ds ms P := h
theorem w_mJs {P : Str → MS → Prop} (h : (a ++ b).length ≤ sizeLine ∧ JsG ts (a ++ b) ds m P) : mJs ts a ds (.str b) m P := h
end
end DL
namespace DL
open PySem PySem.Spec PyProof.Rows L2
def maxOf : List Int → Int → Int
  | [], d => d
  | n :: r, _ => r.foldl max n
def dMaxDef (aa ak : DA) : DE := fun ds ms P => aa ds ms fun xs m1 => ak ds m1 fun zs m2 => match xs, zs with
  | [.lst ys], [.int d] => ∃ ns : List Int, ys = ns.map D.int ∧ P (.int (maxOf ns d)) m2
  | _, _ => False
section
variable {ds : DS} {ms m : MS} {P : D → MS → Prop} {aa ak : DA}
def mMaxD (xs zs : List D) (m : MS) (P : D → MS → Prop) : Prop := match xs, zs with
  | [.lst ys], [.int d] => ∃ ns : List Int, ys = ns.map D.int ∧ P (.int (maxOf ns d)) m
  | _, _ => False
theorem w_maxDef (h : ArG aa ds ms fun xs m1 => ArG ak ds m1 fun zs m2 => mMaxD xs zs m2 P) : dMaxDef aa ak ds ms P := h
theorem w_mMaxD {ns : List Int} {d : Int} (h : P (.int (maxOf ns d)) m) : mMaxD [.lst (ns.map D.int)] [.int d] m P := ⟨ns, rfl, h⟩
end
section
variable {E : EN} {ds : DS} {ms : MS} {P : D → MS → Prop} {t : DTS} {de da db dc : DE} {g : DG} {aa : DA} {di : DI} {i : Nat} {f : MF} {ts : List DE}
theorem r_frzS (h : StG (dFrzS i t) E ds ms) : dFrzS i t E ds ms := h
theorem r_setIx (h : StG (dSetIx da db dc) E ds ms) : dSetIx da db dc E ds ms := h
theorem r_lcM {tt : DT} {te : DE} {vs : List Nat} (h : ExG (dLcM di g tt te vs) ds ms P) : dLcM di g tt te vs ds ms P := h
theorem r_m1 (h : ExG (dM1 f da db) ds ms P) : dM1 f da db ds ms P := h
theorem r_joined (h : ExG (dJoined ts) ds ms P) : dJoined ts ds ms P := h
theorem r_frz (h : ExG (dFrz de) ds ms P) : dFrz de ds ms P := h
theorem r_append (h : ExG (dAppend de aa) ds ms P) : dAppend de aa ds ms P := h
end
end DL
namespace DL
open PySem PySem.Spec PyProof.Rows L2 SX TL NumText
theorem cutL_to {α : Type} (l : List α) (i : Int) (h : 0 ≤ i) : cutL l none (some i) = l.take i.toNat := by
  obtain ⟨n, rfl⟩ := Int.eq_ofNat_of_zero_le h
  unfold cutL
  rw [show HT.sIx l.length l.length (some (n : Int)) = min n l.length from HT.sIx_nat _ _ n, HT.sIx_none, Int.toNat_natCast]
  show List.take (min n l.length - 0) (l.drop 0) = _
  rw [List.drop_zero, Nat.sub_zero, ← List.take_eq_take_min]
theorem cutL_from {α : Type} (l : List α) (i : Int) (h : 0 ≤ i) : cutL l (some i) none = l.drop i.toNat := by
  obtain ⟨n, rfl⟩ := Int.eq_ofNat_of_zero_le h
  unfold cutL
  rw [show HT.sIx l.length 0 (some (n : Int)) = min n l.length from HT.sIx_nat _ _ n, HT.sIx_none, Int.toNat_natCast]
  rw [List.take_of_length_le (by rw [List.length_drop]; omega)]
  by_cases hn : n ≤ l.length
  · rw [Nat.min_eq_left hn]
  · rw [Nat.min_eq_right (by omega), List.drop_length, List.drop_of_length_le (by omega)]
section
variable {E : EN} {ds : DS} {ms m : MS} {P : D → MS → Prop} {PA : List D → MS → Prop} {c : DT} {tb : DTS} {de : DE} {aa : DA} {n : Nat} {z : Str} {i j k : Int}
theorem w_whileN (h : whileD c tb E n ds ms) : StG (dWhile c tb) E ds ms := ⟨n, h⟩
theorem w_whS (h : TsG c ds ms fun b m => if b = true then StG tb (EN.lp E (whileD c tb E n)) ds m else NxG E ds m) : whileD c tb E (n + 1) ds ms := h
def mStrI (d : D) (m : MS) (P : List D → MS → Prop) : Prop := match d with
  | .str z => P (strD z) m
  | _ => False
theorem w_istr (h : ExG de ds ms fun d m => mStrI d m PA) : iStrD de ds ms PA := h
theorem w_mStrI (h : PA (strD z) m) : mStrI (.str z) m PA := h
def mRng3 (xs : List D) (m : MS) (P : List D → MS → Prop) : Prop := match xs with
  | [.int i, .int j, .int c] => ∃ n, RgC i j c n ∧ P (rngC i c n) m
  | _ => False
theorem w_irng3 (h : ArG aa ds ms fun xs m => mRng3 xs m PA) : iRange3 aa ds ms PA := h
end
section
variable {m : MS} {P : Bool → Prop} {b : Bool} {xs : List D} {i : Int}
theorem w_truB (h : P b) : truD (.bl b) m P := h
theorem w_truL (h : P (!xs.isEmpty)) : truD (.lst xs) m P := h
theorem w_truI (h : P (i != 0)) : truD (.int i) m P := h
end
end DL
namespace DL
open PySem PySem.Spec PyProof.Rows L2
def sLst (n : Nat) (gs : DGs) : DG := fun d ds P => match d with
  | .lst xs => xs.length = n ∧ gs xs ds P
  | _ => False
section
variable {K : PySem.W.Frag}
theorem tg_lst {gs : TGs} {dgs : DGs} {vs : List Nat} {n : Nat} (hs : TgsD K gs dgs vs) : TgD K (gLst K n gs) (sLst n dgs) vs := by
  refine ⟨fun v σ F H Q d ds P sb S r hp q => ?_, fun v σ H Q h1 => ?_⟩
  · cases r with
    | lst h rs => exact ⟨_, _, rfl, SqL.of (sb _ _ h), by rw [rs.length]; exact hp.1, hs.snd _ _ F H _ _ _ _ sb S rs hp.2 q⟩
    | _ => exact hp.elim
  · obtain ⟨a, xs, e, h2, h3, h4⟩ := h1
    exact ⟨a, xs, e, h2, h3, hs.wip _ _ _ _ h4⟩
end
theorem w_slst {n : Nat} {gs : DGs} {xs : List D} {ds : DS} {PS : DS → Prop} (e : xs.length = n) (h : TgsG gs xs ds PS) : sLst n gs (.lst xs) ds PS := ⟨e, h⟩
end DL
namespace DL
open PySem PySem.W PySem.Calls PySem.PX
end DL
namespace DL
open PySem PySem.Spec PyProof.Rows L2
def getD (kvs : List (Str × Int)) (k : Str) : Option Int := (kvs.find? fun kv => decide (kv.1 = k)).map (·.2)
end DL
namespace DL
open PySem PySem.Spec PyProof.Rows L2
def mClear (x : D) (m : MS) (P : D → MS → Prop) : Prop := ∃ p xs, x = .opq (.ref p) ∧ look m p = some xs ∧ P .non (put m p [])
def dClear (dx : DE) : DE := fun ds ms P => dx ds ms fun x m => mClear x m P
theorem mtr_clear {X : Cx} : MtR X "list.clear" rClear := fun pins s σ H x xs v us Q I rx rv h => mt_clear pins s σ H x xs v us Q I rx rv h
theorem pd_clear {X : Cx} {o : Expr} {dx : DE} {apos cpos : Pos} (ho : PD X o dx)
    (hbase : attributeBase o "clear" X.env (eval o X.env) = eval o X.env := by rfl) (hline : (apos.endLine == cpos.line) = true := by rfl) : PD X (.Call (.Attribute o "clear" apos) [] [] cpos) (dClear dx) :=
  peImp (pe_bm0 (T := "list") (name := "clear") (id := "list.clear") (r := rClear) PySem.F.plainAttrs_list PySem.F.slot_list_clear PySem.F.type_list_clear mtr_clear ho hbase hline) fun σ H Q ⟨F, ds, ms, P, R, S, h1, h2⟩ =>
    ⟨F, ds, ms, _, R, S, h1, fun x m v F1 H1 p1 R1 s1 r1 => by
      obtain ⟨p, xs, rfl, e1, p1⟩ := p1
      cases r1
      obtain ⟨hF, vs, hH, rs⟩ := R1.look e1
      exact ⟨.inl ⟨rfl, vs, SqL.of hH⟩, p, vs, rfl, rfl, hH, h2 _ _ _ F1 _ p1 (relPut R1 e1 .nil) (s1.trans (stpPut R1 e1)) .non⟩⟩
section
variable {ds : DS} {ms m : MS} {P : D → MS → Prop} {de da db : DE} {di : DI} {g : DG} {tt : DT} {tk tv : DE} {vs : List Nat} {kvs : List (Str × Int)} {k : Str} {v : Int} {xs : List D} {a b : Int} {p : Addr} {d : D} {m' : MS}
theorem w_clear (h : ExG de ds ms fun x m => mClear x m P) : dClear de ds ms P := h
theorem w_mClear (e : look m p = some xs) (e2 : put m p [] = m') (h : P .non m') : mClear (.opq (.ref p)) m P := ⟨p, xs, rfl, e, by rw [e2]; exact h⟩
end
end DL
namespace DL
open PySem PySem.Spec PyProof.Rows L2
def dListR (da : DE) : DE := fun ds ms P => da ds ms fun d m => match d with
  | .int n => (0 ≤ n ∧ n ≤ 16777216) ∧ P (.lst (rng 0 n.toNat)) m
  | _ => False
def mListR (d : D) (m : MS) (P : D → MS → Prop) : Prop := match d with
  | .int n => (0 ≤ n ∧ n ≤ 16777216) ∧ P (.lst (rng 0 n.toNat)) m
  | _ => False
theorem w_listR {da : DE} {ds : DS} {ms : MS} {P : D → MS → Prop} (h : ExG da ds ms fun x m => mListR x m P) : dListR da ds ms P := h
mutual
inductive Der (ms : MS) : D → D → Prop
  | lst {xs ys : List D} : Ders ms xs ys → Der ms (.lst xs) (.lst ys)
  | tup {xs ys : List D} : Ders ms xs ys → Der ms (.tup xs) (.tup ys)
  | ref {p : Addr} {xs ys : List D} : look ms p = some xs → Ders ms xs ys → Der ms (.opq (.ref p)) (.lst ys)
  | same (d : D) : Der ms d d
inductive Ders (ms : MS) : List D → List D → Prop
  | nil : Ders ms [] []
  | cons {x y : D} {xs ys : List D} : Der ms x y → Ders ms xs ys → Ders ms (x :: xs) (y :: ys)
end
theorem Ders.same {ms : MS} : ∀ xs : List D, Ders ms xs xs
  | [] => .nil
  | x :: r => .cons (.same x) (Ders.same r)
/-- what an entry holds, a list's items or an object's fields behind their mark -/
def lookU : MS → Addr → Option (List D)
  | [], _ => none
  | (q, xs) :: r, p => if q = p then some xs else lookU r p
theorem lookU_mem : ∀ {ms : MS} {p : Addr} {xs : List D}, lookU ms p = some xs → (p, xs) ∈ ms
  | [], _, _, h => by cases h
  | (q, ys) :: r, p, xs, h => by
    unfold lookU at h
    by_cases e : q = p
    · rw [if_pos e] at h; cases h; subst e; exact List.mem_cons_self
    · rw [if_neg e] at h; exact List.mem_cons_of_mem _ (lookU_mem h)
def dPickZ (n : Nat) (is : List Nat) (fx1 fx2 : FX) (di : DE) (aa : DA) (Z : ZD) : DE := fun ds ms P => di ds ms fun d m =>
  (d = .int 0 ∧ aa ds m fun xs m1 => xs.length = n ∧ fx1 (pick is xs) m1 P fun c ns ys m' => Z c ns ys ds m') ∨
  (d = .int 1 ∧ aa ds m fun xs m1 => xs.length = n ∧ fx2 (pick is xs) m1 P fun c ns ys m' => Z c ns ys ds m')
def mPickZ (n : Nat) (is : List Nat) (fx1 fx2 : FX) (aa : DA) (Z : ZD) (ds : DS) (P : D → MS → Prop) (d : D) (m : MS) : Prop :=
  (d = .int 0 ∧ aa ds m fun xs m1 => xs.length = n ∧ fx1 (pick is xs) m1 P fun c ns ys m' => Z c ns ys ds m') ∨
  (d = .int 1 ∧ aa ds m fun xs m1 => xs.length = n ∧ fx2 (pick is xs) m1 P fun c ns ys m' => Z c ns ys ds m')
def mPickA (n : Nat) (is : List Nat) (fx : FX) (Z : ZD) (ds : DS) (P : D → MS → Prop) (xs : List D) (m : MS) : Prop := xs.length = n ∧ fx (pick is xs) m P fun c ns ys m' => Z c ns ys ds m'
theorem w_pickZ {n : Nat} {is : List Nat} {fx1 fx2 : FX} {di : DE} {aa : DA} {Z : ZD} {ds : DS} {ms : MS} {P : D → MS → Prop} (h : ExG di ds ms fun d m => mPickZ n is fx1 fx2 aa Z ds P d m) : dPickZ n is fx1 fx2 di aa Z ds ms P := h
theorem w_mPickZ0 {n : Nat} {is : List Nat} {fx1 fx2 : FX} {aa : DA} {Z : ZD} {ds : DS} {m : MS} {P : D → MS → Prop} (h : ArG aa ds m fun xs m1 => mPickA n is fx1 Z ds P xs m1) : mPickZ n is fx1 fx2 aa Z ds P (.int 0) m := .inl ⟨rfl, h⟩
theorem w_mPickZ1 {n : Nat} {is : List Nat} {fx1 fx2 : FX} {aa : DA} {Z : ZD} {ds : DS} {m : MS} {P : D → MS → Prop} (h : ArG aa ds m fun xs m1 => mPickA n is fx2 Z ds P xs m1) : mPickZ n is fx1 fx2 aa Z ds P (.int 1) m := .inr ⟨rfl, h⟩
theorem w_mPickA {n : Nat} {is : List Nat} {fx : FX} {Z : ZD} {ds : DS} {P : D → MS → Prop} {xs ys : List D} {m : MS} (e1 : xs.length = n) (e : pick is xs = ys) (h : fx ys m P fun c ns zs m' => Z c ns zs ds m') : mPickA n is fx Z ds P xs m := ⟨e1, by rw [e]; exact h⟩
end DL
namespace DL
open PySem PySem.Spec PyProof.Rows L2
structure FirstAt (is : List Int) (v : Int) (j : Nat) : Prop where
  at_ : is[j]? = some v
  no : ∀ k, k < j → is[k]? ≠ some v
def dIndex (dx : DE) (aa : DA) : DE := fun ds ms P => dx ds ms fun x m1 => match x with
  | .lst a => aa ds m1 fun ys m2 => (match ys with
    | [y] => ∃ (is : List Int) (v : Int) (j : Nat), a = is.map D.int ∧ y = .int v ∧ FirstAt is v j ∧ P (.int (j : Int)) m2
    | _ => False)
  | _ => False
def mIndex (aa : DA) (ds : DS) (x : D) (m : MS) (P : D → MS → Prop) : Prop := match x with
  | .lst a => aa ds m fun ys m2 => (match ys with
    | [y] => ∃ (is : List Int) (v : Int) (j : Nat), a = is.map D.int ∧ y = .int v ∧ FirstAt is v j ∧ P (.int (j : Int)) m2
    | _ => False)
  | _ => False
def mIndexA (a : List D) (ys : List D) (m : MS) (P : D → MS → Prop) : Prop := match ys with
  | [y] => ∃ (is : List Int) (v : Int) (j : Nat), a = is.map D.int ∧ y = .int v ∧ FirstAt is v j ∧ P (.int (j : Int)) m
  | _ => False
theorem w_index {dx : DE} {aa : DA} {ds : DS} {ms : MS} {P : D → MS → Prop} (h : ExG dx ds ms fun x m => mIndex aa ds x m P) : dIndex dx aa ds ms P := h
theorem w_mIndex {aa : DA} {ds : DS} {a : List D} {m : MS} {P : D → MS → Prop} (h : ArG aa ds m fun ys m2 => mIndexA a ys m2 P) : mIndex aa ds (.lst a) m P := h
end DL
namespace DL
open PySem PySem.Spec PyProof.Rows L2
end DL
namespace DL
open PySem PySem.Spec PyProof.Rows L2
def dSortSet (da : DE) : DE := fun ds ms P => da ds ms fun d m => match d with
  | .lst xs => ∃ is : List Int, xs = is.map D.int ∧ is.length ≤ 60 ∧ ∀ js : List Int, js.Pairwise (· < ·) → (∀ k, k ∈ js ↔ k ∈ is) → P (.lst (js.map D.int)) m
  | _ => False
def mSortSet (d : D) (m : MS) (P : D → MS → Prop) : Prop := match d with
  | .lst xs => ∃ is : List Int, xs = is.map D.int ∧ is.length ≤ 60 ∧ ∀ js : List Int, js.Pairwise (· < ·) → (∀ k, k ∈ js ↔ k ∈ is) → P (.lst (js.map D.int)) m
  | _ => False
theorem w_sortSet {da : DE} {ds : DS} {ms : MS} {P : D → MS → Prop} (h : ExG da ds ms fun d m => mSortSet d m P) : dSortSet da ds ms P := h
end DL
namespace DL
open PySem PySem.Spec PyProof.Rows L2
def mRevL (x : D) (m : MS) (P : D → MS → Prop) : Prop := match asL x m with
  | some xs => P (.lst xs.reverse) m
  | none => False
def dRevL (de : DE) : DE := fun ds ms P => de ds ms fun x m => mRevL x m P
section
variable {ds : DS} {ms m : MS} {P : D → MS → Prop} {de : DE} {xs : List D}
theorem w_revL (h : ExG de ds ms fun x m => mRevL x m P) : dRevL de ds ms P := h
theorem w_mRevL (h : P (.lst xs.reverse) m) : mRevL (.lst xs) m P := h
end
/-- what keeps no promise (the call of itself where it is not needed) -/
def noFS : FS := fun _ _ _ => False
theorem FnG.none {P : Program} {w : World} {K : PySem.W.Frag} {mg : Str → Option Value} {base : Heap} {k : Nat} {f : Addr} {fd : FuncData} {ps : List Str} : FnG P w K mg base k f fd ps (spD K noFS) :=
  ⟨fun _ _ _ _ ⟨_, _, _, _, _, _, h, _⟩ => h.elim, fun _ _ _ _ _ _ _ _ _ _ _ _ ⟨_, _, _, _, _, _, h, _⟩ => h.elim⟩
end DL
namespace DL
open PySem PySem.Spec PyProof.Rows L2
mutual
inductive Vw (L : MS) : D → D → Prop
  | same {d : D} : Vw L d d
  | tup {xs ys : List D} : VwS L xs ys → Vw L (.tup xs) (.tup ys)
  | lst {p : Addr} {xs ys : List D} : (p, xs) ∈ L → VwS L xs ys → (hn : nofld xs = true := by first | rfl | assumption | exact nofld_map _ (fun _ => rfl) _ | exact nofld_app (by first | rfl | assumption | exact nofld_map _ (fun _ => rfl) _) (by first | rfl | assumption | exact nofld_map _ (fun _ => rfl) _)) → Vw L (.opq (.ref p)) (.lst ys)
inductive VwS (L : MS) : List D → List D → Prop
  | nil : VwS L [] []
  | cons {x y : D} {xs ys : List D} : Vw L x y → VwS L xs ys → VwS L (x :: xs) (y :: ys)
end
theorem VwS.same {L : MS} : ∀ xs : List D, VwS L xs xs
  | [] => .nil
  | _ :: r => .cons .same (VwS.same r)
theorem VwS.app {L : MS} : ∀ {xs ys us vs : List D}, VwS L xs ys → VwS L us vs → VwS L (xs ++ us) (ys ++ vs)
  | [], [], _, _, .nil, h => h
  | _ :: _, _ :: _, _, _, .cons a r, h => .cons a (VwS.app r h)
open Classical in
/-- the lent lists too -/
noncomputable def lent (L : MS) (F H : Hp) : Hp := fun b => if ∃ q ∈ L, q.1 = b then H b else F b
open Classical in
/-- without them -/
noncomputable def back (L : MS) (F : Hp) : Hp := fun b => if ∃ q ∈ L, q.1 = b then none else F b
section
variable {K : PySem.W.Frag} {F H : Hp} {L ms0 : MS}
theorem lent_in {b : Addr} (h : ∃ q ∈ L, q.1 = b) : lent L F H b = H b := if_pos h
theorem lent_out {b : Addr} (h : ¬ ∃ q ∈ L, q.1 = b) : lent L F H b = F b := if_neg h
theorem back_in {b : Addr} (h : ∃ q ∈ L, q.1 = b) : back L F b = none := if_pos h
theorem back_out {b : Addr} (h : ¬ ∃ q ∈ L, q.1 = b) : back L F b = F b := if_neg h
theorem none_in (R : Rel K F H (L ++ ms0)) {b : Addr} (h : ∃ q ∈ L, q.1 = b) : F b = none := by
  obtain ⟨q, hq, rfl⟩ := h
  exact (R.mu q (List.mem_append_left _ hq)).1
theorem lent_sub (R : Rel K F H (L ++ ms0)) : Sub F (lent L F H) := fun b o e => by
  by_cases h : ∃ q ∈ L, q.1 = b
  · rw [none_in R h] at e; cases e
  · rw [lent_out h]; exact e
mutual
theorem DR.vw (R : Rel K F H (L ++ ms0)) : ∀ {d d' : D}, Vw L d d' → ∀ {v : V}, DR K F v d → DR K (lent L F H) v d'
  | _, _, .same, _, r => r.mono (lent_sub R)
  | _, _, .tup hs, _, r => by
    cases r with
    | tup hq rs => exact .tup ((lent_sub R).sqT hq) (DRs.vw R hs rs)
  | _, _, .lst (p := p) hm hs hn, _, r => by
    cases r
    obtain ⟨_, vs, h2, h3⟩ := R.mu _ (List.mem_append_left _ hm)
    rw [cell_no hn] at h2
    rw [body_no hn] at h3
    exact .lst (by rw [lent_in ⟨_, hm, rfl⟩]; exact h2) (DRs.vw R hs h3)
theorem DRs.vw (R : Rel K F H (L ++ ms0)) : ∀ {ds ds' : List D}, VwS L ds ds' → ∀ {vs : List V}, DRs K F vs ds → DRs K (lent L F H) vs ds'
  | _, _, .nil, _, r => by cases r; exact .nil
  | _, _, .cons h hs, _, r => by
    cases r with
    | cons r1 r2 => exact .cons (DR.vw R h r1) (DRs.vw R hs r2)
end
theorem out_of (R : Rel K F H (L ++ ms0)) {q : Addr × List D} (hq : q ∈ ms0) : ¬ ∃ r ∈ L, r.1 = q.1 := by
  rintro ⟨r, hr, e⟩
  have nd := R.nd
  rw [List.map_append] at nd
  exact (List.nodup_append.mp nd).2.2 _ (List.mem_map_of_mem hr) _ (List.mem_map_of_mem hq) e
theorem relLent (R : Rel K F H (L ++ ms0)) : Rel K (lent L F H) H ms0 ∧ Stp F H (L ++ ms0) (lent L F H) H ms0 := by
  refine ⟨⟨fun b o e => ?_, fun q hq => ?_, ?_, R.one.mono (lent_sub R)⟩, ⟨lent_sub R, fun _ _ h _ _ => h, fun a o e => ?_, fun q hq => .inl ⟨q, List.mem_append_right _ hq, rfl⟩⟩⟩
  · by_cases h : ∃ q ∈ L, q.1 = b
    · rw [lent_in h] at e; exact e
    · rw [lent_out h] at e; exact R.sub b o e
  · obtain ⟨h1, vs, h2, h3⟩ := R.mu q (List.mem_append_right _ hq)
    exact ⟨by rw [lent_out (out_of R hq)]; exact h1, vs, h2, h3.mono (lent_sub R)⟩
  · have nd := R.nd
    rw [List.map_append] at nd
    exact (List.nodup_append.mp nd).2.1
  · by_cases h : ∃ q ∈ L, q.1 = a
    · obtain ⟨q, hq, e2⟩ := h
      exact .inr (.inr ⟨q, List.mem_append_left _ hq, e2⟩)
    · rw [lent_out h] at e; exact .inl e
theorem relBack {F2 H2 : Hp} {m : MS} {v : V} {d : D} (R : Rel K F H (L ++ ms0)) (R2 : Rel K F2 H2 m) (s2 : Stp (lent L F H) H ms0 F2 H2 m) (fd : flat d = true) (fm : flatM m) (r2 : DR K F2 v d) :
    Rel K (back L F2) H2 (L ++ m) ∧ Stp F H (L ++ ms0) (back L F2) H2 (L ++ m) ∧ DR K (back L F2) v d := by
  have at_ : ∀ q ∈ L, ∃ vs, F2 q.1 = some (cellO q.2 vs) ∧ DRs K F vs (body q.2) := fun q hq => by
    obtain ⟨_, vs, h2, h3⟩ := R.mu q (List.mem_append_left _ hq)
    exact ⟨vs, s2.sub q.1 _ (by rw [lent_in ⟨q, hq, rfl⟩]; exact h2), h3⟩
  have sub3 : Sub F (back L F2) := fun b o hb => by
    by_cases h : ∃ q ∈ L, q.1 = b
    · rw [none_in R h] at hb; cases hb
    · rw [back_out h]
      exact s2.sub b o (by rw [lent_out h]; exact hb)
  have keepT : ∀ b u, F2 b = some u → (∀ xs vs, u ≠ cellO xs vs) → back L F2 b = some u := fun b u hb nl => by
    by_cases h : ∃ q ∈ L, q.1 = b
    · obtain ⟨q, hq, rfl⟩ := h
      obtain ⟨vs, e, _⟩ := at_ q hq
      rw [e] at hb
      cases hb
      exact absurd rfl (nl _ vs)
    · rw [back_out h]; exact hb
  have ee : ∀ b ws, (F2 b = some (.tup ws) → back L F2 b = some (.tup ws)) ∧ ∀ o, F2 b = some (.frz o (.tup ws)) → back L F2 b = some (.frz o (.tup ws)) :=
    fun b ws => ⟨fun hb => keepT b _ hb (fun xs vs z => by unfold cellO at z; split at z <;> cases z), fun o hb => keepT b _ hb (fun xs vs z => by unfold cellO at z; split at z <;> cases z)⟩
  refine ⟨⟨fun b o hb => ?_, fun q hq => ?_, ?_, R.one.mono sub3⟩, ⟨sub3, fun a o k1 k2 k3 => ?_, fun a o k1 => ?_, fun q hq => ?_⟩, r2.flat ee fd⟩
  · by_cases h : ∃ q ∈ L, q.1 = b
    · rw [back_in h] at hb; cases hb
    · rw [back_out h] at hb; exact R2.sub b o hb
  · rcases List.mem_append.mp hq with hq | hq
    · obtain ⟨vs, e, rs⟩ := at_ q hq
      exact ⟨back_in ⟨q, hq, rfl⟩, vs, R2.sub _ _ e, rs.mono sub3⟩
    · obtain ⟨y1, us, y2, y3⟩ := R2.mu q hq
      refine ⟨?_, us, y2, y3.flat ee (flats_body (fm q hq))⟩
      by_cases h : ∃ r ∈ L, r.1 = q.1
      · exact back_in h
      · rw [back_out h]; exact y1
  · rw [List.map_append, List.nodup_append]
    have nd := R.nd
    rw [List.map_append] at nd
    refine ⟨(List.nodup_append.mp nd).1, R2.nd, fun a ha b hb e => ?_⟩
    obtain ⟨q, hq, rfl⟩ := List.mem_map.mp ha
    obtain ⟨r, hr, rfl⟩ := List.mem_map.mp hb
    obtain ⟨vs, e1, _⟩ := at_ q hq
    obtain ⟨y1, _⟩ := R2.mu r hr
    rw [e, y1] at e1
    cases e1
  · have hn : ¬ ∃ q ∈ L, q.1 = a := fun ⟨q, hq, z⟩ => k3 q (List.mem_append_left _ hq) z
    exact s2.keep a o k1 (by rw [lent_out hn]; exact k2) fun q hq => k3 q (List.mem_append_right _ hq)
  · by_cases h : ∃ q ∈ L, q.1 = a
    · rw [back_in h] at k1; cases k1
    · rw [back_out h] at k1
      rcases s2.newF a o k1 with z | z | ⟨q, hq, z⟩
      · rw [lent_out h] at z; exact .inl z
      · exact .inr (.inl z)
      · exact .inr (.inr ⟨q, List.mem_append_right _ hq, z⟩)
  · rcases List.mem_append.mp hq with hq | hq
    · exact .inl ⟨q, List.mem_append_left _ hq, rfl⟩
    · rcases s2.newM q hq with ⟨q2, hq2, z⟩ | z | ⟨o, z⟩
      · exact .inl ⟨q2, List.mem_append_right _ hq2, z⟩
      · exact .inr (.inl z)
      · by_cases h : ∃ r ∈ L, r.1 = q.1
        · obtain ⟨r, hr, e⟩ := h
          exact .inl ⟨r, List.mem_append_left _ hr, e⟩
        · rw [lent_out h] at z; exact .inr (.inr ⟨o, z⟩)
end
/-- a slot's lists are lent to an expression that tells flat data -/
def dView (i : Nat) (de : DE) : DE := fun ds ms P => ∃ (L ms0 : MS) (d d' : D), ms = L ++ ms0 ∧ slot ds i = some d ∧ Vw L d d' ∧ de (setSlot ds i d') ms0 fun r m => flat r = true ∧ flatM m ∧ P r (L ++ m)
theorem lift_view {K : PySem.W.Frag} {i : Nat} {de : DE} : ∀ σ H Q, lift K (dView i de) σ H Q → lift K de σ H Q := fun σ H Q ⟨F, ds, ms, P, R, S, h1, h2⟩ => by
  obtain ⟨L, ms0, d, d', rfl, e, vw, h1⟩ := h1
  obtain ⟨v, hv, hr⟩ := S.get e
  obtain ⟨R1, s1⟩ := relLent R
  refine ⟨_, _, _, _, R1, setSlot_σ (S.mono s1.sub) hv (hr.vw R vw), h1, fun r m u F2 H2 hp R2 s2 r2 => ?_⟩
  obtain ⟨fd, fm, hp⟩ := hp
  obtain ⟨R3, s3, r3⟩ := relBack R R2 s2 fd fm r2
  exact h2 r (L ++ m) u _ H2 hp R3 s3 r3
theorem pd_view {X : Cx} {e : Expr} {de : DE} {i : Nat} (h : PD X e de) : PD X e (dView i de) := peImp h lift_view
theorem w_view {i : Nat} {de : DE} {ds ds' : DS} {ms : MS} {P : D → MS → Prop} (L ms0 : MS) {d d' : D} (e : ms = L ++ ms0) (e1 : slot ds i = some d) (vw : Vw L d d') (e2 : setSlot ds i d' = ds') (h : ExG de ds' ms0 fun r m => flat r = true ∧ flatM m ∧ P r (L ++ m)) : dView i de ds ms P :=
  ⟨L, ms0, d, d', e, e1, vw, by rw [e2]; exact h⟩
/-- what an expression tells is made fast, its lists too -/
def dViewE (de : DE) : DE := fun ds ms P => de ds ms fun d m => ∃ (L ms0 : MS) (d' : D), m = L ++ ms0 ∧ Vw L d d' ∧ P d' ms0
theorem pd_viewE {X : Cx} {e : Expr} {de : DE} (h : PD X e de) : PD X e (dViewE de) := peImp h fun σ H Q ⟨F, ds, ms, P, R, S, h1, h2⟩ =>
  ⟨F, ds, ms, _, R, S, h1, fun d m v F1 H1 p1 R1 s1 r1 => by
    obtain ⟨L, ms0, d', rfl, vw, p1⟩ := p1
    obtain ⟨z1, z2⟩ := relLent R1
    exact h2 d' ms0 v _ _ p1 z1 (s1.trans z2) (r1.vw R1 vw)⟩
end DL
namespace DL
open PySem PySem.Spec PyProof.Rows L2
section
variable {K : PySem.W.Frag} {F1 H1 F2 H2 : Hp} {ms m2 : MS} {p : Addr} {xs : List D} {vs : List V}
theorem relPark (R : Rel K F1 H1 ms) : Rel K F1 H1 (drp ms p) := ⟨R.sub, fun q hq => R.mu q (drp_sub q hq), drp_nd R.nd, R.one⟩
theorem unpark (R1 : Rel K F1 H1 ms) (e1 : look ms p = some xs) (hF : F1 p = none) (hH : H1 p = some (.lst vs)) (rs : DRs K F1 vs xs) (s : Stp F1 H1 (drp ms p) F2 H2 m2) (R2 : Rel K F2 H2 m2) :
    Rel K F2 H2 ((p, xs) :: m2) ∧ Stp F1 H1 ms F2 H2 ((p, xs) :: m2) := by
  have off := drp_ne (p := p) R1.nd
  have h2 : H2 p = some (.lst vs) := s.keep p _ hH hF off
  have f2 : F2 p = none := by
    cases e : F2 p with
    | none => rfl
    | some u =>
      rcases s.newF p u e with z | z | ⟨q, hq, z⟩
      · rw [hF] at z; cases z
      · rw [hH] at z; cases z
      · exact absurd z (off q hq)
  refine ⟨⟨R2.sub, fun q hq => ?_, ?_, R2.one⟩, ⟨s.sub, fun a o k1 k2 k3 => s.keep a o k1 k2 fun q hq => k3 q (drp_sub q hq), fun a o h => ?_, fun q hq => ?_⟩⟩
  · rcases List.mem_cons.mp hq with rfl | hq
    · exact ⟨f2, vs, by rw [cell_no rs.no]; exact h2, by rw [body_no rs.no]; exact rs.mono s.sub⟩
    · exact R2.mu q hq
  · rw [List.map_cons, List.nodup_cons]
    refine ⟨fun hm => ?_, R2.nd⟩
    obtain ⟨q, hq, eq⟩ := List.mem_map.mp hm
    have eq : q.1 = p := eq
    rcases s.newM q hq with ⟨q2, hq2, z⟩ | z | ⟨o, z⟩
    · exact off q2 hq2 (z.trans eq)
    · rw [eq, hH] at z; cases z
    · rw [eq, hF] at z; cases z
  · rcases s.newF a o h with z | z | ⟨q, hq, z⟩
    · exact .inl z
    · exact .inr (.inl z)
    · exact .inr (.inr ⟨q, drp_sub q hq, z⟩)
  · rcases List.mem_cons.mp hq with rfl | hq
    · exact .inl ⟨_, look_mem e1, rfl⟩
    · rcases s.newM q hq with ⟨q2, hq2, z⟩ | z | z
      · exact .inl ⟨q2, drp_sub q2 hq2, z⟩
      · exact .inr (.inl z)
      · exact .inr (.inr z)
end
end DL
namespace DL
open PySem PySem.Spec PyProof.Rows L2
end DL
namespace DL
open PySem PySem.Spec PyProof.Rows L2
/-- what is set apart meanwhile comes back, and nothing has come to its place -/
def EN.parkN (E : EN) (p : Addr) (xs : List D) : EN := { nx := fun ds m => (∀ e ∈ m, e.1 ≠ p) → E.nx ds ((p, xs) :: m), rt := fun d m => (∀ e ∈ m, e.1 ≠ p) → E.rt d ((p, xs) :: m), bk := fun ds m => (∀ e ∈ m, e.1 ≠ p) → E.bk ds ((p, xs) :: m), ct := fun ds m => (∀ e ∈ m, e.1 ≠ p) → E.ct ds ((p, xs) :: m) }
theorem offHead {p : Addr} {xs : List D} {m : MS} (h : (((p, xs) :: m).map (·.1)).Nodup) : ∀ e ∈ m, e.1 ≠ p := fun e he z => by
  rw [List.map_cons, List.nodup_cons] at h
  exact h.1 (by show p ∈ _; rw [← z]; exact List.mem_map_of_mem he)
def dForE (de : DE) (g : DG) (tb : DTS) : DTS := fun E ds ms => de ds ms fun d m => ∃ p xs, d = .opq (.ref p) ∧ look m p = some xs ∧ loopD g tb (E.parkN p xs) xs ds (drp m p)
section
variable {K : PySem.W.Frag} {dg : DG} {tb : DTS} {tt : DT} {te de : DE} {g : TG} {us vs : List Nat}
theorem lift_forE (hg : TgD K g dg us) : ∀ D σ H, liftS K (dForE de dg tb) D σ H → tFor (iList K (lift K de)) g (liftS K tb) D σ H := fun D σ H ⟨F, ds, ms, E, R, S, h0, n, r, k, q⟩ => by
  refine ⟨F, ds, ms, _, R, S, h0, fun d m v F1 H1 p1 R1 s1 r1 => ?_⟩
  obtain ⟨p, xs, rfl, e1, h⟩ := p1
  cases r1
  obtain ⟨hF, vs, hH, rs⟩ := R1.look e1
  refine ⟨p, rfl, ⟨vs, SqL.of hH⟩, ?_⟩
  have off := drp_ne (p := p) R1.nd
  refine for_it (walk_list (K := K) (a := p) (xs := vs)) (fun j σ1 H2 => ∃ F2 ds2 m2, Rel K F2 H2 m2 ∧ Stp F1 H1 (drp m p) F2 H2 m2 ∧ Sl K F2 σ1 ds2 ∧ loopD dg tb (E.parkN p xs) (xs.drop j) ds2 m2)
    ⟨F1, ds, drp m p, relPark R1, Stp.refl, S.mono s1.sub, h⟩ (fun j σ1 H2 _ ⟨F2, ds2, m2, R2, s2, S2, h2⟩ => SqL.of (s2.keep p _ hH hF off)) ?_ ?_
  · rintro j x σ1 H2 H3 hj ⟨F2, ds2, m2, R2, s2, S2, h2⟩ ⟨rfl, hx⟩
    obtain ⟨d, hd, rx⟩ := rs.getV hx
    rw [drop_get hd] at h2
    refine hg.snd x σ1 F2 H3 _ d ds2 _ R2.sub S2 (rx.mono s2.sub) h2 fun ds3 σ3 h3 S3 => ?_
    refine ⟨F2, ds3, m2, _, R2, S3, h3, ?_, ?_, ?_, ?_⟩
    · exact fun ds4 m4 σ4 F4 H4 h4 R4 s4 S4 => ⟨F4, ds4, m4, R4, s2.trans s4, S4, h4⟩
    · intro d4 m4 v4 F4 H4 h4 R4 s4 r4
      obtain ⟨R5, s5⟩ := unpark R1 e1 hF hH rs (s2.trans s4) R4
      exact r d4 _ v4 F4 H4 (h4 (offHead R5.nd)) R5 (s1.trans s5) r4
    · intro ds4 m4 σ4 F4 H4 h4 R4 s4 S4
      obtain ⟨R5, s5⟩ := unpark R1 e1 hF hH rs (s2.trans s4) R4
      exact n ds4 _ σ4 F4 H4 (h4 (offHead R5.nd)) R5 (s1.trans s5) S4
    · exact fun ds4 m4 σ4 F4 H4 h4 R4 s4 S4 => ⟨F4, ds4, m4, R4, s2.trans s4, S4, h4⟩
  · rintro σ1 H2 ⟨F2, ds2, m2, R2, s2, S2, h2⟩
    rw [rs.length, List.drop_length] at h2
    obtain ⟨R5, s5⟩ := unpark R1 e1 hF hH rs s2 R2
    exact n ds2 _ σ1 F2 H2 (h2 (offHead R5.nd)) R5 (s1.trans s5) S2
theorem pds_forE {X : Cx} {tg iter : Expr} {body : List Stmt} {pos : Pos} (hc : X.calm = true) (hi : PD X iter de) (hg : PG X tg g) (hd : TgD X.K g dg us) (hb : PDSs X body tb) (hp : PassesOwn (model X.prog X.w) X.A X.env X.xe := by exact PassesOwn.never)
    (hs : ∀ x, foldedSetIterable iter X.env x = pure x := by intro _; rfl) : PDS X (.For tg iter body [] pos) (dForE de dg tb) := psImp (ps_for hp hc (pi_list hi) hg hb hs) (lift_forE hd)
def mForE (g : DG) (tb : DTS) (E : EN) (ds : DS) (d : D) (m : MS) : Prop := ∃ p xs, d = .opq (.ref p) ∧ look m p = some xs ∧ loopD g tb (E.parkN p xs) xs ds (drp m p)
theorem w_forE {E : EN} {ds : DS} {ms : MS} (h : ExG de ds ms fun d m => mForE dg tb E ds d m) : dForE de dg tb E ds ms := h
theorem w_mForE {E : EN} {ds : DS} {m m' : MS} {p : Addr} {xs : List D} (e1 : look m p = some xs) (e2 : drp m p = m') (h : loopD dg tb (E.parkN p xs) xs ds m') : mForE dg tb E ds (.opq (.ref p)) m := ⟨p, xs, rfl, e1, by rw [e2]; exact h⟩
end
end DL
namespace DL
open PySem PySem.Spec PyProof.Rows L2
end DL
namespace DL
open PySem PySem.Spec PyProof.Rows L2
end DL
namespace DL
open PySem PySem.Spec PyProof.Rows L2
end DL
namespace DL
open PySem PySem.Spec PyProof.Rows L2 SX TL NumText
end DL
namespace DL
open PySem PySem.Spec PyProof.Rows L2
theorem DRs.less {K : PySem.W.Frag} {F : Hp} : ∀ {vs : List V} {ds : List D} (k : Nat), DRs K F vs ds → DRs K F (vs.eraseIdx k) (ds.eraseIdx k)
  | [], _, _, .nil => .nil
  | _ :: _, _, 0, .cons _ r => r
  | _ :: _, _, k + 1, .cons a r => .cons a (DRs.less k r)
theorem less_last {α : Type} : ∀ xs : List α, xs.eraseIdx (xs.length - 1) = xs.dropLast
  | [] => rfl
  | [_] => rfl
  | x :: y :: r => by
    show x :: (y :: r).eraseIdx r.length = x :: (y :: r).dropLast
    rw [← less_last (y :: r)]; rfl
def mPop (x : D) (m : MS) (P : D → MS → Prop) : Prop := ∃ p xs y, x = .opq (.ref p) ∧ look m p = some xs ∧ xs[xs.length - 1]? = some y ∧ P y (put m p xs.dropLast)
def dPop (dx : DE) : DE := fun ds ms P => dx ds ms fun x m => mPop x m P
section
variable {X : Cx} {o e : Expr} {dx : DE} {aa : DA} {apos cpos : Pos}
theorem pd_pop (ho : PD X o dx) (hbase : attributeBase o "pop" X.env (eval o X.env) = eval o X.env := by rfl) (hline : (apos.endLine == cpos.line) = true := by rfl) : PD X (.Call (.Attribute o "pop" apos) [] [] cpos) (dPop dx) :=
  peImp (pe_bm0 PySem.F.plainAttrs_list PySem.F.slot_list_pop PySem.F.type_list_pop mt_pop ho hbase hline) fun σ H Q ⟨F, ds, ms, P, R, S, h1, h2⟩ =>
    ⟨F, ds, ms, _, R, S, h1, fun x m v F1 H1 p1 R1 s1 r1 => by
      obtain ⟨p, xs, y, rfl, e1, ey, p1⟩ := p1
      cases r1
      obtain ⟨hF, vs, hH, rs⟩ := R1.look e1
      obtain ⟨w, ew, rw_⟩ := rs.get ey
      rw [← rs.length] at ew
      have last := DRs.less (vs.length - 1) rs
      rw [less_last, rs.length, less_last] at last
      exact ⟨.inl ⟨rfl, vs, SqL.of hH⟩, p, vs, w, rfl, rfl, hH, ew, h2 _ _ _ F1 _ p1 (relPut R1 e1 last) (s1.trans (stpPut R1 e1)) rw_⟩⟩
end
section
variable {ds : DS} {ms m m' : MS} {P : D → MS → Prop} {de : DE} {aa : DA} {p : Addr} {xs ys : List D} {d : D} {i : Int} {k : Nat}
theorem w_pop (h : ExG de ds ms fun x m => mPop x m P) : dPop de ds ms P := h
theorem w_mPop (e : look m p = some xs) (ed : xs[xs.length - 1]? = some d) (e2 : put m p xs.dropLast = m') (h : P d m') : mPop (.opq (.ref p)) m P := ⟨p, xs, d, rfl, e, ed, by rw [e2]; exact h⟩
end
end DL
namespace DL
open PySem PySem.Spec PyProof.Rows L2
section
variable {K : PySem.W.Frag} {F H : Hp} {ms : MS}
theorem Rel.obj (R : Rel K F H ms) {p dx : Addr} {c : Str} {ns : List Str} {xs : List D} (h : lookU ms p = some (.fld c dx ns :: xs)) :
    F p = none ∧ ∃ C vs, PySem.W.nsIn K mainGlobals c = some (some (.ref C)) ∧ H p = some (.ins C dx (ns.zip vs)) ∧ DRs K F vs xs := by
  obtain ⟨h1, vs, h2, h3⟩ := R.mu (p, .fld c dx ns :: xs) (lookU_mem h)
  have h3 : DRs K F vs (.kls c :: xs) := h3
  match vs, h2, h3 with
  | .ref C :: ws, h2, .cons (.kls hc) rs => exact ⟨h1, C, ws, hc, h2, rs⟩
theorem zip_fld {f : Str} {d : D} : ∀ {ns : List Str} {vs : List V} {xs : List D}, DRs K F vs xs → (ns.zip xs).lookup f = some d → ∃ v, (ns.zip vs).lookup f = some v ∧ DR K F v d
  | [], _, _, _, h => by cases h
  | n :: ns, _, _, .nil, h => by cases h
  | n :: ns, v :: vs, x :: xs, .cons r rs, h => by
    rw [List.zip_cons_cons, List.lookup_cons] at h
    rw [List.zip_cons_cons, List.lookup_cons]
    cases e : (f == n) with
    | true => rw [e] at h; cases h; exact ⟨v, rfl, r⟩
    | false => rw [e] at h; exact zip_fld rs h
end
/-- e.f, e an object of the class named c -/
def dGetF (c f : Str) (de : DE) : DE := fun ds ms P => de ds ms fun x m => ∃ p dx ns xs d, x = .opq (.ref p) ∧ lookU m p = some (.fld c dx ns :: xs) ∧ (ns.zip xs).lookup f = some d ∧ P d m
/-- what is known of a class ahead -/
def ClsF (K : PySem.W.Frag) (c f : Str) : Prop := ∀ C, PySem.W.nsIn K mainGlobals c = some (some (.ref C)) → Cls K C ∧ NoAttr K C f
theorem pd_getF {X : Cx} {e : Expr} {de : DE} {c f : Str} {pos : Pos} (hk : ClsF X.K c f) (h : PD X e de) (hb : attributeBase e f X.env (eval e X.env) = eval e X.env := by rfl) : PD X (.Attribute e f pos) (dGetF c f de) :=
  peImp (L2.pe_fld h hb) fun σ H Q ⟨F, ds, ms, P, R, S, h1, h2⟩ => ⟨F, ds, ms, _, R, S, h1, fun x m v F1 H1 p1 R1 s1 r1 => by
    obtain ⟨p, dx, ns, xs, d, rfl, e1, e2, p1⟩ := p1
    cases r1
    obtain ⟨_, C, vs, hC, hH, rs⟩ := R1.obj e1
    obtain ⟨w, ew, rw_⟩ := zip_fld rs e2
    exact ⟨p, C, dx, _, w, rfl, hH, (hk C hC).1, (hk C hC).2, ew, h2 d m w F1 H1 p1 R1 s1 rw_⟩⟩
/-- the names, and the values, with a field stored -/
def putN (f : Str) : List Str → List Str
  | [] => [f]
  | g :: r => if g = f then g :: r else g :: putN f r
def putV (f : Str) {α : Type} (v : α) : List Str → List α → List α
  | [], _ => [v]
  | g :: r, x :: xs => if g = f then v :: xs else x :: putV f v r xs
  | _ :: _, [] => []
theorem putF_zip (f : Str) (v : V) : ∀ (ns : List Str) (vs : List V), ns.length = vs.length → putF f v (ns.zip vs) = (putN f ns).zip (putV f v ns vs)
  | [], [], _ => rfl
  | [], _ :: _, h => by cases h
  | _ :: _, [], h => by cases h
  | g :: ns, x :: vs, h => by
    rw [List.zip_cons_cons]
    unfold putF putN putV
    by_cases e : g = f
    · rw [if_pos e, if_pos e, if_pos e]; rfl
    · rw [if_neg e, if_neg e, if_neg e, List.zip_cons_cons, putF_zip f v ns vs (by simpa using h)]
theorem DRs.putV {K : PySem.W.Frag} {F : Hp} {f : Str} {v : V} {d : D} (r : DR K F v d) : ∀ {ns : List Str} {vs : List V} {xs : List D}, DRs K F vs xs → DRs K F (DL.putV f v ns vs) (DL.putV f d ns xs)
  | [], _, _, _ => .cons r .nil
  | _ :: _, _, _, .nil => .nil
  | g :: ns, x :: vs, y :: ys, .cons a rs => by
    unfold DL.putV
    by_cases e : g = f
    · rw [if_pos e, if_pos e]; exact .cons r rs
    · rw [if_neg e, if_neg e]; exact .cons a (DRs.putV r rs)
section
variable {K : PySem.W.Frag} {F H : Hp} {ms : MS}
theorem relPutO (R : Rel K F H ms) {p dx : Addr} {c : Str} {ns ns' : List Str} {xs ys : List D} {C : Addr} {ws : List V} (h : lookU ms p = some (.fld c dx ns :: xs)) (hC : PySem.W.nsIn K mainGlobals c = some (some (.ref C))) (r : DRs K F ws ys) :
    Rel K F (upd H p (.ins C dx (ns'.zip ws))) (put ms p (.fld c dx ns' :: ys)) ∧ Stp F H ms F (upd H p (.ins C dx (ns'.zip ws))) (put ms p (.fld c dx ns' :: ys)) := by
  obtain ⟨hF, _⟩ := R.obj h
  refine ⟨⟨fun b u e => ?_, fun e he => ?_, by rw [put_fst]; exact R.nd, R.one⟩, ⟨Sub.refl F, fun a u z1 z2 z3 => ?_, fun _ _ h => .inl h, fun e he => .inl ?_⟩⟩
  · rw [upd_ne fun z => by rw [z, hF] at e; cases e]; exact R.sub b u e
  · rcases put_mem R.nd e he with ⟨z1, z2⟩ | ⟨z1, z2⟩
    · rw [z1, z2]; exact ⟨hF, .ref C :: ws, upd_same, .cons (.kls hC) r⟩
    · obtain ⟨y1, us, y2, y3⟩ := R.mu e z1
      exact ⟨y1, us, by rw [upd_ne z2]; exact y2, y3⟩
  · rw [upd_ne fun z => z3 _ (lookU_mem h) z.symm]; exact z1
  · have := List.mem_map_of_mem (f := (·.1)) he
    rw [put_fst] at this
    obtain ⟨q, hq, z⟩ := List.mem_map.mp this
    exact ⟨q, hq, z⟩
end
/-- o.f = e, o an object of the class named c -/
def dSetF (c f : Str) (dv de : DE) : DTS := fun E ds ms => dv ds ms fun y m1 => de ds m1 fun x m2 => ∃ p dx ns xs, x = .opq (.ref p) ∧ lookU m2 p = some (.fld c dx ns :: xs) ∧ ns.length < 1000 ∧ ns.length = xs.length ∧ E.nx ds (put m2 p (.fld c dx (putN f ns) :: putV f y ns xs))
theorem pds_setF {X : Cx} {o value : Expr} {dv de : DE} {c f : Str} {pos pos' : Pos} (hk : ClsF X.K c f) (ha : PD X o de) (hv : PD X value dv) (hs : swapsWith value (some (.Attribute o f pos')) pos.line X.env = pure false := by rfl) :
    PDS X (.Assign [.Attribute o f pos'] value pos) (dSetF c f dv de) :=
  psImp (L2.ps_fld ha hv hs) fun D σ H ⟨F, ds, ms, E, R, S, h, n, r, k, q⟩ => ⟨F, ds, ms, _, R, S, h, fun y m1 v F1 H1 p1 R1 s1 r1 => ⟨F1, ds, m1, _, R1, S.mono s1.sub, p1, fun x m2 u F2 H2 p2 R2 s2 r2 => by
    obtain ⟨p, dx, ns, xs, rfl, e1, few, len, p2⟩ := p2
    cases r2
    obtain ⟨_, C, vs, hC, hH, rs⟩ := R2.obj e1
    have el : ns.length = vs.length := by rw [len, rs.length]
    obtain ⟨R3, s3⟩ := relPutO (ns' := putN f ns) R2 e1 hC (DRs.putV (f := f) (ns := ns) (r1.mono s2.sub) rs)
    refine ⟨p, C, dx, _, rfl, hH, (hk C hC).1, (hk C hC).2, by rw [List.length_zip]; omega, ?_⟩
    rw [putF_zip f v ns vs el]
    exact n ds _ σ F2 _ p2 R3 ((s1.trans s2).trans s3) (S.mono (s1.sub.trans s2.sub))⟩⟩
/-- o.f += e, whole numbers -/
def dAugF (c f : Str) (de dv : DE) : DTS := fun E ds ms => de ds ms fun x m1 => ∃ p dx ns xs i, x = .opq (.ref p) ∧ lookU m1 p = some (.fld c dx ns :: xs) ∧ (ns.zip xs).lookup f = some (.int i) ∧
  dv ds m1 fun y m2 => ∃ j dx' ns' xs', y = .int j ∧ lookU m2 p = some (.fld c dx' ns' :: xs') ∧ ns'.length < 1000 ∧ ns'.length = xs'.length ∧ E.nx ds (put m2 p (.fld c dx' (putN f ns') :: putV f (.int (i + j)) ns' xs'))
end DL
namespace DL
open PySem PySem.Spec PyProof.Rows L2
end DL
namespace DL
open PySem PySem.Spec PyProof.Rows L2
def mRng2 (xs : List D) (m : MS) (P : List D → MS → Prop) : Prop := match xs with
  | [.int i, .int j] => (-(2 ^ 62) ≤ i ∧ i < 2 ^ 62 ∧ -(2 ^ 62) ≤ j ∧ j < 2 ^ 62) ∧ P (rng i (j - i).toNat) m
  | _ => False
theorem w_irng2 {aa : DA} {ds : DS} {ms : MS} {PA : List D → MS → Prop} (h : ArG aa ds ms fun xs m => mRng2 xs m PA) : iRange2 aa ds ms PA := h
theorem w_mRng2 {i j : Int} {m : MS} {PA : List D → MS → Prop} (e : -(2 ^ 62) ≤ i ∧ i < 2 ^ 62 ∧ -(2 ^ 62) ≤ j ∧ j < 2 ^ 62) (h : PA (rng i (j - i).toNat) m) : mRng2 [.int i, .int j] m PA := ⟨e, h⟩
end DL
namespace DL
open PySem PySem.Spec PyProof.Rows L2
/-- what is known of a class's method ahead -/
def MethF (K : PySem.W.Frag) (c m : Str) (f : Addr) : Prop := ∀ C, PySem.W.nsIn K mainGlobals c = some (some (.ref C)) → Cls K C ∧ Meth K C m f
theorem zip_no {m : Str} {α : Type} : ∀ {ns : List Str} {vs : List α}, m ∉ ns → (ns.zip vs).lookup m = none
  | [], _, _ => rfl
  | _ :: _, [], _ => rfl
  | n :: ns, v :: vs, h => by
    rw [List.mem_cons, not_or] at h
    rw [List.zip_cons_cons, List.lookup_cons, beq_eq_false_iff_ne.mpr h.1]
    exact zip_no h.2
def ObjAt (c m : Str) (x : D) (ms : MS) : Prop := ∃ p dx ns xs, x = .opq (.ref p) ∧ lookU ms p = some (.fld c dx ns :: xs) ∧ m ∉ ns
def dMeth (c m : Str) (n k : Nat) (is : List Nat) (fs : FS) (de : DE) (aa ak : DA) : DE := fun ds ms P => de ds ms fun x m1 => ObjAt c m x m1 ∧ aa ds m1 fun xs m2 => ak ds m2 fun zs m3 => xs.length = n ∧ zs.length = k ∧ fs (pick is (x :: (xs ++ zs))) m3 P
def dMethZ (c m : Str) (n k : Nat) (is : List Nat) (fx : FX) (de : DE) (aa ak : DA) (Z : ZD) : DE := fun ds ms P => de ds ms fun x m1 => ObjAt c m x m1 ∧ aa ds m1 fun xs m2 => ak ds m2 fun zs m3 => xs.length = n ∧ zs.length = k ∧ fx (pick is (x :: (xs ++ zs))) m3 P fun c ns ys m' => Z c ns ys ds m'
def tMethG (m : Str) (f : Addr) (K : PySem.W.Frag) (n k : Nat) (is : List Nat) (sp : Sp) (E : L2.St → XK) (tf : TE) (t tk : TA) : TE := fun σ H Q => tf σ H fun x H1 => ∃ a C dx fs, x = .ref a ∧ H1 a = some (.ins C dx fs) ∧ Cls K C ∧ Meth K C m f ∧ fs.lookup m = none ∧
  t σ H1 fun vs H2 => tk σ H2 fun zs H3 => vs.length = n ∧ zs.length = k ∧ sp (pick is (x :: (vs ++ zs))) H3 Q (E σ)
section
variable {X : Cx} {W : WX} {Z : ZD} {k n mk : Nat} {f : Addr} {fd : FuncData} {ps ks : List Str} {is : List Nat} {fs : FS} {fx : FX} {c m : Str} {pos apos : Pos} {o e : Expr} {es : List Expr} {kws : List Keyword} {aa ak : DA} {de : DE} {pl : Sem Bool}
theorem lift_meth (hm : MethF X.K c m f) : ∀ σ H Q, lift X.K (dMeth c m n mk is fs de aa ak) σ H Q → tMethG m f X.K n mk is (spD X.K fs) (fun _ => E0) (lift X.K de) (liftA X.K aa) (liftA X.K ak) σ H Q := fun σ H Q ⟨F, ds, ms, P, R, S, h1, h2⟩ =>
  ⟨F, ds, ms, _, R, S, h1, fun x m1 v F1 H1 p1 R1 s1 r1 => by
    obtain ⟨⟨p, dx, ns, xs, rfl, e1, no⟩, p1⟩ := p1
    cases r1
    obtain ⟨_, C, vs, hC, hH, rs⟩ := R1.obj e1
    refine ⟨p, C, dx, _, rfl, hH, (hm C hC).1, (hm C hC).2, zip_no no, F1, ds, m1, _, R1, S.mono s1.sub, p1, fun ys m2 ws F2 H2 p2 R2 s2 r2 => ⟨F2, ds, m2, _, R2, S.mono (s1.trans s2).sub, p2, fun zs m3 us F3 H3 p3 R3 s3 r3 => ?_⟩⟩
    obtain ⟨l1, l2, p3⟩ := p3
    exact ⟨r2.length.trans l1, r3.length.trans l2, F3, _, m3, P, R3, pick_drs (.cons (.opq _) ((r2.mono s3.sub).append r3)) is, p3, fun d m4 v F4 H4 p4 R4 s4 r4 => h2 d m4 v F4 H4 p4 R4 (s1.trans (s2.trans (s3.trans s4))) r4⟩⟩
theorem lift_methZ (hm : MethF X.K c m f) : ∀ σ H Q, liftZ X.K W Z (dMethZ c m n mk is fx de aa ak Z) σ H Q → tMethG m f X.K n mk is (spX X.K fx) (fun σ cv d H => W cv d σ H) (lift X.K de) (liftA X.K aa) (liftA X.K ak) σ H Q := fun σ H Q ⟨F, ds, ms, P, R, S, h1, h2, h3⟩ =>
  ⟨F, ds, ms, _, R, S, h1, fun x m1 v F1 H1 p1 R1 s1 r1 => by
    obtain ⟨⟨p, dx, ns, xs, rfl, e1, no⟩, p1⟩ := p1
    cases r1
    obtain ⟨_, C, vs, hC, hH, rs⟩ := R1.obj e1
    refine ⟨p, C, dx, _, rfl, hH, (hm C hC).1, (hm C hC).2, zip_no no, F1, ds, m1, _, R1, S.mono s1.sub, p1, fun ys m2 ws F2 H2 p2 R2 s2 r2 => ⟨F2, ds, m2, _, R2, S.mono (s1.trans s2).sub, p2, fun zs m3 us F3 H3 p3 R3 s3 r3 => ?_⟩⟩
    obtain ⟨l1, l2, p3⟩ := p3
    refine ⟨r2.length.trans l1, r3.length.trans l2, F3, _, m3, P, _, R3, pick_drs (.cons (.opq _) ((r2.mono s3.sub).append r3)) is, p3, fun d m4 v F4 H4 p4 R4 s4 r4 => h2 d m4 v F4 H4 p4 R4 (s1.trans (s2.trans (s3.trans s4))) r4, fun c ns ys m4 cv d ws F4 H4 z R4 s4 hn hx hd => ?_⟩
    exact h3 c ns ys m4 cv d ws F4 H4 z R4 (s1.trans (s2.trans (s3.trans s4))) hn hx hd⟩
/-- the arguments of a method's call, then the call: without and with keywords -/
theorem meth_go {sp : Sp} {E : L2.St → XK} {tf : TE} {t : TA}
    (hs : ∀ {pins : List (Addr × Obj)} {σ : L2.St} {H : Hp} {s : Shared} {Q : VK} {us ws : List Value} {vs zs : List V}, Inv X pins σ H s → Vals vs us → Vals zs ws → vs.length = n + 1 → zs.length = ks.length → sp (pick is (vs ++ zs)) H Q (E σ) → wpAny (model X.prog X.w) X.A (call (.ref f) us (ks.zip ws)) (EP X pins σ Q) X.xe s)
    (hks0 : ks = []) (he : PE X o tf) (ha : PA X (e :: es) t)
    (hst : starEach (e :: es) X.env = (false, eval e X.env) :: starEach es X.env) (hpl : (backTo pos (starEach es X.env)).any (·.1) = false)
    (ht : eval (.Call (.Attribute o m apos) (e :: es) [] pos) X.env = (do
      let ov ← eval o X.env
      standAt apos.atName
      let (f, first) ← holding [ov] (getMethod ov m pl)
      callWith pos f first (backTo pos (starEach (e :: es) X.env)) (backToKw pos (keywordEach [] X.env)))) :
    PE X (.Call (.Attribute o m apos) (e :: es) [] pos) (fun σ H Q => tMethG m f X.K n 0 is sp E tf t tNil σ H Q) := by
  subst hks0
  refine ⟨fun pins s σ H Q I h => ?_⟩
  refine PySem.W.methodCall_KW (pl := pl) (thn (he.run pins s σ H _ I h) fun u s1 ⟨x, H1, I1, rx, a, C, dx, fs, ex, ea, cl, hm, l, q⟩ => ?_) ht
  subst ex
  obtain rfl : u = Value.ref a := rx
  refine getmeth_ok I1 ea cl hm l ?_
  refine PySem.W.callWith_K (first := [.ref a]) (h₀ := X.base) I.ok.mod.kin hm.kp (thn (ha.run pos pins s1 σ H1 _ I1 q) fun us s2 ⟨vs, H2, I2, r, l1, l2, q2⟩ => ⟨I2.kIn, ?_⟩) hst hpl
  exact hs (us := .ref a :: us) (vs := .ref a :: vs) (ws := []) (zs := []) I2 (.cons rfl r) .nil (by rw [List.length_cons, l1]) rfl q2
theorem meth_go0 {sp : Sp} {E : L2.St → XK} {tf : TE}
    (hs : ∀ {pins : List (Addr × Obj)} {σ : L2.St} {H : Hp} {s : Shared} {Q : VK} {us ws : List Value} {vs zs : List V}, Inv X pins σ H s → Vals vs us → Vals zs ws → vs.length = 0 + 1 → zs.length = ([] : List Str).length → sp (pick is (vs ++ zs)) H Q (E σ) → wpAny (model X.prog X.w) X.A (call (.ref f) us (([] : List Str).zip ws)) (EP X pins σ Q) X.xe s)
    (he : PE X o tf)
    (ht : eval (.Call (.Attribute o m apos) [] [] pos) X.env = (do
      let ov ← eval o X.env
      standAt apos.atName
      let (f, first) ← holding [ov] (getMethod ov m pl)
      callWith pos f first (backTo pos (starEach [] X.env)) (backToKw pos (keywordEach [] X.env)))) :
    PE X (.Call (.Attribute o m apos) [] [] pos) (fun σ H Q => tMethG m f X.K 0 0 is sp E tf tNil tNil σ H Q) := by
  refine ⟨fun pins s σ H Q I h => ?_⟩
  refine PySem.W.methodCall_KW (pl := pl) (thn (he.run pins s σ H _ I h) fun u s1 ⟨x, H1, I1, rx, a, C, dx, fs, ex, ea, cl, hm, l, q⟩ => ?_) ht
  subst ex
  obtain rfl : u = Value.ref a := rx
  refine getmeth_ok I1 ea cl hm l ?_
  exact PySem.W.callWith_K0 (first := [.ref a]) I1.kIn hm.kp (hs (us := [.ref a]) (vs := [.ref a]) (ws := []) (zs := []) I1 (.cons rfl .nil) .nil rfl rfl q.2.2)
theorem meth_goK {sp : Sp} {E : L2.St → XK} {tf : TE} {t : TA}
    (hs : ∀ {pins : List (Addr × Obj)} {σ : L2.St} {H : Hp} {s : Shared} {Q : VK} {us ws : List Value} {vs zs : List V}, Inv X pins σ H s → Vals vs us → Vals zs ws → vs.length = 0 + 1 → zs.length = ks.length → sp (pick is (vs ++ zs)) H Q (E σ) → wpAny (model X.prog X.w) X.A (call (.ref f) us (ks.zip ws)) (EP X pins σ Q) X.xe s)
    (he : PE X o tf) (hkw : PK X kws t)
    (hall : (backToKw pos (keywordEach kws X.env)).all (·.1.isSome) = true) (hks : (backToKw pos (keywordEach kws X.env)).filterMap (·.1) = ks)
    (hpl : ((backTo pos (starEach [] X.env)).any (·.1) || (backToKw pos (keywordEach kws X.env)).any (·.1.isNone)) = false)
    (ht : eval (.Call (.Attribute o m apos) [] kws pos) X.env = (do
      let ov ← eval o X.env
      standAt apos.atName
      let (f, first) ← holding [ov] (getMethod ov m pl)
      callWith pos f first (backTo pos (starEach [] X.env)) (backToKw pos (keywordEach kws X.env)))) :
    PE X (.Call (.Attribute o m apos) [] kws pos) (fun σ H Q => tMethG m f X.K 0 ks.length is sp E tf tNil t σ H Q) := by
  refine ⟨fun pins s σ H Q I h => ?_⟩
  refine PySem.W.methodCall_KW (pl := pl) (thn (he.run pins s σ H _ I h) fun u s1 ⟨x, H1, I1, rx, a, C, dx, fs, ex, ea, cl, hm, l, q⟩ => ?_) ht
  subst ex
  obtain rfl : u = Value.ref a := rx
  refine getmeth_ok I1 ea cl hm l ?_
  refine PySem.W.callWith_KW0 (first := [.ref a]) (h₀ := X.base) I.ok.mod.kin hm.kp hall (thn (hkw.run pos pins s1 σ H1 _ I1 q) fun ws s2 ⟨zs, H2, I2, r, l1, l2, q2⟩ => ⟨I2.kIn, ?_⟩) hpl
  rw [hks]
  exact hs (us := [.ref a]) (vs := [.ref a]) I2 (.cons rfl .nil) r rfl l2 q2
end
section
variable {X : Cx} {W : WX} {Z : ZD} {k n mk : Nat} {f : Addr} {fd : FuncData} {ps ks : List Str} {is : List Nat} {fs : FS} {fx : FX} {c m : Str} {pos apos : Pos} {o e : Expr} {es : List Expr} {kws : List Keyword} {aa ak : DA} {de : DE} {pl : Sem Bool}
theorem pd_meth (hm : MethF X.K c m f) (F : FnG X.prog X.w X.K X.mg X.base k f fd ps (spD X.K fs)) (hr : RoomG k X.A) (hb : Bnd X.K fd ps (n + 1) [] is) (ho : PD X o de) (ha : PDA X (e :: es) aa)
    (hst : starEach (e :: es) X.env = (false, eval e X.env) :: starEach es X.env := by rfl) (hpl : (backTo pos (starEach es X.env)).any (·.1) = false := by rfl)
    (ht : eval (.Call (.Attribute o m apos) (e :: es) [] pos) X.env = (do
      let ov ← eval o X.env
      standAt apos.atName
      let (f, first) ← holding [ov] (getMethod ov m pl)
      callWith pos f first (backTo pos (starEach (e :: es) X.env)) (backToKw pos (keywordEach [] X.env))) := by rfl) :
    PD X (.Call (.Attribute o m apos) (e :: es) [] pos) (dMeth c m n 0 is fs de aa aNil) :=
  peImp (meth_go (m := m) (f := f) (n := n) (is := is) (E := fun _ => E0) (fun I r rz l1 l2 h => run_g F hr hb I r rz l1 l2 h) rfl ho ha hst hpl ht) fun σ H Q h => by
    obtain ⟨F0, ds, ms, P, R, S, h1, h2⟩ := lift_meth hm σ H Q h
    refine ⟨F0, ds, ms, P, R, S, h1, fun x m1 v F1 H1 p1 R1 s1 r1 => ?_⟩
    obtain ⟨a, C, dx, fs, e1, e2, e3, e4, e5, F2, ds2, m2, P2, R2, S2, p2, q2⟩ := h2 x m1 v F1 H1 p1 R1 s1 r1
    refine ⟨a, C, dx, fs, e1, e2, e3, e4, e5, F2, ds2, m2, P2, R2, S2, p2, fun xs m3 vs F3 H3 p3 R3 s3 r3 => ?_⟩
    obtain ⟨F4, ds4, m4, P4, R4, S4, p4, q4⟩ := q2 xs m3 vs F3 H3 p3 R3 s3 r3
    exact q4 [] m4 [] F4 H3 p4 R4 Stp.refl .nil
theorem pd_meth0 (hm : MethF X.K c m f) (F : FnG X.prog X.w X.K X.mg X.base k f fd ps (spD X.K fs)) (hr : RoomG k X.A) (hb : Bnd X.K fd ps 1 [] is) (ho : PD X o de)
    (ht : eval (.Call (.Attribute o m apos) [] [] pos) X.env = (do
      let ov ← eval o X.env
      standAt apos.atName
      let (f, first) ← holding [ov] (getMethod ov m pl)
      callWith pos f first (backTo pos (starEach [] X.env)) (backToKw pos (keywordEach [] X.env))) := by rfl) :
    PD X (.Call (.Attribute o m apos) [] [] pos) (dMeth c m 0 0 is fs de aNil aNil) :=
  peImp (meth_go0 (m := m) (f := f) (is := is) (E := fun _ => E0) (fun I r rz l1 l2 h => run_g F hr hb I r rz l1 l2 h) ho ht) fun σ H Q h => by
    obtain ⟨F0, ds, ms, P, R, S, h1, h2⟩ := lift_meth hm σ H Q h
    refine ⟨F0, ds, ms, P, R, S, h1, fun x m1 v F1 H1 p1 R1 s1 r1 => ?_⟩
    obtain ⟨a, C, dx, fs, e1, e2, e3, e4, e5, F2, ds2, m2, P2, R2, S2, p2, q2⟩ := h2 x m1 v F1 H1 p1 R1 s1 r1
    refine ⟨a, C, dx, fs, e1, e2, e3, e4, e5, ?_⟩
    obtain ⟨F4, ds4, m4, P4, R4, S4, p4, q4⟩ := q2 [] m2 [] F2 H1 p2 R2 Stp.refl .nil
    exact q4 [] m4 [] F4 H1 p4 R4 Stp.refl .nil
theorem pd_methK0 (hm : MethF X.K c m f) (F : FnG X.prog X.w X.K X.mg X.base k f fd ps (spD X.K fs)) (hr : RoomG k X.A) (hb : Bnd X.K fd ps 1 ks is) (ho : PD X o de) (hkw : PDK X kws ak)
    (hall : (backToKw pos (keywordEach kws X.env)).all (·.1.isSome) = true := by rfl) (hks : (backToKw pos (keywordEach kws X.env)).filterMap (·.1) = ks := by rfl)
    (hpl : ((backTo pos (starEach [] X.env)).any (·.1) || (backToKw pos (keywordEach kws X.env)).any (·.1.isNone)) = false := by rfl) (hlen : ks.length = mk := by rfl)
    (ht : eval (.Call (.Attribute o m apos) [] kws pos) X.env = (do
      let ov ← eval o X.env
      standAt apos.atName
      let (f, first) ← holding [ov] (getMethod ov m pl)
      callWith pos f first (backTo pos (starEach [] X.env)) (backToKw pos (keywordEach kws X.env))) := by rfl) :
    PD X (.Call (.Attribute o m apos) [] kws pos) (dMeth c m 0 mk is fs de aNil ak) := by
  subst hlen
  exact peImp (meth_goK (m := m) (f := f) (is := is) (E := fun _ => E0) (fun I r rz l1 l2 h => run_g F hr hb I r rz l1 l2 h) ho hkw hall hks hpl ht) fun σ H Q h => by
    obtain ⟨F0, ds, ms, P, R, S, h1, h2⟩ := lift_meth hm σ H Q h
    refine ⟨F0, ds, ms, P, R, S, h1, fun x m1 v F1 H1 p1 R1 s1 r1 => ?_⟩
    obtain ⟨a, C, dx, fs, e1, e2, e3, e4, e5, F2, ds2, m2, P2, R2, S2, p2, q2⟩ := h2 x m1 v F1 H1 p1 R1 s1 r1
    exact ⟨a, C, dx, fs, e1, e2, e3, e4, e5, q2 [] m2 [] F2 H1 p2 R2 Stp.refl .nil⟩
theorem pdz_meth (tk : Takes X W) (hm : MethF X.K c m f) (F : FnX X.prog X.w X.K X.mg X.base k f fd ps (spX X.K fx)) (hr : RoomG k X.A) (hb : Bnd X.K fd ps (n + 1) [] is) (ho : PD X o de) (ha : PDA X (e :: es) aa)
    (hst : starEach (e :: es) X.env = (false, eval e X.env) :: starEach es X.env := by rfl) (hpl : (backTo pos (starEach es X.env)).any (·.1) = false := by rfl)
    (ht : eval (.Call (.Attribute o m apos) (e :: es) [] pos) X.env = (do
      let ov ← eval o X.env
      standAt apos.atName
      let (f, first) ← holding [ov] (getMethod ov m pl)
      callWith pos f first (backTo pos (starEach (e :: es) X.env)) (backToKw pos (keywordEach [] X.env))) := by rfl) :
    PDZ X W Z (.Call (.Attribute o m apos) (e :: es) [] pos) (dMethZ c m n 0 is fx de aa aNil Z) :=
  peImp (meth_go (m := m) (f := f) (n := n) (is := is) (E := fun σ cv d H => W cv d σ H) (fun I r rz l1 l2 h => run_x tk F hr hb I r rz l1 l2 h) rfl ho ha hst hpl ht) fun σ H Q h => by
    obtain ⟨F0, ds, ms, P, R, S, h1, h2⟩ := lift_methZ hm σ H Q h
    refine ⟨F0, ds, ms, P, R, S, h1, fun x m1 v F1 H1 p1 R1 s1 r1 => ?_⟩
    obtain ⟨a, C, dx, fs, e1, e2, e3, e4, e5, F2, ds2, m2, P2, R2, S2, p2, q2⟩ := h2 x m1 v F1 H1 p1 R1 s1 r1
    refine ⟨a, C, dx, fs, e1, e2, e3, e4, e5, F2, ds2, m2, P2, R2, S2, p2, fun xs m3 vs F3 H3 p3 R3 s3 r3 => ?_⟩
    obtain ⟨F4, ds4, m4, P4, R4, S4, p4, q4⟩ := q2 xs m3 vs F3 H3 p3 R3 s3 r3
    exact q4 [] m4 [] F4 H3 p4 R4 Stp.refl .nil
theorem pdz_meth0 (tk : Takes X W) (hm : MethF X.K c m f) (F : FnX X.prog X.w X.K X.mg X.base k f fd ps (spX X.K fx)) (hr : RoomG k X.A) (hb : Bnd X.K fd ps 1 [] is) (ho : PD X o de)
    (ht : eval (.Call (.Attribute o m apos) [] [] pos) X.env = (do
      let ov ← eval o X.env
      standAt apos.atName
      let (f, first) ← holding [ov] (getMethod ov m pl)
      callWith pos f first (backTo pos (starEach [] X.env)) (backToKw pos (keywordEach [] X.env))) := by rfl) :
    PDZ X W Z (.Call (.Attribute o m apos) [] [] pos) (dMethZ c m 0 0 is fx de aNil aNil Z) :=
  peImp (meth_go0 (m := m) (f := f) (is := is) (E := fun σ cv d H => W cv d σ H) (fun I r rz l1 l2 h => run_x tk F hr hb I r rz l1 l2 h) ho ht) fun σ H Q h => by
    obtain ⟨F0, ds, ms, P, R, S, h1, h2⟩ := lift_methZ hm σ H Q h
    refine ⟨F0, ds, ms, P, R, S, h1, fun x m1 v F1 H1 p1 R1 s1 r1 => ?_⟩
    obtain ⟨a, C, dx, fs, e1, e2, e3, e4, e5, F2, ds2, m2, P2, R2, S2, p2, q2⟩ := h2 x m1 v F1 H1 p1 R1 s1 r1
    refine ⟨a, C, dx, fs, e1, e2, e3, e4, e5, ?_⟩
    obtain ⟨F4, ds4, m4, P4, R4, S4, p4, q4⟩ := q2 [] m2 [] F2 H1 p2 R2 Stp.refl .nil
    exact q4 [] m4 [] F4 H1 p4 R4 Stp.refl .nil
end
section
variable {c m : Str} {n k : Nat} {is : List Nat} {fs : FS} {fx : FX} {de : DE} {aa ak : DA} {Z : ZD} {ds : DS} {ms : MS} {P : D → MS → Prop}
def mMeth (c m : Str) (n k : Nat) (is : List Nat) (fs : FS) (aa ak : DA) (ds : DS) (P : D → MS → Prop) (x : D) (m1 : MS) : Prop := ObjAt c m x m1 ∧ aa ds m1 fun xs m2 => ak ds m2 fun zs m3 => xs.length = n ∧ zs.length = k ∧ fs (pick is (x :: (xs ++ zs))) m3 P
def mMethA (n k : Nat) (is : List Nat) (fs : FS) (P : D → MS → Prop) (x : D) (xs zs : List D) (m3 : MS) : Prop := xs.length = n ∧ zs.length = k ∧ fs (pick is (x :: (xs ++ zs))) m3 P
theorem w_meth (h : ExG de ds ms fun x m1 => mMeth c m n k is fs aa ak ds P x m1) : dMeth c m n k is fs de aa ak ds ms P := h
theorem w_mMeth {p dx : Addr} {ns : List Str} {xs : List D} (e : lookU ms p = some (.fld c dx ns :: xs)) (no : m ∉ ns) (h : ArG aa ds ms fun xs m2 => ArG ak ds m2 fun zs m3 => mMethA n k is fs P (.opq (.ref p)) xs zs m3) : mMeth c m n k is fs aa ak ds P (.opq (.ref p)) ms := ⟨⟨p, dx, ns, xs, rfl, e, no⟩, h⟩
theorem w_mMethA {x : D} {xs zs ys : List D} (e1 : xs.length = n) (e2 : zs.length = k) (e : pick is (x :: (xs ++ zs)) = ys) (h : fs ys ms P) : mMethA n k is fs P x xs zs ms := ⟨e1, e2, by rw [e]; exact h⟩
def mMethZ (c m : Str) (n k : Nat) (is : List Nat) (fx : FX) (aa ak : DA) (Z : ZD) (ds : DS) (P : D → MS → Prop) (x : D) (m1 : MS) : Prop := ObjAt c m x m1 ∧ aa ds m1 fun xs m2 => ak ds m2 fun zs m3 => xs.length = n ∧ zs.length = k ∧ fx (pick is (x :: (xs ++ zs))) m3 P fun c ns ys m' => Z c ns ys ds m'
def mMethZA (n k : Nat) (is : List Nat) (fx : FX) (Z : ZD) (ds : DS) (P : D → MS → Prop) (x : D) (xs zs : List D) (m3 : MS) : Prop := xs.length = n ∧ zs.length = k ∧ fx (pick is (x :: (xs ++ zs))) m3 P fun c ns ys m' => Z c ns ys ds m'
theorem w_methZ (h : ExG de ds ms fun x m1 => mMethZ c m n k is fx aa ak Z ds P x m1) : dMethZ c m n k is fx de aa ak Z ds ms P := h
theorem w_mMethZ {p dx : Addr} {ns : List Str} {xs : List D} (e : lookU ms p = some (.fld c dx ns :: xs)) (no : m ∉ ns) (h : ArG aa ds ms fun xs m2 => ArG ak ds m2 fun zs m3 => mMethZA n k is fx Z ds P (.opq (.ref p)) xs zs m3) : mMethZ c m n k is fx aa ak Z ds P (.opq (.ref p)) ms := ⟨⟨p, dx, ns, xs, rfl, e, no⟩, h⟩
theorem w_mMethZA {x : D} {xs zs ys : List D} (e1 : xs.length = n) (e2 : zs.length = k) (e : pick is (x :: (xs ++ zs)) = ys) (h : fx ys ms P fun c ns ys m' => Z c ns ys ds m') : mMethZA n k is fx Z ds P x xs zs ms := ⟨e1, e2, by rw [e]; exact h⟩
end
/-- what is known of a class that is made ahead -/
def MkF (K : PySem.W.Frag) (c : Str) (C f : Addr) : Prop := PySem.W.nsIn K mainGlobals c = some (some (.ref C)) ∧ Mk K C f
theorem RoomG.make {k : Nat} {A : Around} (r : RoomG (k + 1) A) (C : Addr) (us : List Value) (kw : List (Str × Value)) : RoomG k (A.under (.builtin "type.__call__" ⟨.ref C :: us, kw⟩)) := ⟨r.r.make C us kw, by
  have g := r.g
  obtain ⟨hd, d, fr, gs, u⟩ := A
  have g : gs = some [] := g
  subst g
  rfl⟩
def dMake (c : Str) (n k : Nat) (is : List Nat) (fs : FS) (aa ak : DA) : DE := fun ds ms P => aa ds ms fun xs m1 => ak ds m1 fun zs m2 => xs.length = n ∧ zs.length = k ∧
  ∀ x dx, (∀ q ∈ m2, q.1 ≠ x) → fs (pick is (.opq (.ref x) :: (xs ++ zs))) ((x, [.fld c dx []]) :: m2) fun d m' => d = .non ∧ P (.opq (.ref x)) m'
section
variable {K : PySem.W.Frag} {F H : Hp} {ms : MS}
theorem newObj (R : Rel K F H ms) {x dx C : Addr} {c : Str} (hx : H x = none) (hdx : H dx = none) (ne : dx ≠ x) (hC : PySem.W.nsIn K mainGlobals c = some (some (.ref C))) :
    (∀ q ∈ ms, q.1 ≠ x) ∧ Rel K F (upd (upd H dx (.own x)) x (.ins C dx [])) ((x, [.fld c dx []]) :: ms) ∧ Stp F H ms F (upd (upd H dx (.own x)) x (.ins C dx [])) ((x, [.fld c dx []]) :: ms) := by
  have off : ∀ q ∈ ms, q.1 ≠ x := fun q hq z => by
    obtain ⟨_, vs, h2, _⟩ := R.mu q hq
    rw [z, hx] at h2; cases h2
  have offd : ∀ q ∈ ms, q.1 ≠ dx := fun q hq z => by
    obtain ⟨_, vs, h2, _⟩ := R.mu q hq
    rw [z, hdx] at h2; cases h2
  have at_ : ∀ a o, H a = some o → upd (upd H dx (.own x)) x (.ins C dx []) a = some o := fun a o e => by
    rw [upd_ne (fun z => by rw [z, hx] at e; cases e), upd_ne (fun z => by rw [z, hdx] at e; cases e)]; exact e
  refine ⟨off, ⟨fun b u e => at_ b u (R.sub b u e), fun q hq => ?_, ?_, R.one⟩, ⟨Sub.refl F, fun a o z1 _ _ => at_ a o z1, fun _ _ z => .inl z, fun p hp => ?_⟩⟩
  · rcases List.mem_cons.mp hq with rfl | hq
    · refine ⟨?_, [.ref C], upd_same, .cons (.kls hC) .nil⟩
      cases e : F x with
      | none => rfl
      | some u => have := R.sub x u e; rw [hx] at this; cases this
    · obtain ⟨h1, vs, h2, h3⟩ := R.mu q hq
      exact ⟨h1, vs, at_ _ _ h2, h3⟩
  · rw [List.map_cons, List.nodup_cons]
    refine ⟨fun z => ?_, R.nd⟩
    obtain ⟨q, hq, e⟩ := List.mem_map.mp z
    exact off q hq e
  · rcases List.mem_cons.mp hp with rfl | hp
    · exact .inr (.inl hx)
    · exact .inl ⟨p, hp, rfl⟩
end
def tMakeG (C : Addr) (n k : Nat) (is : List Nat) (sp : Sp) (E : L2.St → XK) (t tk : TA) : TE := fun σ H Q => t σ H fun vs H1 => tk σ H1 fun zs H2 => vs.length = n ∧ zs.length = k ∧
  ∀ x dx, H2 x = none → H2 dx = none → dx ≠ x → sp (pick is (.ref x :: (vs ++ zs))) (upd (upd H2 dx (.own x)) x (.ins C dx [])) (fun v H3 => v = .non ∧ Q (.ref x) H3) (E σ)
section
variable {X : Cx} {W : WX} {Z : ZD} {k n mk : Nat} {f C : Addr} {fd : FuncData} {ps ks : List Str} {is : List Nat} {fs : FS} {fx : FX} {c x : Str} {p pos : Pos} {e : Expr} {es : List Expr} {kws : List Keyword} {aa ak : DA}
theorem lift_make (hC : PySem.W.nsIn X.K mainGlobals c = some (some (.ref C))) : ∀ σ H Q, lift X.K (dMake c n mk is fs aa ak) σ H Q → tMakeG C n mk is (spD X.K fs) (fun _ => E0) (liftA X.K aa) (liftA X.K ak) σ H Q := fun σ H Q ⟨F, ds, ms, P, R, S, h1, h2⟩ =>
  ⟨F, ds, ms, _, R, S, h1, fun ys m2 ws F2 H2 p2 R2 s2 r2 => ⟨F2, ds, m2, _, R2, S.mono s2.sub, p2, fun zs m3 us F3 H3 p3 R3 s3 r3 => by
    obtain ⟨l1, l2, p3⟩ := p3
    refine ⟨r2.length.trans l1, r3.length.trans l2, fun x dx hx hdx ne => ?_⟩
    obtain ⟨off, R4, s4⟩ := newObj R3 hx hdx ne hC
    exact ⟨F3, _, _, _, R4, pick_drs (.cons (.opq _) ((r2.mono s3.sub).append r3)) is, p3 x dx off, fun d m5 v F5 H5 p5 R5 s5 r5 => by
      obtain ⟨rfl, p5⟩ := p5
      cases r5
      exact ⟨rfl, h2 _ m5 _ F5 H5 p5 R5 (s2.trans (s3.trans (s4.trans s5))) (.opq _)⟩⟩⟩⟩
theorem run_makeG {pins : List (Addr × Obj)} {σ : L2.St} {H : Hp} {s : Shared} {Q : VK} {us ws : List Value} {vs zs : List V} (M : Mk X.K C f) (F : FnG X.prog X.w X.K X.mg X.base k f fd ps (spD X.K fs)) (hr : RoomG (k + 1) X.A) (hb : Bnd X.K fd ps (n + 1) ks is)
    (I : Inv X pins σ H s) (r : Vals vs us) (rz : Vals zs ws) (l1 : vs.length = n) (l2 : zs.length = ks.length)
    (h : ∀ x dx, H x = none → H dx = none → dx ≠ x → spD X.K fs (pick is (.ref x :: (vs ++ zs))) (upd (upd H dx (.own x)) x (.ins C dx [])) (fun v H3 => v = .non ∧ Q (.ref x) H3) E0) :
    wpAny (model X.prog X.w) X.A (call (.ref C) us (ks.zip ws)) (EP X pins σ Q) X.xe s := by
  have hq := h (s.heap.objs.size + 1) s.heap.objs.size (I.hok.fresh (Nat.le_succ _)) (I.hok.fresh (Nat.le_refl _)) (Nat.ne_of_lt (Nat.lt_succ_self _))
  have I2 := Inv.made (C := C) I
  have r2 : Vals (V.ref (s.heap.objs.size + 1) :: vs) (Value.ref (s.heap.objs.size + 1) :: us) := .cons rfl r
  have hb' := hb.to _ (Value.ref (s.heap.objs.size + 1) :: us) ws I2.kIn (by rw [List.length_cons, ← r.length, l1]) (rz.length ▸ l2)
  refine wpAny_call (make_map (f := f) I.kIn M.makes M.init (beq_iff_eq.mp M.fn) (codeAny_mono (F.go _ X.stack _ _ ⟨Value.ref (s.heap.objs.size + 1) :: us, ks.zip ws⟩ _ _ _ (hr.make C us (ks.zip ws)) (I2.env0.make C us (ks.zip ws)) hb' (pick_vals (r2.append rz) is) hq) fun r s' hq' => ?_))
  match r, hq' with
  | .error _, hq' => exact hq'.elim
  | .ok (.ret u), hq' =>
    obtain ⟨v, H', I3, rv, ev, q3⟩ := I2.after hq'
    subst ev
    exact ⟨rv, ⟨V.ref (s.heap.objs.size + 1), H', I3, rfl, q3⟩⟩
  | .ok .next, hq' => exact False.elim hq'
  | .ok .brk, hq' => exact False.elim hq'
  | .ok .cont, hq' => exact False.elim hq'
theorem pd_makeK0 (M : MkF X.K c C f) (F : FnG X.prog X.w X.K X.mg X.base k f fd ps (spD X.K fs)) (hr : RoomG (k + 1) X.A) (hg : Gl X c) (hm : X.mg c = some (.ref C)) (hb : Bnd X.K fd ps 1 ks is) (hkw : PDK X kws ak)
    (hdb : (c == ("__debug__" : Str)) = false := by decide) (hall : (backToKw pos (keywordEach kws X.env)).all (·.1.isSome) = true := by rfl) (hks : (backToKw pos (keywordEach kws X.env)).filterMap (·.1) = ks := by rfl)
    (hpl : ((backTo pos (starEach [] X.env)).any (·.1) || (backToKw pos (keywordEach kws X.env)).any (·.1.isNone)) = false := by rfl) (hlen : ks.length = mk := by rfl) :
    PD X (.Call (.Name c p) [] kws pos) (dMake c 0 mk is fs aNil ak) := by
  subst hlen
  refine peImp (t := tMakeG C 0 ks.length is (spD X.K fs) (fun _ => E0) tNil (liftA X.K ak)) ⟨fun pins s σ H Q I h => ?_⟩ fun σ H Q h => ?_
  · refine wpAny_Call_Name_kw (ld_glob I hg hm ?_ hdb)
    refine PySem.W.callWith_KW0 (h₀ := X.base) I.ok.mod.kin M.2.kp hall (thn (hkw.run pos pins s σ H _ I h) fun ws s2 ⟨zs, H2, I2, rz, l1, l2, q2⟩ => ⟨I2.kIn, ?_⟩) hpl
    rw [hks]
    exact run_makeG (us := []) (vs := []) M.2 F hr hb I2 .nil rz rfl l2 q2
  · obtain ⟨F0, ds, ms, P, R, S, h1, h2⟩ := lift_make M.1 σ H Q h
    exact h2 [] ms [] F0 H h1 R Stp.refl .nil
end
section
variable {c : Str} {n k : Nat} {is : List Nat} {fs : FS} {fx : FX} {aa ak : DA} {Z : ZD} {ds : DS} {ms : MS} {P : D → MS → Prop}
def mMake (c : Str) (n k : Nat) (is : List Nat) (fs : FS) (P : D → MS → Prop) (xs zs : List D) (m2 : MS) : Prop := xs.length = n ∧ zs.length = k ∧
  ∀ x dx, (∀ q ∈ m2, q.1 ≠ x) → fs (pick is (.opq (.ref x) :: (xs ++ zs))) ((x, [.fld c dx []]) :: m2) fun d m' => d = .non ∧ P (.opq (.ref x)) m'
theorem w_make (h : ArG aa ds ms fun xs m1 => ArG ak ds m1 fun zs m2 => mMake c n k is fs P xs zs m2) : dMake c n k is fs aa ak ds ms P := h
theorem w_mMake {xs zs : List D} (e1 : xs.length = n) (e2 : zs.length = k) (h : ∀ x dx, (∀ q ∈ ms, q.1 ≠ x) → fs (pick is (.opq (.ref x) :: (xs ++ zs))) ((x, [.fld c dx []]) :: ms) fun d m' => d = .non ∧ P (.opq (.ref x)) m') : mMake c n k is fs P xs zs ms := ⟨e1, e2, h⟩
end
end DL
namespace DL
open PySem
/-- a class's j-th statement -/
def clsS (st : Stmt) (j : Nat) : Stmt := match st with
  | .ClassDef _ _ _ b _ _ _ _ _ _ _ => b.getD j (.Pass ⟨0, 0, 0, 0⟩)
  | _ => .Pass ⟨0, 0, 0, 0⟩
open PySem.Spec PyProof.Rows L2
def mTryO (ml : List (Str × Bool)) (ts : DTS) (E : EN) (c : Str) (ns : List Str) (xs : List D) (ds : DS) (ms : MS) : Prop := match ml.lookup c with
  | some true => ts E ds ms
  | some false => E.ex c ns xs ds ms
  | none => False
def dTryO (ml : List (Str × Bool)) (tb ts : DTS) : DTS := fun E ds ms => tb { E with ex := mTryO ml ts E } ds ms
def dTryO0 (ml : List (Str × Bool)) (tb ts : DTS) : DTS := fun E ds ms => dTryO ml tb ts { E with ex := fun _ _ _ _ _ => False } ds ms
section
variable {X : Cx} {x : Str} {cl : Value} {body suite : List Stmt} {b₀ : Stmt} {np pos pos' : Pos} {tb ts : DTS} {W : WX} {ml : List (Str × Bool)}
theorem px_tryO (hc : Names X x cl) (hml : MlE X.K cl ml) (tk : Takes X W)
    (hb : ∀ (W : WX) (q : List (Addr × Obj)) (xe : Value → Shared → Prop), Takes (X.tr q xe) W → PassesOwn (model X.prog X.w) X.A X.env xe → PXs (X.tr q xe) W body tb)
    (hsv : ∀ (a : Addr) (q : List (Addr × Obj)), PDSs (X.suite a q) (b₀ :: suite) ts)
    (hs : X.stack = X.env :: X.outer := by rfl) (hf : X.env.frame = some X.env.locals := by rfl) :
    PX X W (.Try body [.ExceptHandler (some (.Name x np)) none (b₀ :: suite) pos'] [] [] pos) (dTryO ml tb ts) :=
  psImp (L2.ps_try_only (tb := fun W => liftX X.K W tb) (ts := fun _ _ _ => liftS X.K ts) hs hf hc tk hb fun a oe _ _ pn _ _ => hsv a ((a, oe) :: pn)) fun D σ H ⟨F, ds, ms, E, R, S, h, n1, r1, k1, q1, x1⟩ =>
    ⟨F, ds, ms, _, R, S, h, n1, r1, k1, q1, fun c ns xs ds1 m1 cv d ws σ1 F1 H1 h1 R1 s1 S1 hn hx hd => by
      have h1' : mTryO ml ts E c ns xs ds1 m1 := h1
      unfold mTryO at h1'
      cases e : ml.lookup c with
      | none => rw [e] at h1'; exact h1'.elim
      | some b =>
        rw [e] at h1'
        refine ⟨b, hml c b cv e hn, fun hb1 a na => ?_, fun hb1 => ?_⟩
        · subst hb1
          exact ⟨F1, ds1, m1, E, R1, S1, h1', fun ds3 m3 σ3 F3 H3 h3 R3 s3 S3 => n1 ds3 m3 σ3 F3 H3 h3 R3 (s1.trans s3) S3, fun d3 m3 v3 F3 H3 h3 R3 s3 r3 => r1 d3 m3 v3 F3 H3 h3 R3 (s1.trans s3) r3,
            fun ds3 m3 σ3 F3 H3 h3 R3 s3 S3 => k1 ds3 m3 σ3 F3 H3 h3 R3 (s1.trans s3) S3, fun ds3 m3 σ3 F3 H3 h3 R3 s3 S3 => q1 ds3 m3 σ3 F3 H3 h3 R3 (s1.trans s3) S3⟩
        · subst hb1
          exact x1 c ns xs ds1 m1 cv d ws σ1 F1 H1 h1' R1 s1 S1 hn hx hd⟩
theorem pds_tryO (hc : Names X x cl) (hml : MlE X.K cl ml)
    (hb : ∀ (W : WX) (q : List (Addr × Obj)) (xe : Value → Shared → Prop), Takes (X.tr q xe) W → PassesOwn (model X.prog X.w) X.A X.env xe → PXs (X.tr q xe) W body tb)
    (hsv : ∀ (a : Addr) (q : List (Addr × Obj)), PDSs (X.suite a q) (b₀ :: suite) ts)
    (hs : X.stack = X.env :: X.outer := by rfl) (hf : X.env.frame = some X.env.locals := by rfl) :
    PDS X (.Try body [.ExceptHandler (some (.Name x np)) none (b₀ :: suite) pos'] [] [] pos) (dTryO0 ml tb ts) :=
  psImp (px_tryO hc hml takes0 hb hsv hs hf) fun D σ H ⟨F, ds, ms, E, R, S, h, n1, r1, k1, q1⟩ => ⟨F, ds, ms, _, R, S, h, n1, r1, k1, q1, fun _ _ _ _ _ _ _ _ _ _ _ z => z.elim⟩
end
section
variable {ml : List (Str × Bool)} {tb ts : DTS} {E : EN} {ds : DS} {ms : MS} {c : Str} {ns : List Str} {xs : List D}
theorem w_tryO (h : StG tb (EN.wx E (mTryO ml ts E)) ds ms) : dTryO ml tb ts E ds ms := h
theorem w_tryO0 (h : StG (dTryO ml tb ts) (EN.wx E fun _ _ _ _ _ => False) ds ms) : dTryO0 ml tb ts E ds ms := h
theorem w_mTryO (e : ml.lookup c = some true) (h : StG ts E ds ms) : mTryO ml ts E c ns xs ds ms := by
  unfold mTryO; rw [e]; exact h
end
section
variable {c f : Str} {de dv : DE} {E : EN} {ds : DS} {ms m m' : MS} {P : D → MS → Prop} {p dx : Addr} {ns ns' : List Str} {xs xs' : List D} {y d : D} {i j : Int}
theorem lookU_new0 : lookU ((p, xs) :: m) p = some xs := by unfold lookU; rw [if_pos rfl]
def mGetF (c f : Str) (P : D → MS → Prop) (x : D) (m : MS) : Prop := ∃ p dx ns xs d, x = .opq (.ref p) ∧ lookU m p = some (.fld c dx ns :: xs) ∧ (ns.zip xs).lookup f = some d ∧ P d m
theorem w_getF' (h : ExG de ds ms fun x m => mGetF c f P x m) : dGetF c f de ds ms P := h
theorem w_mGetF (e : lookU m p = some (.fld c dx ns :: xs)) (e2 : (ns.zip xs).lookup f = some d) (h : P d m) : mGetF c f P (.opq (.ref p)) m := ⟨p, dx, ns, xs, d, rfl, e, e2, h⟩
def mSetF (c f : Str) (E : EN) (ds : DS) (y x : D) (m : MS) : Prop := ∃ p dx ns xs, x = .opq (.ref p) ∧ lookU m p = some (.fld c dx ns :: xs) ∧ ns.length < 1000 ∧ ns.length = xs.length ∧ E.nx ds (put m p (.fld c dx (putN f ns) :: putV f y ns xs))
theorem w_setF' (h : ExG dv ds ms fun y m1 => ExG de ds m1 fun x m2 => mSetF c f E ds y x m2) : dSetF c f dv de E ds ms := h
theorem w_mSetF (e : lookU m p = some (.fld c dx ns :: xs)) (l1 : ns.length < 1000) (l2 : ns.length = xs.length) (e1 : putN f ns = ns') (e2 : putV f y ns xs = xs') (e3 : put m p (.fld c dx ns' :: xs') = m') (h : NxG E ds m') : mSetF c f E ds y (.opq (.ref p)) m :=
  ⟨p, dx, ns, xs, rfl, e, l1, l2, by rw [e1, e2, e3]; exact h⟩
def mAugF2 (c f : Str) (p : Addr) (i : Int) (E : EN) (ds : DS) (y : D) (m : MS) : Prop := ∃ j dx' ns' xs', y = .int j ∧ lookU m p = some (.fld c dx' ns' :: xs') ∧ ns'.length < 1000 ∧ ns'.length = xs'.length ∧ E.nx ds (put m p (.fld c dx' (putN f ns') :: putV f (.int (i + j)) ns' xs'))
def mAugF (c f : Str) (dv : DE) (E : EN) (ds : DS) (x : D) (m : MS) : Prop := ∃ p dx ns xs i, x = .opq (.ref p) ∧ lookU m p = some (.fld c dx ns :: xs) ∧ (ns.zip xs).lookup f = some (.int i) ∧ dv ds m fun y m2 => mAugF2 c f p i E ds y m2
theorem w_augF' (h : ExG de ds ms fun x m => mAugF c f dv E ds x m) : dAugF c f de dv E ds ms := h
end
end DL
namespace DL
open PySem PySem.Spec PyProof.Rows L2
section
variable {K : PySem.W.Frag} {F H : Hp} {N ms ms0 : MS}
theorem relHide (hp : (N ++ ms0).Perm ms) (R : Rel K F H ms) : Rel K F H ms0 :=
  ⟨R.sub, fun q hq => R.mu q (hp.mem_iff.mp (List.mem_append_right _ hq)), by
    have nd := (hp.map (·.1)).nodup_iff.mpr R.nd
    rw [List.map_append] at nd
    exact (List.nodup_append.mp nd).2.1, R.one⟩
theorem relShow {F2 H2 : Hp} {m m' : MS} (hp : (N ++ ms0).Perm ms) (R : Rel K F H ms) (R2 : Rel K F2 H2 m) (s2 : Stp F H ms0 F2 H2 m) (hp2 : (N ++ m).Perm m') :
    Rel K F2 H2 m' ∧ Stp F H ms F2 H2 m' := by
  have nd := (hp.map (·.1)).nodup_iff.mpr R.nd
  rw [List.map_append] at nd
  obtain ⟨nN, n0, nx⟩ := List.nodup_append.mp nd
  have inN : ∀ q ∈ N, F q.1 = none ∧ ∃ vs, H q.1 = some (cellO q.2 vs) ∧ DRs K F vs (body q.2) := fun q hq => R.mu q (hp.mem_iff.mp (List.mem_append_left _ hq))
  have off : ∀ q ∈ N, ∀ p ∈ ms0, p.1 ≠ q.1 := fun q hq p hp e => nx _ (List.mem_map_of_mem hq) _ (List.mem_map_of_mem hp) e.symm
  have f2 : ∀ q ∈ N, F2 q.1 = none := fun q hq => by
    cases e : F2 q.1 with
    | none => rfl
    | some o =>
      obtain ⟨h1, vs, h2, h3⟩ := inN q hq
      rcases s2.newF q.1 o e with z | z | ⟨p, hp, z⟩
      · rw [h1] at z; cases z
      · rw [h2] at z; cases z
      · exact absurd z (off q hq p hp)
  have nm : ∀ q ∈ N, ∀ p ∈ m, p.1 ≠ q.1 := fun q hq p hp e => by
    obtain ⟨h1, vs, h2, h3⟩ := inN q hq
    rcases s2.newM p hp with ⟨r, hr, z⟩ | z | ⟨o, z⟩
    · exact off q hq r hr (z.trans e)
    · rw [e, h2] at z; cases z
    · rw [e, h1] at z; cases z
  refine ⟨⟨R2.sub, fun q hq => ?_, ?_, R2.one⟩, ⟨s2.sub, fun a o k1 k2 k3 => s2.keep a o k1 k2 fun p h => k3 p (hp.mem_iff.mp (List.mem_append_right _ h)), fun a o e => ?_, fun q hq => ?_⟩⟩
  · rcases List.mem_append.mp (hp2.mem_iff.mpr hq) with hq | hq
    · obtain ⟨h1, vs, h2, h3⟩ := inN q hq
      exact ⟨f2 q hq, vs, s2.keep _ _ h2 h1 (fun p h => off q hq p h), h3.mono s2.sub⟩
    · exact R2.mu q hq
  · refine (hp2.map (·.1)).nodup_iff.mp ?_
    rw [List.map_append]
    refine List.nodup_append.mpr ⟨nN, R2.nd, fun a ha b hb e => ?_⟩
    obtain ⟨q, hq, rfl⟩ := List.mem_map.mp ha
    obtain ⟨p, hp, rfl⟩ := List.mem_map.mp hb
    exact nm q hq p hp e.symm
  · rcases s2.newF a o e with z | z | ⟨p, h, z⟩
    · exact .inl z
    · exact .inr (.inl z)
    · exact .inr (.inr ⟨p, hp.mem_iff.mp (List.mem_append_right _ h), z⟩)
  · rcases List.mem_append.mp (hp2.mem_iff.mpr hq) with hq | hq
    · exact .inl ⟨q, hp.mem_iff.mp (List.mem_append_left _ hq), rfl⟩
    · rcases s2.newM q hq with ⟨r, hr, z⟩ | z | z
      · exact .inl ⟨r, hp.mem_iff.mp (List.mem_append_right _ hr), z⟩
      · exact .inr (.inl z)
      · exact .inr (.inr z)
end
/-- an expression that N takes no part in -/
def dHide (de : DE) : DE := fun ds ms P => ∃ N ms0 : MS, (N ++ ms0).Perm ms ∧ de ds ms0 fun r m => ∃ m' : MS, (N ++ m).Perm m' ∧ P r m'
theorem pd_hide {X : Cx} {e : Expr} {de : DE} (h : PD X e de) : PD X e (dHide de) := peImp h fun σ H Q ⟨F, ds, ms, P, R, S, ⟨N, ms0, hp, h1⟩, h2⟩ =>
  ⟨F, ds, ms0, _, relHide hp R, S, h1, fun d m v F1 H1 ⟨m', hm, p1⟩ R1 s1 r1 => have z := relShow hp R R1 s1 hm; h2 d m' v F1 H1 p1 z.1 z.2 r1⟩
theorem w_hide {de : DE} {ds : DS} {ms : MS} {P : D → MS → Prop} (N ms0 : MS) (hp : (N ++ ms0).Perm ms) (h : ExG de ds ms0 fun r m => ∃ m' : MS, (N ++ m).Perm m' ∧ P r m') : dHide de ds ms P := ⟨N, ms0, hp, h⟩
/-- the same of one that may raise -/
def dHideZ (g : ZD → DE) (Z : ZD) : DE := fun ds ms P => ∃ N ms0 : MS, (N ++ ms0).Perm ms ∧ g (fun c ns xs ds m => ∃ m' : MS, (N ++ m).Perm m' ∧ Z c ns xs ds m') ds ms0 fun r m => ∃ m' : MS, (N ++ m).Perm m' ∧ P r m'
theorem pdz_hide {X : Cx} {W : WX} {Z : ZD} {e : Expr} {g : ZD → DE} (h : ∀ Z, PDZ X W Z e (g Z)) : PDZ X W Z e (dHideZ g Z) := ⟨fun pins s σ H Q I hq => by
  obtain ⟨F, ds, ms, P, R, S, ⟨N, ms0, hp, h1⟩, h2, h3⟩ := hq
  exact (h _).run pins s σ H Q I ⟨F, ds, ms0, _, relHide hp R, S, h1, fun d m v F1 H1 ⟨m', hm, p1⟩ R1 s1 r1 => have z := relShow hp R R1 s1 hm; h2 d m' v F1 H1 p1 z.1 z.2 r1,
    fun c ns xs m cv d ws F1 H1 ⟨m', hm, p1⟩ R1 s1 hn hx hd => have z := relShow hp R R1 s1 hm; h3 c ns xs m' cv d ws F1 H1 p1 z.1 z.2 hn hx hd⟩⟩
/-- the same of a statement -/
def EN.hd (N : MS) (E : EN) : EN := { nx := fun ds m => ∃ m' : MS, (N ++ m).Perm m' ∧ E.nx ds m', rt := fun d m => ∃ m' : MS, (N ++ m).Perm m' ∧ E.rt d m', bk := fun ds m => ∃ m' : MS, (N ++ m).Perm m' ∧ E.bk ds m', ct := fun ds m => ∃ m' : MS, (N ++ m).Perm m' ∧ E.ct ds m', ex := fun c ns xs ds m => ∃ m' : MS, (N ++ m).Perm m' ∧ E.ex c ns xs ds m' }
def dHideS (t : DTS) : DTS := fun E ds ms => ∃ N ms0 : MS, (N ++ ms0).Perm ms ∧ t (E.hd N) ds ms0
theorem pds_hide {X : Cx} {st : Stmt} {t : DTS} (h : PDS X st t) : PDS X st (dHideS t) := psImp h fun D σ H ⟨F, ds, ms, E, R, S, ⟨N, ms0, hp, h⟩, n, r, k, q⟩ =>
  ⟨F, ds, ms0, _, relHide hp R, S, h, fun ds' m σ' F' H' ⟨m', hm, h'⟩ R' s' S' => have z := relShow hp R R' s' hm; n ds' m' σ' F' H' h' z.1 z.2 S',
    fun d m v F' H' ⟨m', hm, h'⟩ R' s' r' => have z := relShow hp R R' s' hm; r d m' v F' H' h' z.1 z.2 r',
    fun ds' m σ' F' H' ⟨m', hm, h'⟩ R' s' S' => have z := relShow hp R R' s' hm; k ds' m' σ' F' H' h' z.1 z.2 S',
    fun ds' m σ' F' H' ⟨m', hm, h'⟩ R' s' S' => have z := relShow hp R R' s' hm; q ds' m' σ' F' H' h' z.1 z.2 S'⟩
theorem w_hideS {t : DTS} {E : EN} {ds : DS} {ms : MS} (N ms0 : MS) (hp : (N ++ ms0).Perm ms) (h : StG t (E.hd N) ds ms0) : dHideS t E ds ms := ⟨N, ms0, hp, h⟩
def fEqE : OF := fun x y ms P => match x, y with
  | .opq (.ref p), .lst [] => ∃ xs, look ms p = some xs ∧ P (.bl xs.isEmpty) ms
  | _, _ => fEq x y ms P
theorem fEqE_else {x y : D} {ms : MS} {P : D → MS → Prop} (hn : ∀ p, ¬ (x = .opq (.ref p) ∧ y = .lst [])) (h : fEqE x y ms P) : fEq x y ms P := by
  unfold fEqE at h
  split at h
  · exact absurd ⟨rfl, rfl⟩ (hn _)
  · exact h
theorem relOne {K : PySem.W.Frag} {F H : Hp} {ms : MS} {q : Addr × List D} (hm : q ∈ ms) (R : Rel K F H ms) : Rel K F H ([q] ++ []) := by
  obtain ⟨s, t, rfl⟩ := List.append_of_mem hm
  refine relHide (N := s ++ t) ?_ R
  exact (List.perm_append_singleton q (s ++ t)).trans List.perm_middle.symm
theorem opd_eqE {K : PySem.W.Frag} : OpD K (rEqA K) fEqE := fun F H ms x y dx dy P Q R rx ry h q => by
  by_cases e : ∃ p, dx = .opq (.ref p) ∧ dy = .lst []
  · obtain ⟨p, rfl, rfl⟩ := e
    obtain ⟨xs, hl, h⟩ := h
    have R1 := relOne (look_mem hl) R
    have hx := DR.vw R1 (.lst (List.mem_append_left _ (List.mem_singleton.mpr rfl)) (VwS.same xs) (look_no hl)) rx
    exact .inr (.inl ⟨_, _, (relLent R1).1.sub, hx, ry.mono (lent_sub R1), by rw [Bool.false_xor]; exact q _ ms _ F H h R Stp.refl (.bl _)⟩)
  · exact opd_eq F H ms x y dx dy P Q R rx ry (fEqE_else (fun p z => e ⟨p, z⟩) h) q
theorem w_eqE {p : Addr} {xs : List D} {ms : MS} {P : D → MS → Prop} (e : look ms p = some xs) (h : P (.bl xs.isEmpty) ms) : fEqE (.opq (.ref p)) (.lst []) ms P := ⟨xs, e, h⟩
theorem w_eqE_l {xs ys : List D} {ms : MS} {P : D → MS → Prop} (h : fEq (.lst xs) (.lst ys) ms P) : fEqE (.lst xs) (.lst ys) ms P := h
section
variable {N ms ms' : MS} {E : EN} {ds : DS} {d : D} {c : Str} {ns : List Str} {xs : List D}
theorem n_hd (e : N ++ ms = ms') (h : NxG E ds ms') : NxG (EN.hd N E) ds ms := ⟨ms', e ▸ .refl _, h⟩
theorem t_hd (e : N ++ ms = ms') (h : RtG E d ms') : RtG (EN.hd N E) d ms := ⟨ms', e ▸ .refl _, h⟩
theorem x_hd (e : N ++ ms = ms') (h : XcG E c ns xs ds ms') : XcG (EN.hd N E) c ns xs ds ms := ⟨ms', e ▸ .refl _, h⟩
end
theorem w_hideZ {g : ZD → DE} {Z : ZD} {ds : DS} {ms : MS} {P : D → MS → Prop} (N ms0 : MS) (hp : (N ++ ms0).Perm ms) (h : ExG (g fun c ns xs ds m => ∃ m' : MS, (N ++ m).Perm m' ∧ Z c ns xs ds m') ds ms0 fun r m => ∃ m' : MS, (N ++ m).Perm m' ∧ P r m') : dHideZ g Z ds ms P := ⟨N, ms0, hp, h⟩
end DL
namespace DL
open PySem PySem.Spec PyProof.Rows L2
/-- what is known of the class ahead -/
def LenF (K : PySem.W.Frag) (c : Str) (f : Addr) : Prop := ∀ C, PySem.W.nsIn K mainGlobals c = some (some (.ref C)) → PySem.W.findIn K (.ref C) "__len__" = some (some (.ref f)) ∧ PySem.W.isFn K (.ref f) = true
theorem RoomG.in1 {k : Nat} {A : Around} (r : RoomG (k + 1) A) : RoomG k A.in1 := ⟨r.r.in1, by
  have g := r.g
  obtain ⟨hd, d, fr, gs, u⟩ := A
  have g : gs = some [] := g
  subst g
  rfl⟩
def LenBk (Q : Value → Shared → Prop) (r : Value) (s' : Shared) : Prop := ∃ n u, r = .int n u ∧ 0 ≤ n ∧ n < 2 ^ 63 ∧ Q (.int n s'.toks) { s' with toks := s'.toks + 1 }
theorem len_at {prog : Program} {w : World} {A : Around} {E : Value → Shared → Prop} {s : Shared} {K : PySem.W.Frag} {x C f : Addr} {ox : Obj} {od : Option Obj} {Q : Value → Shared → Prop}
    (X : K.In s.heap) (I : PySem.W.InstAt s.heap x ox C od) (hs : PySem.W.findIn K (.ref C) "__len__" = some (some (.ref f))) (hf : PySem.W.isFn K (.ref f) = true)
    (h : wpAny (model prog w) A.in1 (call (.ref f) [.ref x]) (LenBk Q) E s) : wpAny (model prog w) A (call (.builtin "len") [.ref x]) Q E s := by
  refine Calls.call_function_entry kind_len plain_len entry_len (args_len1 _) ?_
  unfold Builtin.«len»
  refine wpAny_bind (m := oneArg "len" _) (wpAny_pure ?_)
  refine wpAny_bind (m := callSpecial? (.ref x) (Str.ofString "__len__")) (PySem.W.special_fn X I hs (beq_iff_eq.mp hf) (wpAny_mono h (fun r s' hr => ?_) fun _ _ y => y))
  obtain ⟨n, u, rfl, h0, h1, hq⟩ := hr
  refine wpAny_bind (wpAny_holding (wpAny_pure ?_))
  refine wpAny_bind (wpAny_letGo ?_)
  show wpAny _ _ (if n < 0 then _ else _) _ _ _
  rw [if_neg (by omega)]
  show wpAny _ _ (if n ≥ 2 ^ 63 then _ else _) _ _ _
  rw [if_neg (by omega)]
  exact wpAny_bind (wpAny_mkInt (wpAny_pure ⟨_, rfl, hq⟩))
def rLenO (K : PySem.W.Frag) (f : Addr) (sp : Sp) : List V → Hp → VK → Prop := fun xs H Q => ∃ (a C dx : Addr) (fs : List (Str × V)), xs = [.ref a] ∧ H a = some (.ins C dx fs) ∧ PySem.W.findIn K (.ref C) "__len__" = some (some (.ref f)) ∧ PySem.W.isFn K (.ref f) = true ∧
  sp [.ref a] H (fun v H' => ∃ n : Int, v = .int n ∧ 0 ≤ n ∧ n < 2 ^ 63 ∧ Q (.int n) H') E0
section
variable {X : Cx} {k : Nat} {f : Addr} {fd : FuncData} {ps : List Str} {sp : Sp} {fs : FS} {c : Str}
theorem call_lenO (F : FnG X.prog X.w X.K X.mg X.base k f fd ps sp) (hr : RoomG (k + 1) X.A) (hb : Bnd X.K fd ps 1 [] [0]) : CallR X (.builtin "len") (rLenO X.K f sp) := by
  intro pins s σ H xs us Q I r ⟨a, C, dx, fs, e, ea, h1, h2, h⟩
  subst e
  match us, r with
  | [u], .cons r0 .nil =>
    obtain rfl : u = Value.ref a := r0
    obtain ⟨mA, O, _, _, _, _⟩ := ins_get I.hok ea
    obtain ⟨od, J, _⟩ := O.look
    refine len_at I.kIn J h1 h2 ?_
    have hb' := hb.to s [Value.ref a] [] I.kIn rfl rfl
    have hv : Vals [V.ref a] [Value.ref a] := .cons rfl .nil
    have hg := F.go X.A.in1 X.stack s H ⟨[.ref a], []⟩ _ _ _ hr.in1 I.env0.in1 hb' (pick_vals (hv.append .nil) [0]) h
    refine wpAny_call (codeAny_mono hg fun r s' hq => ?_)
    match r, hq with
    | .error _, hq => exact hq.elim
    | .ok (.ret u), hq =>
      obtain ⟨v, H', I', rv, n, rfl, h0, h1, q⟩ := I.after hq
      obtain ⟨tk, rfl⟩ := rv
      exact ⟨n, tk, rfl, h0, h1, .int n, H', I'.kept (t' := s'.toks + 1) fun _ _ z => z, ⟨_, rfl⟩, q⟩
    | .ok .next, hq => exact False.elim hq
    | .ok .brk, hq => exact False.elim hq
    | .ok .cont, hq => exact False.elim hq
end
def cLenO (c : Str) (fs : FS) : CF := fun xs ms P => match xs with
  | [x] => ObjAt c "__len__" x ms ∧ fs [x] ms fun r m' => ∃ n : Int, r = .int n ∧ 0 ≤ n ∧ n < 2 ^ 63 ∧ P (.int n) m'
  | _ => False
theorem cal_lenO {K : PySem.W.Frag} {c : Str} {f : Addr} {fs : FS} (hl : LenF K c f) : CalD K (rLenO K f (spD K fs)) (cLenO c fs) := fun F H ms vs xs P Q R r h q => by
  match xs, r, h with
  | [x], .cons r0 .nil, h =>
    obtain ⟨⟨p, dx, ns, ys, rfl, e1, no⟩, h⟩ := h
    cases r0
    obtain ⟨_, C, ws, hC, hH, rs⟩ := R.obj e1
    refine ⟨p, C, dx, _, rfl, hH, (hl C hC).1, (hl C hC).2, F, _, ms, _, R, .cons (.opq _) .nil, h, fun d m v F1 H1 p1 R1 s1 r1 => ?_⟩
    obtain ⟨n, rfl, h0, h1, p1⟩ := p1
    cases r1
    exact ⟨n, rfl, h0, h1, q _ _ _ _ _ p1 R1 s1 (.int n)⟩
theorem w_mLenO {c : Str} {fs : FS} {p dx : Addr} {ns : List Str} {ys : List D} {ms : MS} {P : D → MS → Prop} (e : lookU ms p = some (.fld c dx ns :: ys)) (no : (Str.ofString "__len__") ∉ ns) (h : fs [.opq (.ref p)] ms fun r m' => ∃ n : Int, r = .int n ∧ 0 ≤ n ∧ n < 2 ^ 63 ∧ P (.int n) m') :
    cLenO c fs [.opq (.ref p)] ms P := ⟨⟨p, dx, ns, ys, rfl, e, no⟩, h⟩
def dNo : DE := fun _ _ _ => False
theorem pd_no {X : Cx} {e : Expr} : PD X e dNo := ⟨fun pins s σ H Q I h => by obtain ⟨F, ds, ms, P, R, S, h, _⟩ := h; exact h.elim⟩
end DL
namespace Pf
open PySem PySem.Spec PyProof.Rows L2 DL
local macro_rules | `(tactic| walk_at "dl") => `(tactic| simp only [dSeq, dWhile, dTest, dOp, dVar, dC, dPar, dRet, dRetN, dCB, dAsg, dIfS, dNext, dTup, dLst, dLstM, dCall, dNeg, dSetIx, dDrop, dAnd, dOr, dNot, dAndV, dOrV, dNotV, dIf, dFor, dLc, dSl, dIsi, dYes, dTru, truD, dAppend, dFrz,
  aNil, aCons, oNone, oSome, sName, sTup, sCons, sNil, iRange1, iRange2, iSeq, iTupD, iZipD, iEnumD, slot, setSlot, startD, List.length_nil, List.length_cons, Nat.reduceAdd, List.append_nil, List.cons_append, List.nil_append, pick, List.filterMap_cons, List.filterMap_nil, List.getElem?_cons_zero, List.getElem?_cons_succ,
  fI, fAdd, fSub, fMul, fDiv, fMod, fPow, fLt, fLe, fGt, fGe, fEq, fNe, cAbs, cMax2, cMin2, cInt1, cLen, cRepr, true_and, and_true, decide_eq_true_eq, if_true, dDoX, dRaise, dRaiseI, dExprZ, dRetZ, dAsgZ, dCallZ, dTry0, dTry, dIsE, dFld, dEdic, EN.lp, EN.wn, EN.wx])
theorem t9 : (10 : Int) ^ Int.toNat 9 = 1000000000 := by decide +kernel
theorem t6 : (10 : Int) ^ Int.toNat 6 = 1000000 := by decide +kernel
theorem t18 : (10 : Int) ^ Int.toNat 18 = 1000000000000000000 := by decide +kernel
theorem t30 : (10 : Int) ^ Int.toNat 30 = 1000000000000000000000000000000 := by decide +kernel
theorem t39 : (10 : Int) ^ Int.toNat 39 = 1000000000000000000000000000000000000000 := by decide +kernel
theorem t56 : (10 : Int) ^ Int.toNat 56 = 100000000000000000000000000000000000000000000000000000000 := by decide +kernel
theorem t60 : (10 : Int) ^ Int.toNat 60 = 1000000000000000000000000000000000000000000000000000000000000 := by decide +kernel
theorem t40 : (10 : Int) ^ Int.toNat 40 = 10000000000000000000000000000000000000000 := by decide +kernel
theorem t50 : (10 : Int) ^ Int.toNat 50 = 100000000000000000000000000000000000000000000000000 := by decide +kernel
theorem t59 : (10 : Int) ^ Int.toNat 59 = 100000000000000000000000000000000000000000000000000000000000 := by decide +kernel
theorem t58 : (10 : Int) ^ Int.toNat 58 = 10000000000000000000000000000000000000000000000000000000000 := by decide +kernel
def fr (p : Int × Int) : D := .tup [.int p.1, .int p.2]
def Bd (n : Nat) (x : Int) : Prop := x.natAbs < 2 ^ n
theorem Bd.mono {n m : Nat} {x : Int} (h : Bd n x) (hm : n ≤ m) : Bd m x := Nat.lt_of_lt_of_le h (Nat.pow_le_pow_right (by decide) hm)
theorem Bd.log {n : Nat} {x : Int} (h : Bd n x) (h0 : 0 < n) : x.natAbs.log2 < n := PySem.Flt.log2_lt_of h0 h
mutual
def wt : PyData → Nat
  | .none => 10
  | .bool _ => 10
  | .int _ => 2000
  | .str x => 10 * x.length + 10
  | .list xs => wts xs + 10
  | .tuple xs => wts xs + 10
  | .dict _ => 10
def wts : List PyData → Nat
  | [] => 0
  | x :: r => wt x + 2 + wts r
end
mutual
def lay1 : PyData → Bool
  | .none => true
  | .bool _ => true
  | .int _ => true
  | .str x => x.cps.all (· < 0x110000)
  | .list xs => lay1s xs
  | .tuple xs => lay1s xs
  | .dict kvs => kvs.isEmpty
def lay1s : List PyData → Bool
  | [] => true
  | x :: r => lay1 x && lay1s r
end
mutual
theorem lay1_of : ∀ p : PyData, p.canLay0 = true → lay1 p = true
  | .none, _ => rfl
  | .bool _, _ => rfl
  | .int _, _ => rfl
  | .str x, h => h
  | .list xs, h => lay1s_of xs h
  | .tuple xs, h => lay1s_of xs h
  | .dict _, h => by cases h
theorem lay1s_of : ∀ xs : List PyData, PyData.canLayAll0 xs = true → lay1s xs = true
  | [], _ => rfl
  | x :: r, h => by
    obtain ⟨a1, a2⟩ := Bool.and_eq_true_iff.mp h
    show (lay1 x && lay1s r) = true
    rw [lay1_of x a1, lay1s_of r a2]; rfl
end
theorem listText_le (ts : List Str) : (listText ts).length ≤ piled ts + 4 := by
  have e : (listText ts).length = (textFrom 0 "[" ts).length + 1 := by
    show (textFrom 0 "[" ts ++ "]").length = _
    rw [strLen_append]; rfl
  cases ts with
  | nil => rw [e]; decide +kernel
  | cons t r =>
    have h1 : textFrom 0 "[" (t :: r) = textFrom 1 ("[" ++ (if 0 > 0 then ", " else "" : String) ++ t) r := rfl
    have h2 := textFrom_length_pos r 1 ("[" ++ (if 0 > 0 then ", " else "" : String) ++ t) (by decide)
    have h3 : (("[" : Str) ++ ((if 0 > 0 then ", " else "" : String) : Str) ++ t).length = 1 + t.length := by
      rw [strLen_append, strLen_append]
      show 1 + 0 + t.length = _
      omega
    rw [e, h1, h2, h3, piled_cons]
    omega
mutual
theorem shown_le : ∀ p : PyData, lay1 p = true → p.showable = true → p.shown.length ≤ wt p
  | .none, _, _ => by decide +kernel
  | .bool b, _, _ => by cases b <;> decide +kernel
  | .int i, _, h => by
    have := int_text_len_1921 (i := i) (of_decide_eq_true h)
    show (Str.ofString (toString i)).length ≤ 2000
    omega
  | .str x, h, _ => by
    have h' : x.cps.all (· < 0x110000) = true := h
    have := StrLaws.reprText_len x fun c hc => by
      rw [Array.all_eq_true'] at h'
      have z := of_decide_eq_true (h' c (Array.mem_toList_iff.mp hc))
      exact Nat.lt_trans z (by decide)
    show (reprText x).length ≤ 10 * x.length + 10
    omega
  | .list xs, h, h2 => by
    have := shownAll_le xs h h2
    have h3 := listText_le (PyData.shownAll xs)
    show (listText (PyData.shownAll xs)).length ≤ wts xs + 10
    omega
  | .tuple xs, h, h2 => by
    have := shownAll_le xs h h2
    have h3 := fmt_text (PyData.shownAll xs)
    show (tupleText (PyData.shownAll xs)).length ≤ wts xs + 10
    omega
  | .dict kvs, h, _ => by
    cases kvs with
    | nil => exact (by decide +kernel : (PyData.dict []).shown.length ≤ 10)
    | cons _ _ => cases h
theorem shownAll_le : ∀ xs : List PyData, lay1s xs = true → PyData.showableAll xs = true → piled (PyData.shownAll xs) ≤ wts xs
  | [], _, _ => Nat.le_refl 0
  | x :: r, h, h2 => by
    obtain ⟨a1, a2⟩ := Bool.and_eq_true_iff.mp h
    obtain ⟨b1, b2⟩ := Bool.and_eq_true_iff.mp h2
    have z1 := shown_le x a1 b1
    have z2 := shownAll_le r a2 b2
    show piled (PyData.shown x :: PyData.shownAll r) ≤ wt x + 2 + wts r
    rw [piled_cons]
    omega
end
structure Sm (d : D) (n k : Nat) : Prop where
  ex : ∃ p, toPy d = some p ∧ p.canLay0 = true ∧ p.showable = true ∧ wt p ≤ n ∧ p.depth ≤ k
theorem Sm.mono {d : D} {n k n' k' : Nat} (h : Sm d n k) (h1 : n ≤ n') (h2 : k ≤ k') : Sm d n' k' := by
  obtain ⟨p, a, b, c, e, f⟩ := h.ex
  exact ⟨p, a, b, c, Nat.le_trans e h1, Nat.le_trans f h2⟩
theorem Sm.shw {d : D} {n k : Nat} (h : Sm d n k) (hn : n ≤ 16000000 := by decide) (hk : k ≤ 60 := by decide) : Shw d := by
  obtain ⟨p, a, b, c, e, f⟩ := h.ex
  exact ⟨p, a, c, by omega, Nat.le_trans (shown_le p (lay1_of p b) c) (Nat.le_trans e (Nat.le_trans hn (by decide)))⟩
theorem Sm.sh {d : D} {n k : Nat} (h : Sm d n k) (hk : k ≤ 60 := by decide) : ShD d := by
  obtain ⟨p, a, b, c, e, f⟩ := h.ex
  refine ⟨p, a, ?_⟩
  unfold SeqAt.shaped
  rw [b, decide_eq_true (by omega : p.depth ≤ 64)]
  rfl
theorem sm_int {n : Nat} {i : Int} (h : Bd n i) (hn : n ≤ 1900 := by decide) : Sm (.int i) 2000 0 := by
  refine ⟨_, rfl, rfl, ?_, Nat.le_refl _, Nat.le_refl _⟩
  refine decide_eq_true (Nat.lt_of_lt_of_le (Bd.log (n := n + 1) (h.mono (Nat.le_succ n)) (Nat.succ_pos n)) (by omega))
theorem sm_bl (b : Bool) : Sm (.bl b) 10 0 := ⟨_, rfl, rfl, rfl, Nat.le_refl _, Nat.le_refl _⟩
theorem sm_str (x : Str) (h : x.cps.all (· < 0x110000) = true) : Sm (.str x) (10 * x.length + 10) 0 := ⟨_, rfl, h, rfl, Nat.le_refl _, Nat.le_refl _⟩
/-- the same, empty dicts too: for repr alone -/
structure Sd (d : D) (n k : Nat) : Prop where
  ex : ∃ p, toPy d = some p ∧ lay1 p = true ∧ p.showable = true ∧ wt p ≤ n ∧ p.depth ≤ k
theorem Sm.sd {d : D} {n k : Nat} (h : Sm d n k) : Sd d n k := by
  obtain ⟨p, a, b, c, e, f⟩ := h.ex
  exact ⟨p, a, lay1_of p b, c, e, f⟩
theorem Sd.mono {d : D} {n k n' k' : Nat} (h : Sd d n k) (h1 : n ≤ n') (h2 : k ≤ k') : Sd d n' k' := by
  obtain ⟨p, a, b, c, e, f⟩ := h.ex
  exact ⟨p, a, b, c, Nat.le_trans e h1, Nat.le_trans f h2⟩
theorem Sd.shw {d : D} {n k : Nat} (h : Sd d n k) (hn : n ≤ 16000000 := by decide) (hk : k ≤ 60 := by decide) : Shw d := by
  obtain ⟨p, a, b, c, e, f⟩ := h.ex
  exact ⟨p, a, c, by omega, Nat.le_trans (shown_le p b c) (Nat.le_trans e (Nat.le_trans hn (by decide)))⟩
theorem sd_all {n k : Nat} : ∀ xs : List D, (∀ x ∈ xs, Sd x n k) → ∃ ps, toPys xs = some ps ∧ lay1s ps = true ∧ PyData.showableAll ps = true ∧ wts ps ≤ (n + 2) * xs.length ∧ PyData.depthAll ps ≤ k
  | [], _ => ⟨[], rfl, rfl, rfl, Nat.zero_le _, Nat.zero_le _⟩
  | x :: r, h => by
    obtain ⟨p, a, b, c, e, f⟩ := (h x List.mem_cons_self).ex
    obtain ⟨ps, a2, b2, c2, e2, f2⟩ := sd_all r fun y hy => h y (List.mem_cons_of_mem _ hy)
    refine ⟨p :: ps, by unfold toPys; rw [a, a2], Bool.and_eq_true_iff.mpr ⟨b, b2⟩, Bool.and_eq_true_iff.mpr ⟨c, c2⟩, ?_, Nat.max_le.mpr ⟨f, f2⟩⟩
    show wt p + 2 + wts ps ≤ (n + 2) * (r.length + 1)
    rw [Nat.mul_succ]
    omega
theorem sd_lst {n k : Nat} {xs : List D} (h : ∀ x ∈ xs, Sd x n k) : Sd (.lst xs) ((n + 2) * xs.length + 10) (k + 1) := by
  obtain ⟨ps, a, b, c, e, f⟩ := sd_all xs h
  refine ⟨.list ps, by unfold toPy; rw [a]; rfl, b, c, ?_, Nat.succ_le_succ f⟩
  show wts ps + 10 ≤ _
  omega
mutual
def plain : D → Bool
  | .non => true
  | .bl _ => true
  | .int _ => true
  | .str _ => true
  | .lst xs => plains xs
  | .tup xs => plains xs
  | .fro _ => false
  | .edic => true
  | .dct _ => false
  | .opq _ => false
  | .exc _ _ _ => false
  | .fld _ _ _ => false
  | .kls _ => false
def plains : List D → Bool
  | [] => true
  | x :: r => plain x && plains r
end
theorem plains_iff : ∀ {xs : List D}, plains xs = true ↔ ∀ x ∈ xs, plain x = true
  | [] => ⟨fun _ _ h => (by cases h), fun _ => rfl⟩
  | x :: r => by
    show (plain x && plains r) = true ↔ _
    rw [Bool.and_eq_true_iff, plains_iff (xs := r)]
    exact ⟨fun h y hy => (List.mem_cons.mp hy).elim (fun e => e ▸ h.1) (h.2 y), fun h => ⟨h x List.mem_cons_self, fun y hy => h y (List.mem_cons_of_mem _ hy)⟩⟩
/-- plain data that repr shows -/
structure Gd (d : D) (n k : Nat) : Prop where
  pl : plain d = true
  sd : Sd d n k
theorem Gd.mono {d : D} {n k n' k' : Nat} (h : Gd d n k) (h1 : n ≤ n') (h2 : k ≤ k') : Gd d n' k' := ⟨h.pl, h.sd.mono h1 h2⟩
theorem gd_int {n : Nat} {i : Int} (h : Bd n i) (hn : n ≤ 1900 := by decide) : Gd (.int i) 2000 0 := ⟨rfl, (sm_int h hn).sd⟩
theorem gd_lst {n k : Nat} {xs : List D} (h : ∀ x ∈ xs, Gd x n k) : Gd (.lst xs) ((n + 2) * xs.length + 10) (k + 1) := ⟨plains_iff.mpr fun x hx => (h x hx).pl, sd_lst fun x hx => (h x hx).sd⟩
theorem ofString_ok (s : String) : (Str.ofString s).cps.all (· < 0x110000) = true := by
  rw [Array.all_eq_true']
  intro c hc
  rw [← Array.mem_toList_iff, PyProof.Rows.signs_ofString, List.mem_map] at hc
  obtain ⟨ch, _, rfl⟩ := hc
  have := ch.valid
  rcases this with h | ⟨_, h⟩
  · exact decide_eq_true (Nat.lt_trans h (by decide))
  · exact decide_eq_true h
theorem gd_str (x : Str) (h : x.cps.all (· < 0x110000) = true) : Gd (.str x) (10 * x.length + 10) 0 := ⟨rfl, (sm_str x h).sd⟩
theorem gd_lit (s : String) : Gd (.str s) (10 * (Str.ofString s).length + 10) 0 := gd_str _ (ofString_ok s)
theorem atI_0 {α : Type} (x : α) (r : List α) : atI (x :: r) 0 = some x := atI_nat (j := 0) rfl
theorem atI_1 {α : Type} (x y : α) (r : List α) : atI (x :: y :: r) 1 = some y := atI_nat (j := 1) rfl
theorem rng_mem {lo : Int} {n : Nat} {x : D} (h : x ∈ rng lo n) : ∃ i : Nat, i < n ∧ x = .int (lo + i) := by
  unfold rng at h
  obtain ⟨i, hi, rfl⟩ := List.mem_map.mp h
  exact ⟨i, List.mem_range.mp hi, rfl⟩
theorem rng_len {lo : Int} {n : Nat} : (rng lo n).length = n := by unfold rng; rw [List.length_map, List.length_range]
theorem ints_of {n : Nat} : ∀ ys : List D, (∀ y ∈ ys, ∃ i : Int, y = .int i ∧ Bd n i) → ∃ is : List Int, ys = is.map D.int ∧ (∀ i ∈ is, Bd n i) ∧ is.length = ys.length
  | [], _ => ⟨[], rfl, (fun _ h => by cases h), rfl⟩
  | y :: r, h => by
    obtain ⟨t, rfl, ht⟩ := h y List.mem_cons_self
    obtain ⟨ts, e, h2, h3⟩ := ints_of r fun z hz => h z (List.mem_cons_of_mem _ hz)
    refine ⟨t :: ts, by rw [e]; rfl, fun x hx => ?_, by rw [List.length_cons, List.length_cons, h3]⟩
    rcases List.mem_cons.mp hx with rfl | hx
    · exact ht
    · exact h2 x hx
theorem comp_e {α : Type} {g : DG} {te : DE} {ds : DS} {ms : MS} (e : α → D) (f : α → D) : ∀ (xs : List α) (acc : List D) (P : List D → MS → Prop), acc.length + xs.length ≤ 1000000 →
    (∀ x ∈ xs, ∀ P0 : D → MS → Prop, P0 (f x) ms → g (e x) ds fun ds2 => te ds2 ms P0) → P (acc ++ xs.map f) ms → compD g dYes te ds (xs.map e) acc ms P
  | [], acc, P, _, _, h => by rw [List.map_nil, List.append_nil] at h; exact h
  | x :: r, acc, P, hl, t, h => by
    rw [List.length_cons] at hl
    rw [List.map_cons]
    unfold compD
    simp only [dYes, if_true]
    refine t x List.mem_cons_self _ ⟨Nat.lt_of_lt_of_le (by omega : acc.length < 1000001) (by decide), comp_e e f r _ P (by rw [List.length_append, List.length_singleton]; omega) (fun y hy => t y (List.mem_cons_of_mem _ hy)) ?_⟩
    rw [List.append_assoc]
    exact h
theorem bls_map {α : Type} (f : α → Bool) : ∀ xs : List α, blsOf (xs.map fun x => D.bl (f x)) = some (xs.map f)
  | [] => rfl
  | x :: r => by rw [List.map_cons, List.map_cons]; unfold blsOf; rw [bls_map f r]; rfl
local macro_rules | `(tactic| walk_at "d2") => `(tactic| simp only [dSeq, dWhile, dTest, dOp, dVar, dC, dPar, dRet, dRetN, dCB, dAsg, dIfS, dNext, dTup, dLst, dLstM, dCall, dNeg, dSetIx, dDrop, dAnd, dOr, dNot, dAndV, dOrV, dNotV, dIf, dFor, dLc, dSl, dIsi, dYes, dTru, truD, dAppend, dFrz,
  aNil, aCons, oNone, oSome, sName, sTup, sCons, sNil, iRange1, iRange2, iSeq, iTupD, iZipD, iEnumD, slot, setSlot, startD, List.length_nil, List.length_cons, Nat.reduceAdd, List.append_nil, List.cons_append, List.nil_append, pick, List.filterMap_cons, List.filterMap_nil, List.getElem?_cons_zero, List.getElem?_cons_succ,
  fI, fAdd, fSub, fMul, fDiv, fMod, fPow, fLt, fLe, fGt, fGe, fEq, fNe, cAbs, cMax2, cMin2, cInt1, cLen, cRepr, true_and, and_true, decide_eq_true_eq, if_true, dDoX, dRaise, dRaiseI, dExprZ, dRetZ, dAsgZ, dCallZ, dTry0, dTry, dIsE, dFld, dEdic, EN.lp, EN.wn, EN.wx, cTuple, cList, cStr, cAll, cAny, cSum, fSl, asL, fIx, atI_0, atI_1, fIn, fNotIn, fInB, wipeD, List.set, dChain])
local macro_rules | `(tactic| walk_at "s1") => `(tactic| (fail))
local macro_rules | `(tactic| walk_at "s1.ExG") => `(tactic| (fail))
local macro_rules | `(tactic| walk_at "s1.ArG") => `(tactic| (fail))
local macro_rules | `(tactic| walk_at "s1.OpG") => `(tactic| (fail))
local macro_rules | `(tactic| walk_at "s1.TgG") => `(tactic| (fail))
local macro_rules | `(tactic| walk_at "s1.StG") => `(tactic| (fail))
local macro_rules | `(tactic| walk_at "s1.TsG") => `(tactic| (fail))
local macro_rules | `(tactic| walk_at "s1.CbG") => `(tactic| (fail))
local macro_rules | `(tactic| walk_at "s1.ItG") => `(tactic| (fail))
local macro_rules | `(tactic| walk_at "s1.OgG") => `(tactic| (fail))
local macro_rules | `(tactic| walk_at "s1.TgsG") => `(tactic| (fail))
local macro_rules | `(tactic| walk_at "s1.SlG") => `(tactic| (fail))
local macro_rules | `(tactic| walk_at "s1") => `(tactic| (with_reducible refine n_mk ?_))
local macro_rules | `(tactic| walk_at "s1") => `(tactic| (with_reducible refine x_mk ?_))
local macro_rules | `(tactic| walk_at "s1") => `(tactic| (with_reducible refine t_mk ?_))
local macro_rules | `(tactic| walk_at "s1") => `(tactic| (with_reducible refine r_neg ?_))
local macro_rules | `(tactic| walk_at "s1") => `(tactic| (with_reducible refine r_chain ?_))
local macro_rules | `(tactic| walk_at "s1") => `(tactic| (with_reducible refine r_isi ?_))
local macro_rules | `(tactic| walk_at "s1") => `(tactic| (with_reducible refine r_sl ?_))
local macro_rules | `(tactic| walk_at "s1") => `(tactic| (with_reducible refine r_lc ?_))
local macro_rules | `(tactic| walk_at "s1") => `(tactic| (with_reducible refine r_or ?_))
local macro_rules | `(tactic| walk_at "s1") => `(tactic| (with_reducible refine r_and ?_))
local macro_rules | `(tactic| walk_at "s1") => `(tactic| (with_reducible refine r_not ?_))
local macro_rules | `(tactic| walk_at "s1") => `(tactic| (with_reducible refine r_if ?_))
local macro_rules | `(tactic| walk_at "s1") => `(tactic| (with_reducible refine r_notV ?_))
local macro_rules | `(tactic| walk_at "s1") => `(tactic| (with_reducible refine r_orV ?_))
local macro_rules | `(tactic| walk_at "s1") => `(tactic| (with_reducible refine r_andV ?_))
local macro_rules | `(tactic| walk_at "s1") => `(tactic| (with_reducible refine r_lst ?_))
local macro_rules | `(tactic| walk_at "s1") => `(tactic| (with_reducible refine r_tup ?_))
local macro_rules | `(tactic| walk_at "s1") => `(tactic| (with_reducible refine r_c ?_))
local macro_rules | `(tactic| walk_at "s1") => `(tactic| (with_reducible refine r_var ?_))
local macro_rules | `(tactic| walk_at "s1") => `(tactic| (with_reducible refine r_cb ?_))
local macro_rules | `(tactic| walk_at "s1") => `(tactic| (with_reducible refine r_exprZ ?_))
local macro_rules | `(tactic| walk_at "s1") => `(tactic| (with_reducible refine r_for ?_))
local macro_rules | `(tactic| walk_at "s1") => `(tactic| (with_reducible refine r_drop ?_))
local macro_rules | `(tactic| walk_at "s1") => `(tactic| (with_reducible refine r_asg ?_))
local macro_rules | `(tactic| walk_at "s1") => `(tactic| (with_reducible refine r_ifS ?_))
local macro_rules | `(tactic| walk_at "s1") => `(tactic| (with_reducible refine r_ret ?_))
local macro_rules | `(tactic| walk_at "s1") => `(tactic| (with_reducible refine r_stup ?_))
local macro_rules | `(tactic| walk_at "s1") => `(tactic| (with_reducible refine r_test ?_))
local macro_rules | `(tactic| walk_at "s1") => `(tactic| (with_reducible refine r_call ?_))
local macro_rules | `(tactic| walk_at "s1") => `(tactic| (with_reducible refine r_op ?_))
local macro_rules | `(tactic| walk_at "s1") => `(tactic| (with_reducible refine r_seq ?_))
local macro_rules | `(tactic| walk_at "s1") => `(tactic| (with_reducible refine r_name ?_))
local macro_rules | `(tactic| walk_at "s1") => `(tactic| (with_reducible refine r_rt ?_))
local macro_rules | `(tactic| walk_at "s1") => `(tactic| (with_reducible refine r_nx ?_))
local macro_rules | `(tactic| walk_at "s1") => `(tactic| ((with_reducible refine' w_mIsN ?wa ?wz); (case wa => rfl)))
local macro_rules | `(tactic| walk_at "s1") => `(tactic| ((with_reducible refine' w_mApp2 ?wa ?wv ?wz); (case wa => (first | assumption | exact look_new)); (case wv => (first | exact put_new | rfl))))
local macro_rules | `(tactic| walk_at "s1") => `(tactic| ((with_reducible refine' w_mApp ?wa ?wz); (case wa => (first | assumption | exact look_new))))
local macro_rules | `(tactic| walk_at "s1") => `(tactic| ((with_reducible refine' w_mFld (b := true) ?wa ?wv ?wz); (case wa => decide +kernel); (case wv => rfl)))
local macro_rules | `(tactic| walk_at "s1") => `(tactic| ((with_reducible refine w_mIsE (b := false) ?wa ?wz); (case wa => decide +kernel)))
local macro_rules | `(tactic| walk_at "s1") => `(tactic| ((with_reducible refine w_mIsE (b := true) ?wa ?wz); (case wa => decide +kernel)))
local macro_rules | `(tactic| walk_at "s1") => `(tactic| ((with_reducible refine w_mTryF ?wa ?wz); (case wa => decide +kernel)))
local macro_rules | `(tactic| walk_at "s1") => `(tactic| ((with_reducible refine' w_mTry ?wa ?wv ?wz); (case wa => decide +kernel); (case wv => (first | (simp only [setSlot, List.set]; done) | (simp only [setSlot, List.set]; rfl) | rfl))))
local macro_rules | `(tactic| walk_at "s1") => `(tactic| (with_reducible refine t_gone ?_))
local macro_rules | `(tactic| walk_at "s1") => `(tactic| ((with_reducible refine' n_gone ?wa ?wz); (case wa => (first | (simp only [setSlot, List.set]; done) | (simp only [setSlot, List.set]; rfl) | rfl))))
local macro_rules | `(tactic| walk_at "s1") => `(tactic| ((with_reducible refine w_mTryGF ?wa ?wz); (case wa => decide +kernel)))
local macro_rules | `(tactic| walk_at "s1") => `(tactic| ((with_reducible refine' w_mTryG ?wa ?wv ?wz); (case wa => decide +kernel); (case wv => (first | (simp only [setSlot, List.set]; done) | (simp only [setSlot, List.set]; rfl) | rfl))))
local macro_rules | `(tactic| walk_at "s1") => `(tactic| ((with_reducible refine w_mRng ?wa ?wz); (case wa => decide)))
local macro_rules | `(tactic| walk_at "s1") => `(tactic| ((with_reducible refine' w_mIsiF ?wa ?wc ?wz); (case wa => rfl); (case wc => rfl)))
local macro_rules | `(tactic| walk_at "s1") => `(tactic| ((with_reducible refine' w_mIsiT ?wa ?wc ?wz); (case wa => rfl); (case wc => rfl)))
local macro_rules | `(tactic| walk_at "s1") => `(tactic| (with_reducible refine w_mNot ?_))
local macro_rules | `(tactic| walk_at "s1") => `(tactic| ((with_reducible refine w_mNotF ?wa ?wz); (case wa => rfl)))
local macro_rules | `(tactic| walk_at "s1") => `(tactic| ((with_reducible refine w_mNotT ?wa ?wz); (case wa => rfl)))
local macro_rules | `(tactic| walk_at "s1") => `(tactic| ((with_reducible refine' w_mPar ?wa ?wz); (case wa => (first | (simp only [setSlot, startD]; done) | (simp only [setSlot, startD]; rfl) | rfl))))
local macro_rules | `(tactic| walk_at "s1") => `(tactic| (with_reducible refine w_mIsB ?_))
local macro_rules | `(tactic| walk_at "s1") => `(tactic| (with_reducible refine w_mChain ?_))
local macro_rules | `(tactic| walk_at "s1") => `(tactic| (with_reducible refine w_mEnum ?_))
local macro_rules | `(tactic| walk_at "s1") => `(tactic| (with_reducible refine w_mZip ?_))
local macro_rules | `(tactic| walk_at "s1") => `(tactic| (with_reducible refine w_mTupI ?_))
local macro_rules | `(tactic| walk_at "s1") => `(tactic| (with_reducible refine w_mSeqF ?_))
local macro_rules | `(tactic| walk_at "s1") => `(tactic| (with_reducible refine w_mSeq ?_))
local macro_rules | `(tactic| walk_at "s1") => `(tactic| (with_reducible refine w_mSome ?_))
local macro_rules | `(tactic| walk_at "s1") => `(tactic| (with_reducible refine w_mOr ?_))
local macro_rules | `(tactic| walk_at "s1") => `(tactic| (with_reducible refine w_mAnd ?_))
local macro_rules | `(tactic| walk_at "s1") => `(tactic| (with_reducible refine w_mNeg ?_))
local macro_rules | `(tactic| walk_at "s1") => `(tactic| (with_reducible refine c_wx ?_))
local macro_rules | `(tactic| walk_at "s1") => `(tactic| (with_reducible refine c_lp ?_))
local macro_rules | `(tactic| walk_at "s1") => `(tactic| (with_reducible refine c_wn ?_))
local macro_rules | `(tactic| walk_at "s1") => `(tactic| (with_reducible refine b_wx ?_))
local macro_rules | `(tactic| walk_at "s1") => `(tactic| (with_reducible refine b_lp ?_))
local macro_rules | `(tactic| walk_at "s1") => `(tactic| (with_reducible refine b_wn ?_))
local macro_rules | `(tactic| walk_at "s1.SlG") => `(tactic| (with_reducible refine w_sl_t ?_))
local macro_rules | `(tactic| walk_at "s1.SlG") => `(tactic| (with_reducible refine w_sl_s ?_))
local macro_rules | `(tactic| walk_at "s1.SlG") => `(tactic| (with_reducible refine w_sl_f ?_))
local macro_rules | `(tactic| walk_at "s1.SlG") => `(tactic| (with_reducible refine w_sl_l ?_))
local macro_rules | `(tactic| walk_at "s1") => `(tactic| ((with_reducible refine SlG.out ?_); (walk_at "s1.SlG")))
local macro_rules | `(tactic| walk_at "s1.OgG") => `(tactic| (with_reducible refine w_osome ?_))
local macro_rules | `(tactic| walk_at "s1.OgG") => `(tactic| (with_reducible refine w_onone ?_))
local macro_rules | `(tactic| walk_at "s1") => `(tactic| ((with_reducible refine OgG.out ?_); (walk_at "s1.OgG")))
local macro_rules | `(tactic| walk_at "s1.ItG") => `(tactic| (with_reducible refine w_itup ?_))
local macro_rules | `(tactic| walk_at "s1.ItG") => `(tactic| (with_reducible refine w_ienum ?_))
local macro_rules | `(tactic| walk_at "s1.ItG") => `(tactic| (with_reducible refine w_izip ?_))
local macro_rules | `(tactic| walk_at "s1.ItG") => `(tactic| (with_reducible refine w_iseq ?_))
local macro_rules | `(tactic| walk_at "s1") => `(tactic| ((with_reducible refine' w_mCallZ ?wa ?wv ?wc ?wz); (case wa => rfl); (case wv => rfl); (case wc => (first | (simp only [pick, List.append_nil, List.cons_append, List.nil_append, List.filterMap_cons, List.filterMap_nil, List.getElem?_cons_zero, List.getElem?_cons_succ]; done) | (simp only [pick, List.append_nil, List.cons_append, List.nil_append, List.filterMap_cons, List.filterMap_nil, List.getElem?_cons_zero, List.getElem?_cons_succ]; rfl) | rfl))))
local macro_rules | `(tactic| walk_at "s1") => `(tactic| ((with_reducible refine' w_mCallAZ ?wa ?wv ?wc ?wz); (case wa => rfl); (case wv => rfl); (case wc => (first | (simp only [pick, List.append_nil, List.cons_append, List.nil_append, List.filterMap_cons, List.filterMap_nil, List.getElem?_cons_zero, List.getElem?_cons_succ]; done) | (simp only [pick, List.append_nil, List.cons_append, List.nil_append, List.filterMap_cons, List.filterMap_nil, List.getElem?_cons_zero, List.getElem?_cons_succ]; rfl) | rfl))))
local macro_rules | `(tactic| walk_at "s1") => `(tactic| ((with_reducible refine' w_mCallA ?wa ?wv ?wc ?wz); (case wa => rfl); (case wv => rfl); (case wc => (first | (simp only [pick, List.append_nil, List.cons_append, List.nil_append, List.filterMap_cons, List.filterMap_nil, List.getElem?_cons_zero, List.getElem?_cons_succ]; done) | (simp only [pick, List.append_nil, List.cons_append, List.nil_append, List.filterMap_cons, List.filterMap_nil, List.getElem?_cons_zero, List.getElem?_cons_succ]; rfl) | rfl))))
local macro_rules | `(tactic| walk_at "s1") => `(tactic| ((with_reducible refine w_iteF ?wa ?wz); (case wa => rfl)))
local macro_rules | `(tactic| walk_at "s1") => `(tactic| ((with_reducible refine w_iteT ?wa ?wz); (case wa => rfl)))
local macro_rules | `(tactic| walk_at "s1") => `(tactic| ((with_reducible refine w_sizeL ?wa ?wz); (case wa => exact Nat.le_of_ble_eq_true rfl)))
local macro_rules | `(tactic| walk_at "s1.CbG") => `(tactic| (with_reducible refine w_str_i ?_))
local macro_rules | `(tactic| walk_at "s1.CbG") => `(tactic| (with_reducible refine w_str_l ?_))
local macro_rules | `(tactic| walk_at "s1.CbG") => `(tactic| (with_reducible refine w_str_s ?_))
local macro_rules | `(tactic| walk_at "s1.CbG") => `(tactic| (with_reducible refine w_tuple_t ?_))
local macro_rules | `(tactic| walk_at "s1.CbG") => `(tactic| (with_reducible refine w_tuple_l ?_))
local macro_rules | `(tactic| walk_at "s1.CbG") => `(tactic| (with_reducible refine w_list_t ?_))
local macro_rules | `(tactic| walk_at "s1.CbG") => `(tactic| (with_reducible refine w_list_f ?_))
local macro_rules | `(tactic| walk_at "s1.CbG") => `(tactic| (with_reducible refine w_list_l ?_))
local macro_rules | `(tactic| walk_at "s1.CbG") => `(tactic| (with_reducible refine w_abs ?_))
local macro_rules | `(tactic| walk_at "s1.CbG") => `(tactic| (with_reducible refine w_int_i ?_))
local macro_rules | `(tactic| walk_at "s1.CbG") => `(tactic| (with_reducible refine w_min2 ?_))
local macro_rules | `(tactic| walk_at "s1.CbG") => `(tactic| (with_reducible refine w_max2 ?_))
local macro_rules | `(tactic| walk_at "s1.CbG") => `(tactic| (with_reducible refine w_len_s ?_))
local macro_rules | `(tactic| walk_at "s1.CbG") => `(tactic| (with_reducible refine w_len_t ?_))
local macro_rules | `(tactic| walk_at "s1.CbG") => `(tactic| (with_reducible refine w_len_f ?_))
local macro_rules | `(tactic| walk_at "s1.CbG") => `(tactic| (with_reducible refine w_repr ?_))
local macro_rules | `(tactic| walk_at "s1.CbG") => `(tactic| (with_reducible refine w_len_l ?_))
local macro_rules | `(tactic| walk_at "s1.TsG") => `(tactic| (with_reducible refine w_tru ?_))
local macro_rules | `(tactic| walk_at "s1.TsG") => `(tactic| (with_reducible refine w_yes ?_))
local macro_rules | `(tactic| walk_at "s1.TsG") => `(tactic| (with_reducible refine w_and ?_))
local macro_rules | `(tactic| walk_at "s1.TsG") => `(tactic| (with_reducible refine w_or ?_))
local macro_rules | `(tactic| walk_at "s1.TsG") => `(tactic| (with_reducible refine w_not ?_))
local macro_rules | `(tactic| walk_at "s1.StG") => `(tactic| (with_reducible refine w_cont ?_))
local macro_rules | `(tactic| walk_at "s1.StG") => `(tactic| (with_reducible refine w_break ?_))
local macro_rules | `(tactic| walk_at "s1.StG") => `(tactic| (with_reducible refine w_retN ?_))
local macro_rules | `(tactic| walk_at "s1.StG") => `(tactic| (with_reducible refine w_raiseI ?_))
local macro_rules | `(tactic| walk_at "s1.StG") => `(tactic| (with_reducible refine w_raise ?_))
local macro_rules | `(tactic| walk_at "s1.StG") => `(tactic| (with_reducible refine w_try ?_))
local macro_rules | `(tactic| walk_at "s1.StG") => `(tactic| (with_reducible refine w_tryG ?_))
local macro_rules | `(tactic| walk_at "s1.StG") => `(tactic| (with_reducible refine w_tryG0 ?_))
local macro_rules | `(tactic| walk_at "s1.StG") => `(tactic| (with_reducible refine w_try0 ?_))
local macro_rules | `(tactic| walk_at "s1.StG") => `(tactic| (with_reducible refine w_asgZ ?_))
local macro_rules | `(tactic| walk_at "s1.StG") => `(tactic| (with_reducible refine w_retZ ?_))
local macro_rules | `(tactic| walk_at "s1.StG") => `(tactic| (with_reducible refine w_exprZ ?_))
local macro_rules | `(tactic| walk_at "s1.StG") => `(tactic| (with_reducible refine w_par ?_))
local macro_rules | `(tactic| walk_at "s1.StG") => `(tactic| (with_reducible refine w_next ?_))
local macro_rules | `(tactic| walk_at "s1") => `(tactic| (with_reducible refine t_wx ?_))
local macro_rules | `(tactic| walk_at "s1") => `(tactic| (with_reducible refine x_wx ?_))
local macro_rules | `(tactic| walk_at "s1") => `(tactic| (with_reducible refine x_lp ?_))
local macro_rules | `(tactic| walk_at "s1") => `(tactic| (with_reducible refine x_wn ?_))
local macro_rules | `(tactic| walk_at "s1") => `(tactic| (with_reducible refine n_wx ?_))
local macro_rules | `(tactic| walk_at "s1") => `(tactic| (with_reducible refine t_lp ?_))
local macro_rules | `(tactic| walk_at "s1") => `(tactic| (with_reducible refine t_wn ?_))
local macro_rules | `(tactic| walk_at "s1.TgG") => `(tactic| ((with_reducible refine w_stup ?wa ?wz); (case wa => rfl)))
local macro_rules | `(tactic| walk_at "s1.OpG") => `(tactic| (with_reducible refine w_notIs ?_))
local macro_rules | `(tactic| walk_at "s1.OpG") => `(tactic| (with_reducible refine w_is ?_))
local macro_rules | `(tactic| walk_at "s1.OpG") => `(tactic| ((with_reducible refine' w_add_ol ?wa ?wz); (case wa => (first | assumption | exact look_new))))
local macro_rules | `(tactic| walk_at "s1.OpG") => `(tactic| (with_reducible refine w_notIn_t ?_))
local macro_rules | `(tactic| walk_at "s1.OpG") => `(tactic| (with_reducible refine w_notIn_l ?_))
local macro_rules | `(tactic| walk_at "s1.OpG") => `(tactic| (with_reducible refine w_in_t ?_))
local macro_rules | `(tactic| walk_at "s1.OpG") => `(tactic| (with_reducible refine w_in_l ?_))
local macro_rules | `(tactic| walk_at "s1.OpG") => `(tactic| (with_reducible refine w_ne_tt ?_))
local macro_rules | `(tactic| walk_at "s1.OpG") => `(tactic| (with_reducible refine w_ne_lc ?_))
local macro_rules | `(tactic| walk_at "s1.OpG") => `(tactic| (with_reducible refine w_eq_tt ?_))
local macro_rules | `(tactic| walk_at "s1.OpG") => `(tactic| (with_reducible refine w_eq_lc ?_))
local macro_rules | `(tactic| walk_at "s1.OpG") => `(tactic| (with_reducible refine w_mul_l ?_))
local macro_rules | `(tactic| walk_at "s1.OpG") => `(tactic| (with_reducible refine w_add_ss ?_))
local macro_rules | `(tactic| walk_at "s1.OpG") => `(tactic| (with_reducible refine w_ne_bb ?_))
local macro_rules | `(tactic| walk_at "s1.OpG") => `(tactic| (with_reducible refine w_eq_bb ?_))
local macro_rules | `(tactic| walk_at "s1.OpG") => `(tactic| (with_reducible refine w_ne_l0 ?_))
local macro_rules | `(tactic| walk_at "s1.OpG") => `(tactic| (with_reducible refine w_eq_l0 ?_))
local macro_rules | `(tactic| walk_at "s1.OpG") => `(tactic| (with_reducible refine w_add_ll ?_))
local macro_rules | `(tactic| walk_at "s1.OpG") => `(tactic| ((with_reducible refine' w_pow ?wa ?wc ?wz); (case wa => decide); (case wc => (first | exact t9 | exact t6 | exact t18 | exact t39 | exact t58 | exact t30))))
local macro_rules | `(tactic| walk_at "s1.OpG") => `(tactic| (with_reducible refine w_mod ?_))
local macro_rules | `(tactic| walk_at "s1.OpG") => `(tactic| (with_reducible refine w_div ?_))
local macro_rules | `(tactic| walk_at "s1.OpG") => `(tactic| (with_reducible refine w_ne_ss ?_))
local macro_rules | `(tactic| walk_at "s1.OpG") => `(tactic| (with_reducible refine w_eq_ss ?_))
local macro_rules | `(tactic| walk_at "s1.OpG") => `(tactic| (with_reducible refine w_ge ?_))
local macro_rules | `(tactic| walk_at "s1.OpG") => `(tactic| (with_reducible refine w_le ?_))
local macro_rules | `(tactic| walk_at "s1.OpG") => `(tactic| (with_reducible refine w_gt ?_))
local macro_rules | `(tactic| walk_at "s1.OpG") => `(tactic| (with_reducible refine w_lt ?_))
local macro_rules | `(tactic| walk_at "s1.OpG") => `(tactic| (with_reducible refine w_ne_ii ?_))
local macro_rules | `(tactic| walk_at "s1.OpG") => `(tactic| (with_reducible refine w_eq_ii ?_))
local macro_rules | `(tactic| walk_at "s1.OpG") => `(tactic| ((with_reducible refine' w_ix_l ?wa ?wz); (case wa => (first | exact w_at0 _ _ | exact w_at1 _ _ _ | exact w_at2 _ _ _ _ | exact w_at3 _ _ _ _ _))))
local macro_rules | `(tactic| walk_at "s1.OpG") => `(tactic| ((with_reducible refine' w_ix_t ?wa ?wz); (case wa => (first | exact w_at0 _ _ | exact w_at1 _ _ _ | exact w_at2 _ _ _ _ | exact w_at3 _ _ _ _ _))))
local macro_rules | `(tactic| walk_at "s1.ExG") => `(tactic| (with_reducible refine w_edic ?_))
local macro_rules | `(tactic| walk_at "s1.ExG") => `(tactic| (with_reducible refine w_neg ?_))
local macro_rules | `(tactic| walk_at "s1.ExG") => `(tactic| (with_reducible refine w_chain ?_))
local macro_rules | `(tactic| walk_at "s1.ExG") => `(tactic| (with_reducible refine w_fld ?_))
local macro_rules | `(tactic| walk_at "s1.ExG") => `(tactic| (with_reducible refine w_isE ?_))
local macro_rules | `(tactic| walk_at "s1.ExG") => `(tactic| (with_reducible refine w_callAZ ?_))
local macro_rules | `(tactic| walk_at "s1.ExG") => `(tactic| (with_reducible refine w_callA ?_))
local macro_rules | `(tactic| walk_at "s1.ExG") => `(tactic| (with_reducible refine w_callZ ?_))
local macro_rules | `(tactic| walk_at "s1.ExG") => `(tactic| (with_reducible refine w_sl ?_))
local macro_rules | `(tactic| walk_at "s1.ExG") => `(tactic| (with_reducible refine w_isi ?_))
local macro_rules | `(tactic| walk_at "s1.ExG") => `(tactic| (with_reducible refine w_if ?_))
local macro_rules | `(tactic| walk_at "s1.ExG") => `(tactic| (with_reducible refine w_notV ?_))
local macro_rules | `(tactic| walk_at "s1.ExG") => `(tactic| (with_reducible refine w_orV ?_))
local macro_rules | `(tactic| walk_at "s1.ExG") => `(tactic| (with_reducible refine w_andV ?_))
local macro_rules | `(tactic| walk_at "s1.OpG") => `(tactic| (with_reducible refine w_add_tt ?_))
local macro_rules | `(tactic| walk_at "s1") => `(tactic| (with_reducible refine t_gone ?_))
local macro_rules | `(tactic| walk_at "s1") => `(tactic| ((with_reducible refine' c_gone ?wa ?wz); (case wa => (first | (simp only [setSlot, List.set]; done) | (simp only [setSlot, List.set]; rfl) | rfl))))
local macro_rules | `(tactic| walk_at "s1") => `(tactic| ((with_reducible refine' b_gone ?wa ?wz); (case wa => (first | (simp only [setSlot, List.set]; done) | (simp only [setSlot, List.set]; rfl) | rfl))))
local macro_rules | `(tactic| walk_at "s1") => `(tactic| ((with_reducible refine' n_gone ?wa ?wz); (case wa => (first | (simp only [setSlot, List.set]; done) | (simp only [setSlot, List.set]; rfl) | rfl))))
local macro_rules | `(tactic| walk_at "s1.CbG") => `(tactic| (with_reducible refine w_listM_l ?_))
local macro_rules | `(tactic| walk_at "s1.CbG") => `(tactic| (with_reducible refine w_listM_t ?_))
local macro_rules | `(tactic| walk_at "s1.OpG") => `(tactic| (with_reducible refine w_addM ?_))
local macro_rules | `(tactic| walk_at "s1.StG") => `(tactic| ((with_reducible refine' w_frzS ?wa ?wb ?wc ?wd ?wz); (case wa => rfl); (case wb => (first | assumption | exact look_new)); (case wc => (first | (simp only [setSlot, startD]; done) | (simp only [setSlot, startD]; rfl) | rfl)); (case wd => (first | exact drp_new | rfl))))
local macro_rules | `(tactic| walk_at "s1.ExG") => `(tactic| ((with_reducible refine' w_loan ?wa ?wb ?wc ?wd ?wz); (case wa => rfl); (case wb => (first | assumption | exact look_new)); (case wc => (first | (simp only [setSlot, startD]; done) | (simp only [setSlot, startD]; rfl) | rfl)); (case wd => (first | exact drp_new | rfl))))
local macro_rules | `(tactic| walk_at "s1.ExG") => `(tactic| (with_reducible refine w_lcM ?_))
local macro_rules | `(tactic| walk_at "s1") => `(tactic| (with_reducible refine w_mCnt ?_))
local macro_rules | `(tactic| walk_at "s1") => `(tactic| ((with_reducible refine w_lenq ?wa ?wz); (case wa => rfl)))
local macro_rules | `(tactic| walk_at "s1.ExG") => `(tactic| (with_reducible refine w_count ?_))
local macro_rules | `(tactic| walk_at "s1.ExG") => `(tactic| (with_reducible refine w_mkI ?_))
local macro_rules | `(tactic| walk_at "s1.ExG") => `(tactic| (with_reducible refine w_mk0 ?_))
local macro_rules | `(tactic| walk_at "s1.CbG") => `(tactic| (with_reducible refine w_divmod ?_))
local macro_rules | `(tactic| walk_at "s1.OpG") => `(tactic| (with_reducible refine w_notInSign ?_))
local macro_rules | `(tactic| walk_at "s1.OpG") => `(tactic| (with_reducible refine w_inSign ?_))
local macro_rules | `(tactic| walk_at "s1") => `(tactic| (with_reducible refine w_mMaxD ?_))
local macro_rules | `(tactic| walk_at "s1") => `(tactic| (with_reducible refine w_mJs ?_))
local macro_rules | `(tactic| walk_at "s1") => `(tactic| (with_reducible refine w_jsC ?_))
local macro_rules | `(tactic| walk_at "s1") => `(tactic| (with_reducible refine w_jsN ?_))
local macro_rules | `(tactic| walk_at "s1") => `(tactic| (with_reducible refine w_mFmtI ?_))
local macro_rules | `(tactic| walk_at "s1") => `(tactic| (with_reducible refine w_mFmtS ?_))
local macro_rules | `(tactic| walk_at "s1") => `(tactic| (with_reducible refine w_mJr ?_))
local macro_rules | `(tactic| walk_at "s1") => `(tactic| (with_reducible refine w_remSuf ?_))
local macro_rules | `(tactic| walk_at "s1") => `(tactic| (with_reducible refine w_zfill ?_))
local macro_rules | `(tactic| walk_at "s1") => `(tactic| (with_reducible refine w_split ?_))
local macro_rules | `(tactic| walk_at "s1") => `(tactic| (with_reducible refine w_ends ?_))
local macro_rules | `(tactic| walk_at "s1") => `(tactic| (with_reducible refine w_starts ?_))
local macro_rules | `(tactic| walk_at "s1") => `(tactic| (with_reducible refine w_part ?_))
local macro_rules | `(tactic| walk_at "s1") => `(tactic| (with_reducible refine w_mM1 ?_))
local macro_rules | `(tactic| walk_at "s1.ExG") => `(tactic| (with_reducible refine w_maxDef ?_))
local macro_rules | `(tactic| walk_at "s1.ExG") => `(tactic| (with_reducible refine w_joined ?_))
local macro_rules | `(tactic| walk_at "s1.ExG") => `(tactic| (with_reducible refine w_fmt ?_))
local macro_rules | `(tactic| walk_at "s1.ExG") => `(tactic| (with_reducible refine w_joinRev ?_))
local macro_rules | `(tactic| walk_at "s1.ExG") => `(tactic| (with_reducible refine w_m1 ?_))
local macro_rules | `(tactic| walk_at "s1.OpG") => `(tactic| ((with_reducible refine' w_pow ?wa ?wc ?wz); (case wa => decide); (case wc => (first | exact t56 | exact t60 | exact t40 | exact t50 | exact t59))))
local macro_rules | `(tactic| walk_at "s1") => `(tactic| (with_reducible refine r_append ?_))
local macro_rules | `(tactic| walk_at "s1") => `(tactic| (with_reducible refine r_frz ?_))
local macro_rules | `(tactic| walk_at "s1") => `(tactic| (with_reducible refine r_joined ?_))
local macro_rules | `(tactic| walk_at "s1") => `(tactic| (with_reducible refine r_m1 ?_))
local macro_rules | `(tactic| walk_at "s1") => `(tactic| (with_reducible refine r_lcM ?_))
local macro_rules | `(tactic| walk_at "s1") => `(tactic| (with_reducible refine r_setIx ?_))
local macro_rules | `(tactic| walk_at "s1") => `(tactic| (with_reducible refine r_frzS ?_))
local macro_rules | `(tactic| walk_at "s1") => `(tactic| (with_reducible refine w_mStrI ?_))
local macro_rules | `(tactic| walk_at "s1.ItG") => `(tactic| (with_reducible refine w_irng3 ?_))
local macro_rules | `(tactic| walk_at "s1.ItG") => `(tactic| (with_reducible refine w_istr ?_))
local macro_rules | `(tactic| walk_at "s1") => `(tactic| (with_reducible refine w_truI ?_))
local macro_rules | `(tactic| walk_at "s1") => `(tactic| (with_reducible refine w_truL ?_))
local macro_rules | `(tactic| walk_at "s1") => `(tactic| (with_reducible refine w_truB ?_))
local macro_rules | `(tactic| walk_at "s1.TgG") => `(tactic| ((with_reducible refine w_slst ?wa ?wz); (case wa => rfl)))
local macro_rules | `(tactic| walk_at "s1") => `(tactic| (with_reducible refine w_mTest ?_))
local macro_rules | `(tactic| walk_at "s1.TsG") => `(tactic| (with_reducible refine w_test ?_))
local macro_rules | `(tactic| walk_at "s1.StG") => `(tactic| (with_reducible refine w_ifS ?_))
local macro_rules | `(tactic| walk_at "s1.CbG") => `(tactic| (with_reducible refine w_int_b ?_))
local macro_rules | `(tactic| walk_at "s1.ExG") => `(tactic| (with_reducible refine w_lc (fun _ => rfl) ?_))
local macro_rules | `(tactic| walk_at "s1") => `(tactic| ((with_reducible refine TgsG.out ?_); (walk_at "s1.TgsG")))
local macro_rules | `(tactic| walk_at "s1") => `(tactic| ((with_reducible refine ItG.out ?_); (walk_at "s1.ItG")))
local macro_rules | `(tactic| walk_at "s1") => `(tactic| ((with_reducible refine TsG.out ?_); (walk_at "s1.TsG")))
local macro_rules | `(tactic| walk_at "s1") => `(tactic| ((with_reducible refine CbG.out ?_); (walk_at "s1.CbG")))
local macro_rules | `(tactic| walk_at "s1") => `(tactic| (with_reducible refine n_lp ?_))
local macro_rules | `(tactic| walk_at "s1.ExG") => `(tactic| (with_reducible refine w_cb ?_))
local macro_rules | `(tactic| walk_at "s1.StG") => `(tactic| (with_reducible refine w_for ?_))
local macro_rules | `(tactic| walk_at "s1.ExG") => `(tactic| (with_reducible refine w_lstM ?_))
local macro_rules | `(tactic| walk_at "s1") => `(tactic| ((with_reducible refine' w_mFrz ?wa ?wv ?wz); (case wa => (first | assumption | exact look_new)); (case wv => (first | exact drp_new | rfl))))
local macro_rules | `(tactic| walk_at "s1.StG") => `(tactic| (with_reducible refine w_ret ?_))
local macro_rules | `(tactic| walk_at "s1.StG") => `(tactic| (with_reducible refine w_setIx ?_))
local macro_rules | `(tactic| walk_at "s1.TgsG") => `(tactic| (with_reducible refine w_snil ?_))
local macro_rules | `(tactic| walk_at "s1.ExG") => `(tactic| (with_reducible refine w_frz ?_))
local macro_rules | `(tactic| walk_at "s1.ExG") => `(tactic| (with_reducible refine w_append ?_))
local macro_rules | `(tactic| walk_at "s1.StG") => `(tactic| (with_reducible refine w_drop ?_))
local macro_rules | `(tactic| walk_at "s1.ItG") => `(tactic| (with_reducible refine w_irng1 ?_))
local macro_rules | `(tactic| walk_at "s1.OpG") => `(tactic| (with_reducible refine w_mul ?_))
local macro_rules | `(tactic| walk_at "s1.ExG") => `(tactic| (with_reducible refine w_tup ?_))
local macro_rules | `(tactic| walk_at "s1.ExG") => `(tactic| (with_reducible refine w_lst ?_))
local macro_rules | `(tactic| walk_at "s1.OpG") => `(tactic| (with_reducible refine w_sub ?_))
local macro_rules | `(tactic| walk_at "s1.OpG") => `(tactic| (with_reducible refine w_add_ii ?_))
local macro_rules | `(tactic| walk_at "s1.TgsG") => `(tactic| (with_reducible refine w_scons ?_))
local macro_rules | `(tactic| walk_at "s1.ExG") => `(tactic| (with_reducible refine w_call ?_))
local macro_rules | `(tactic| walk_at "s1") => `(tactic| ((with_reducible refine' w_mCall ?wa ?wv ?wc ?wz); (case wa => rfl); (case wv => rfl); (case wc => (first | (simp only [pick, List.append_nil, List.cons_append, List.nil_append, List.filterMap_cons, List.filterMap_nil, List.getElem?_cons_zero, List.getElem?_cons_succ]; done) | (simp only [pick, List.append_nil, List.cons_append, List.nil_append, List.filterMap_cons, List.filterMap_nil, List.getElem?_cons_zero, List.getElem?_cons_succ]; rfl) | rfl))))
local macro_rules | `(tactic| walk_at "s1") => `(tactic| ((with_reducible refine w_size ?wa ?wz); (case wa => exact Nat.le_of_ble_eq_true rfl)))
local macro_rules | `(tactic| walk_at "s1.StG") => `(tactic| (with_reducible refine w_asg ?_))
local macro_rules | `(tactic| walk_at "s1") => `(tactic| (with_reducible refine n_wn ?_))
local macro_rules | `(tactic| walk_at "s1.StG") => `(tactic| (with_reducible refine w_seq ?_))
local macro_rules | `(tactic| walk_at "s1.TgG") => `(tactic| ((with_reducible refine' w_name ?wa ?wz); (case wa => (first | (simp only [setSlot, startD]; done) | (simp only [setSlot, startD]; rfl) | rfl))))
local macro_rules | `(tactic| walk_at "s1.ExG") => `(tactic| (with_reducible refine w_op ?_))
local macro_rules | `(tactic| walk_at "s1.ExG") => `(tactic| (with_reducible refine w_c ?_))
local macro_rules | `(tactic| walk_at "s1.ArG") => `(tactic| (with_reducible refine w_anil ?_))
local macro_rules | `(tactic| walk_at "s1.ArG") => `(tactic| (with_reducible refine w_acons ?_))
local macro_rules | `(tactic| walk_at "s1.ExG") => `(tactic| ((with_reducible refine' w_var ?wa ?wz); (case wa => rfl)))
local macro_rules | `(tactic| walk_at "s1") => `(tactic| ((with_reducible refine StG.out ?_); (walk_at "s1.StG")))
local macro_rules | `(tactic| walk_at "s1") => `(tactic| ((with_reducible refine TgG.out ?_); (walk_at "s1.TgG")))
local macro_rules | `(tactic| walk_at "s1") => `(tactic| ((with_reducible refine OpG.out ?_); (walk_at "s1.OpG")))
local macro_rules | `(tactic| walk_at "s1") => `(tactic| ((with_reducible refine ArG.out ?_); (walk_at "s1.ArG")))
local macro_rules | `(tactic| walk_at "s1") => `(tactic| ((with_reducible refine ExG.out ?_); (walk_at "s1.ExG")))
local macro_rules | `(tactic| walk_at "st") => `(tactic| repeat (walk_at "s1"))
theorem loop_inv {g : DG} {tb : DTS} {E : EN} (I : DS → MS → Prop) : ∀ (xs : List D) (ds : DS) (ms : MS), I ds ms →
    (∀ x ∈ xs, ∀ ds ms, I ds ms → ∀ N : DS → MS → Prop, (∀ ds' ms', I ds' ms' → N ds' ms') → g x ds fun ds1 => tb (EN.lp E N) ds1 ms) →
    (∀ ds ms, I ds ms → E.nx ds ms) → loopD g tb E xs ds ms
  | [], ds, ms, h, _, q => q ds ms h
  | x :: r, ds, ms, h, t, q => t x List.mem_cons_self ds ms h _ fun ds' ms' h' => loop_inv I r ds' ms' h' (fun y hy => t y (List.mem_cons_of_mem _ hy)) q
theorem cut_to {α : Type} (xs : List α) (n : Nat) (h : n ≤ xs.length) : cutL xs none (some (n : Int)) = xs.take n := by
  unfold cutL
  rw [show HT.sIx xs.length xs.length (some (n : Int)) = min n xs.length from HT.sIx_nat _ _ n, HT.sIx_none, Nat.min_eq_left h]
  rfl
/-- a fraction so large -/
structure FB (n m : Nat) (t : Int × Int) : Prop where
  top : Bd n t.1
  bot : Bd m t.2
  pos : 0 < t.2
  nil : t.1 = 0 → t.2 = 1
theorem FB.mono {n m n' m' : Nat} {t : Int × Int} (h : FB n m t) (h1 : n ≤ n') (h2 : m ≤ m') : FB n' m' t := ⟨h.top.mono h1, h.bot.mono h2, h.pos, h.nil⟩
theorem FB.ne {n m : Nat} {t : Int × Int} (h : FB n m t) : t.2 ≠ 0 := by have := h.pos; omega
structure Low (p : Int × Int) : Prop where
  pos : 0 < p.2
  cop : Int.gcd p.1 p.2 = 1
theorem Low.ne {p : Int × Int} (h : Low p) : p.2 ≠ 0 := by have := h.pos; omega
inductive Any (c : Bool) (n L : Nat) : Nat → D → Prop
  | non {k : Nat} : Any c n L k .non
  | bl {k : Nat} (b : Bool) : Any c n L k (.bl b)
  | int {k : Nat} {i : Int} : Bd n i → Any c n L k (.int i)
  | str {k : Nat} {x : Str} : x.length ≤ L → x.cps.all (· < 0x110000) = true → Any c n L k (.str x)
  | edic {k : Nat} : c = true → Any c n L k .edic
  | lst {k : Nat} {xs : List D} : xs.length ≤ L → (∀ x ∈ xs, Any c n L k x) → Any c n L (k + 1) (.lst xs)
  | tup {k : Nat} {xs : List D} : xs.length ≤ L → (∀ x ∈ xs, Any c n L k x) → Any c n L (k + 1) (.tup xs)
theorem Any.mono {c c' : Bool} {n n' L L' k : Nat} {d : D} (h : Any c n L k d) (hc : c = true → c' = true) (hn : n ≤ n') (hL : L ≤ L') : ∀ {k' : Nat}, k ≤ k' → Any c' n' L' k' d := by
  induction h with
  | non => intro k' _; exact .non
  | bl b => intro k' _; exact .bl b
  | int h => intro k' _; exact .int (h.mono hn)
  | str h1 h2 => intro k' _; exact .str (by omega) h2
  | edic h => intro k' _; exact .edic (hc h)
  | lst h1 h2 ih =>
    intro k' hk
    obtain ⟨j, rfl⟩ : ∃ j, k' = j + 1 := ⟨k' - 1, by omega⟩
    exact .lst (by omega) fun x hx => ih x hx (by omega)
  | tup h1 h2 ih =>
    intro k' hk
    obtain ⟨j, rfl⟩ : ∃ j, k' = j + 1 := ⟨k' - 1, by omega⟩
    exact .tup (by omega) fun x hx => ih x hx (by omega)
theorem Any.up {c : Bool} {n L k k' : Nat} {d : D} (h : Any c n L k d) (hk : k ≤ k') : Any c n L k' d := h.mono id (Nat.le_refl _) (Nat.le_refl _) hk
theorem Any.ty {c : Bool} {n L k : Nat} {d : D} (h : Any c n L k d) : ∃ a, tyD d = some a := by cases h <;> exact ⟨_, rfl⟩
theorem any_pys {c : Bool} {n L k : Nat} : ∀ xs : List D, (∀ x ∈ xs, c = false → ∃ p, toPy x = some p ∧ p.canLay0 = true ∧ p.depth ≤ k) → c = false → ∃ ps, toPys xs = some ps ∧ PyData.canLayAll0 ps = true ∧ PyData.depthAll ps ≤ k
  | [], _, _ => ⟨[], rfl, rfl, Nat.zero_le _⟩
  | x :: r, h, hc => by
    obtain ⟨p, a, b, e⟩ := h x List.mem_cons_self hc
    obtain ⟨ps, a2, b2, e2⟩ := any_pys (n := n) (L := L) r (fun y hy => h y (List.mem_cons_of_mem _ hy)) hc
    exact ⟨p :: ps, by unfold toPys; rw [a, a2], Bool.and_eq_true_iff.mpr ⟨b, b2⟩, Nat.max_le.mpr ⟨e, e2⟩⟩
theorem Any.py {c : Bool} {n L k : Nat} {d : D} (h : Any c n L k d) : c = false → ∃ p, toPy d = some p ∧ p.canLay0 = true ∧ p.depth ≤ k := by
  induction h with
  | non => exact fun _ => ⟨_, rfl, rfl, Nat.zero_le _⟩
  | bl b => exact fun _ => ⟨_, rfl, rfl, Nat.zero_le _⟩
  | int h => exact fun _ => ⟨_, rfl, rfl, Nat.zero_le _⟩
  | str h1 h2 => exact fun _ => ⟨_, rfl, h2, Nat.zero_le _⟩
  | edic h => exact fun hc => by rw [hc] at h; cases h
  | lst h1 h2 ih =>
    intro hc
    obtain ⟨ps, a, b, e⟩ := any_pys (n := n) (L := L) _ ih hc
    exact ⟨.list ps, by unfold toPy; rw [a]; rfl, b, Nat.succ_le_succ e⟩
  | tup h1 h2 ih =>
    intro hc
    obtain ⟨ps, a, b, e⟩ := any_pys (n := n) (L := L) _ ih hc
    exact ⟨.tuple ps, by unfold toPy; rw [a]; rfl, b, Nat.succ_le_succ e⟩
theorem Any.sh {n L k : Nat} {d : D} (h : Any false n L k d) (hk : k ≤ 60) : ShD d := by
  obtain ⟨p, a, b, e⟩ := h.py rfl
  refine ⟨p, a, ?_⟩
  unfold SeqAt.shaped
  rw [b, decide_eq_true (by omega : p.depth ≤ 64)]; rfl
/-- any data: ints below 2 ^ n -/
structure AnyX (n : Nat) (d : D) : Prop where
  ex : ∃ k, Any true n 1000 k d
theorem AnyX.ty {n : Nat} {d : D} (h : AnyX n d) : ∃ a, tyD d = some a := h.ex.elim fun _ h => h.ty
theorem AnyX.mono {n n' : Nat} {d : D} (h : AnyX n d) (hn : n ≤ n') : AnyX n' d := h.ex.elim fun k h => ⟨k, h.mono id hn (Nat.le_refl _) (Nat.le_refl _)⟩
theorem AnyX.lst {n : Nat} {xs : List D} (h : AnyX n (.lst xs)) : xs.length ≤ 1000 ∧ ∀ x ∈ xs, AnyX n x := h.ex.elim fun k h => by
  cases h with
  | lst h1 h2 => exact ⟨h1, fun x hx => ⟨_, h2 x hx⟩⟩
theorem AnyX.tup {n : Nat} {xs : List D} (h : AnyX n (.tup xs)) : xs.length ≤ 1000 ∧ ∀ x ∈ xs, AnyX n x := h.ex.elim fun k h => by
  cases h with
  | tup h1 h2 => exact ⟨h1, fun x hx => ⟨_, h2 x hx⟩⟩
theorem AnyX.int {n : Nat} {i : Int} (h : AnyX n (.int i)) : Bd n i := h.ex.elim fun k h => by
  cases h with
  | int h => exact h
local macro_rules | `(tactic| walk_at "s1") => `(tactic| (with_reducible refine w_mRevL ?_))
local macro_rules | `(tactic| walk_at "s1.ExG") => `(tactic| (with_reducible refine w_revL ?_))
/-- a wish: least or just -/
def wdD (j : Bool) : D := .str (if j then "just" else "least")
/-- wishes, as they are drawn -/
structure Wi where
  j : Bool
  l : Int
  fs : List Int
def wiD (w : Wi) : D := .tup [wdD w.j, .lst (.int w.l :: w.fs.map D.int)]
def Wi.ls (w : Wi) : List Int := w.l :: w.fs
theorem wiD_ls (w : Wi) : wiD w = .tup [wdD w.j, .lst (w.ls.map D.int)] := rfl
structure Rw where
  s : Int
  t : Int
  ws : List Wi
def rwD (r : Rw) : D := .tup [.int r.s, .int r.t, .lst (r.ws.map wiD)]
structure Pg where
  nm : List Str
  pm : List Str
  rs : List Rw
def pgD (g : Pg) : D := .tup [.lst (g.nm.map D.str), .lst (g.pm.map D.str), .lst (g.rs.map rwD)]
/-- a name: one to six small letters -/
def goodNm (x : Str) : Bool := decide (1 ≤ x.length) && decide (x.length ≤ 6) && x.cps.toList.all fun c => decide (97 ≤ c) && decide (c < 123)
structure NmOk (most : Nat) (xs : List Str) : Prop where
  l1 : 1 ≤ xs.length
  l2 : xs.length ≤ most
  nd : xs.Nodup
  ok : ∀ x ∈ xs, goodNm x = true
structure WiOk (B n : Nat) (w : Wi) : Prop where
  bd : ∀ x ∈ w.ls, Bd B x
  ln : w.fs.length = n
structure RwOk (B sz pl : Nat) (r : Rw) : Prop where
  s0 : 0 ≤ r.s
  s1 : r.s < pl
  t0 : 0 ≤ r.t
  t1 : r.t < pl
  wl : r.ws.length ≤ 12
  wo : ∀ w ∈ r.ws, WiOk B (2 * sz) w
structure PgOk (B : Nat) (g : Pg) : Prop where
  nm : NmOk 3 g.nm
  pm : NmOk 6 g.pm
  rl : g.rs.length ≤ 10
  ro : ∀ r ∈ g.rs, RwOk B g.nm.length g.pm.length r
theorem WiOk.mono {B B' n : Nat} {w : Wi} (h : WiOk B n w) (hb : B ≤ B') : WiOk B' n w := ⟨fun x hx => (h.bd x hx).mono hb, h.ln⟩
/-- the number of one of so many -/
def isAt (n : Int) (d : D) : Bool := match d with
  | .int i => decide (0 ≤ i) && decide (i < n)
  | _ => false
theorem nm_ok {x : Str} (h : goodNm x = true) : x.cps.all (· < 0x110000) = true := by
  unfold goodNm at h
  rw [Bool.and_eq_true_iff, Bool.and_eq_true_iff] at h
  obtain ⟨⟨h1, h2⟩, h3⟩ := h
  rw [Array.all_eq_true']
  intro c hc
  have h4 := List.all_eq_true.mp h3 c (Array.mem_toList_iff.mpr hc)
  rw [Bool.and_eq_true_iff] at h4
  have h5 := of_decide_eq_true h4.2
  exact decide_eq_true (by omega)
theorem enum_mem {α : Type} {f : α → D} {xs : List α} {d : D} (h : d ∈ enumD (xs.map f)) : ∃ (k : Nat) (hk : k < xs.length), d = .tup [.int (k : Int), f xs[k]] := by
  unfold enumD at h
  obtain ⟨k, hk, e⟩ := List.mem_iff_getElem.mp h
  rw [List.length_zipWith, rng_len, List.length_map] at hk
  have hk' : k < xs.length := by omega
  refine ⟨k, hk', ?_⟩
  rw [List.getElem_zipWith] at e
  rw [← e]
  unfold rng
  simp
theorem size_ok {n : Nat} (h : n ≤ 1000) : n ≤ sizeLine := Nat.le_trans h (by decide)
theorem all_true {α : Type} (f : α → D) (hf : ∀ x, f x = .bl true) : ∀ xs : List α, ∃ bs, blsOf (xs.map f) = some bs ∧ bs.all id = true
  | [] => ⟨[], rfl, rfl⟩
  | x :: r => by
    obtain ⟨bs, e, h⟩ := all_true f hf r
    exact ⟨true :: bs, by rw [List.map_cons, hf x]; unfold blsOf; rw [e]; rfl, h⟩
structure Gds (xs : List D) (n k : Nat) : Prop where
  pl : plains xs = true
  ex : ∃ ps, toPys xs = some ps ∧ lay1s ps = true ∧ PyData.showableAll ps = true ∧ wts ps ≤ n ∧ PyData.depthAll ps ≤ k
theorem gds_nil {k : Nat} : Gds [] 0 k := ⟨rfl, [], rfl, rfl, rfl, Nat.zero_le _, Nat.zero_le _⟩
theorem gds_cons {x : D} {r : List D} {n m k : Nat} (h : Gd x n k) (t : Gds r m k) : Gds (x :: r) (n + 2 + m) k := by
  obtain ⟨p, a, b, c, e, f⟩ := h.sd.ex
  obtain ⟨pt, ps, a2, b2, c2, e2, f2⟩ := t
  refine ⟨Bool.and_eq_true_iff.mpr ⟨h.pl, pt⟩, p :: ps, by unfold toPys; rw [a, a2], Bool.and_eq_true_iff.mpr ⟨b, b2⟩, Bool.and_eq_true_iff.mpr ⟨c, c2⟩, ?_, Nat.max_le.mpr ⟨f, f2⟩⟩
  show wt p + 2 + wts ps ≤ n + 2 + m
  omega
theorem gd_tupS {xs : List D} {n k : Nat} (h : Gds xs n k) : Gd (.tup xs) (n + 10) (k + 1) := by
  obtain ⟨pt, ps, a, b, c, e, f⟩ := h
  refine ⟨pt, .tuple ps, by unfold toPy; rw [a]; rfl, b, c, ?_, Nat.succ_le_succ f⟩
  show wts ps + 10 ≤ _
  omega
theorem gd_nm {x : Str} (h : goodNm x = true) : Gd (.str x) 70 0 := by
  have h0 := nm_ok h
  unfold goodNm at h
  rw [Bool.and_eq_true_iff, Bool.and_eq_true_iff] at h
  have h2 := of_decide_eq_true h.1.2
  exact (gd_str x h0).mono (by omega) (by decide)
theorem gd_ints {n : Nat} {is : List Int} (h : ∀ i ∈ is, Bd n i) (hn : n ≤ 1900 := by decide) : ∀ x ∈ is.map D.int, Gd x 2000 0 := fun x hx => by
  obtain ⟨i, hi, rfl⟩ := List.mem_map.mp hx
  exact gd_int (h i hi) hn
theorem gd_line {n m : Nat} {is : List Int} (h : ∀ i ∈ is, Bd n i) (hl : is.length ≤ m) (hn : n ≤ 1900 := by decide) : Gd (.lst (is.map D.int)) (2002 * m + 10) 1 :=
  (gd_lst (gd_ints h hn)).mono (by rw [List.length_map]; exact Nat.add_le_add_right (Nat.mul_le_mul_left _ hl) _) (by decide)
theorem gd_wi {B n : Nat} {w : Wi} (h : WiOk B n w) (hn : n ≤ 6) (hB : B ≤ 1900 := by decide) : Gd (wiD w) 14200 2 := by
  have g1 := gd_line (m := 7) h.bd (by have := h.ln; show w.fs.length + 1 ≤ 7; omega) hB
  have g2 : Gd (wdD w.j) 60 0 := by
    unfold wdD
    cases w.j
    · exact (gd_lit "least").mono (by decide +kernel) (by decide)
    · exact (gd_lit "just").mono (by decide +kernel) (by decide)
  rw [wiD_ls]
  exact (gd_tupS (gds_cons (g2.mono (Nat.le_refl _) (by decide)) (gds_cons g1 gds_nil))).mono (by decide) (by decide)
theorem gd_rw {B sz pl : Nat} {r : Rw} (h : RwOk B sz pl r) (hsz : sz ≤ 3) (hpl : pl ≤ 6) (hB : B ≤ 1900 := by decide) : Gd (rwD r) 175000 4 := by
  have g1 : Gd (.lst (r.ws.map wiD)) 170434 3 := by
    refine (gd_lst (n := 14200) (k := 2) fun x hx => ?_).mono ?_ (by decide)
    · obtain ⟨w, hw, rfl⟩ := List.mem_map.mp hx
      exact gd_wi (h.wo w hw) (by omega) hB
    · have := h.wl
      rw [List.length_map]; omega
  have g2 : ∀ i : Int, 0 ≤ i → i < pl → Gd (.int i) 2000 3 := fun i h0 h1 => (gd_int (n := 3) (by unfold Bd; omega)).mono (by decide) (by decide)
  exact (gd_tupS (gds_cons (g2 _ h.s0 h.s1) (gds_cons (g2 _ h.t0 h.t1) (gds_cons g1 gds_nil)))).mono (by decide) (by decide)
theorem gd_nms {most : Nat} {xs : List Str} (h : NmOk most xs) (hm : most ≤ 6) : Gd (.lst (xs.map D.str)) 442 1 := by
  refine (gd_lst (n := 70) (k := 0) fun x hx => ?_).mono ?_ (by decide)
  · obtain ⟨s, hs, rfl⟩ := List.mem_map.mp hx
    exact gd_nm (h.ok s hs)
  · have := h.l2
    rw [List.length_map]; omega
theorem gd_pg {B : Nat} {g : Pg} (h : PgOk B g) (hB : B ≤ 1900 := by decide) : Gd (pgD g) 1800000 6 := by
  have g1 : Gd (.lst (g.rs.map rwD)) 1750030 5 := by
    refine (gd_lst (n := 175000) (k := 4) fun x hx => ?_).mono ?_ (by decide)
    · obtain ⟨r, hr, rfl⟩ := List.mem_map.mp hx
      exact gd_rw (h.ro r hr) h.nm.l2 h.pm.l2 hB
    · have := h.rl
      rw [List.length_map]; omega
  exact (gd_tupS (gds_cons ((gd_nms h.nm (by decide)).mono (Nat.le_refl _) (by decide)) (gds_cons ((gd_nms h.pm (by decide)).mono (Nat.le_refl _) (by decide)) (gds_cons g1 gds_nil)))).mono (by decide) (by decide)
def mStarA (da : DA) (ds : DS) (d : D) (m : MS) (P : List D → MS → Prop) : Prop := match asT d m with
  | some xs => da ds m fun ys m2 => P (xs ++ ys) m2
  | none => False
theorem w_aStar {de : DE} {da : DA} {ds : DS} {ms : MS} {P : List D → MS → Prop} (h : ExG de ds ms fun d m => mStarA da ds d m P) : ArG (aStar de da) ds ms P := h
theorem w_mStarA {da : DA} {ds : DS} {m : MS} {xs : List D} {P : List D → MS → Prop} (h : ArG da ds m fun ys m2 => P (xs ++ ys) m2) : mStarA da ds (.lst xs) m P := h
local macro_rules | `(tactic| walk_at "s1") => `(tactic| (with_reducible refine w_mStarA ?_))
local macro_rules | `(tactic| walk_at "s1") => `(tactic| (with_reducible refine w_aStar ?_))
local macro_rules | `(tactic| walk_at "s1") => `(tactic| ((with_reducible refine' w_mClear ?wa ?wb ?wz); (case wa => (first | assumption | exact look_new)); (case wb => (first | exact put_new | rfl))))
local macro_rules | `(tactic| walk_at "s1") => `(tactic| ((with_reducible refine' w_mPickA ?wa ?wb ?wz); (case wa => rfl); (case wb => rfl)))
local macro_rules | `(tactic| walk_at "s1") => `(tactic| (with_reducible refine w_mPickZ1 ?_))
local macro_rules | `(tactic| walk_at "s1") => `(tactic| (with_reducible refine w_mPickZ0 ?_))
local macro_rules | `(tactic| walk_at "s1.ExG") => `(tactic| (with_reducible refine w_listR ?_))
local macro_rules | `(tactic| walk_at "s1.ExG") => `(tactic| (with_reducible refine w_clear ?_))
local macro_rules | `(tactic| walk_at "s1.ExG") => `(tactic| (with_reducible refine w_pickZ ?_))
local macro_rules | `(tactic| walk_at "s1") => `(tactic| (with_reducible refine w_mIndex ?_))
local macro_rules | `(tactic| walk_at "s1.ExG") => `(tactic| (with_reducible refine w_sortSet ?_))
local macro_rules | `(tactic| walk_at "s1.ExG") => `(tactic| (with_reducible refine w_index ?_))
local macro_rules | `(tactic| walk_at "s1.StG") => `(tactic| (with_reducible refine w_tryO ?_))
local macro_rules | `(tactic| walk_at "s1.StG") => `(tactic| (with_reducible refine w_tryO0 ?_))
local macro_rules | `(tactic| walk_at "s1.StG") => `(tactic| (with_reducible refine w_augF' ?_))
local macro_rules | `(tactic| walk_at "s1.StG") => `(tactic| (with_reducible refine w_setF' ?_))
local macro_rules | `(tactic| walk_at "s1.ExG") => `(tactic| (with_reducible refine w_make ?_))
local macro_rules | `(tactic| walk_at "s1.ExG") => `(tactic| (with_reducible refine w_methZ ?_))
local macro_rules | `(tactic| walk_at "s1.ExG") => `(tactic| (with_reducible refine w_meth ?_))
local macro_rules | `(tactic| walk_at "s1.ExG") => `(tactic| (with_reducible refine w_getF' ?_))
local macro_rules | `(tactic| walk_at "s1") => `(tactic| ((with_reducible refine' w_mGetF ?wa ?wb ?wz); (case wa => (first | exact lookU_new0 | assumption)); (case wb => (first | rfl | decide +kernel))))
local macro_rules | `(tactic| walk_at "s1") => `(tactic| ((with_reducible refine' w_mSetF ?wa ?wb ?wc ?wd ?we ?wf ?wz); (case wa => (first | exact lookU_new0 | assumption)); (case wb => decide); (case wc => rfl); (case wd => (simp (decide := true) only [putN, if_true, if_false]; rfl)); (case we => (simp (decide := true) only [putV, if_true, if_false]; rfl)); (case wf => exact put_new)))
local macro_rules | `(tactic| walk_at "s1") => `(tactic| ((with_reducible refine' w_mMeth ?wa ?wb ?wz); (case wa => (first | exact lookU_new0 | assumption)); (case wb => decide)))
local macro_rules | `(tactic| walk_at "s1") => `(tactic| ((with_reducible refine' w_mMethZ ?wa ?wb ?wz); (case wa => (first | exact lookU_new0 | assumption)); (case wb => decide)))
local macro_rules | `(tactic| walk_at "s1") => `(tactic| ((with_reducible refine' w_mMethA ?wa ?wb ?wc ?wz); (case wa => rfl); (case wb => rfl); (case wc => rfl)))
local macro_rules | `(tactic| walk_at "s1") => `(tactic| ((with_reducible refine' w_mMethZA ?wa ?wb ?wc ?wz); (case wa => rfl); (case wb => rfl); (case wc => rfl)))
local macro_rules | `(tactic| walk_at "s1") => `(tactic| ((with_reducible refine' w_mMake ?wa ?wb ?wz); (case wa => rfl); (case wb => rfl)))
local macro_rules | `(tactic| walk_at "s1") => `(tactic| ((with_reducible refine' w_mTryO ?wa ?wz); (case wa => decide +kernel)))
local macro_rules | `(tactic| walk_at "s1") => `(tactic| ((with_reducible refine' n_hd ?wa ?wz); (case wa => (simp only [List.cons_append, List.nil_append]; rfl))))
local macro_rules | `(tactic| walk_at "s1") => `(tactic| ((with_reducible refine' t_hd ?wa ?wz); (case wa => (simp only [List.cons_append, List.nil_append]; rfl))))
local macro_rules | `(tactic| walk_at "s1") => `(tactic| ((with_reducible refine' x_hd ?wa ?wz); (case wa => (simp only [List.cons_append, List.nil_append]; rfl))))
local macro_rules | `(tactic| walk_at "s1") => `(tactic| (with_reducible refine w_eqE_l ?_))
local macro_rules | `(tactic| walk_at "s1") => `(tactic| ((with_reducible refine' w_eqE ?wa ?wz); (case wa => (first | exact look_new | assumption))))
def topS (i : Nat) : Stmt := PySem.Challenge.pw_downweigh_k73_deeds_at_a_bench.main.body.getD i (.Pass ⟨0, 0, 0, 0⟩)
abbrev s_p_is_whole : Stmt := topS 10
theorem sc_p_is_whole : FnScope ["thing"] ["thing"] (defScope s_p_is_whole) :=
  ⟨rfl, rfl, rfl, by decide +kernel, rfl, by decide +kernel, by decide +kernel⟩
abbrev s_p_is_one_of : Stmt := topS 12
theorem sc_p_is_one_of : FnScope ["many", "thing"] ["many", "thing"] (defScope s_p_is_one_of) :=
  ⟨rfl, rfl, rfl, by decide +kernel, rfl, by decide +kernel, by decide +kernel⟩
abbrev s_p_look_at_many : Stmt := topS 17
theorem sc_p_look_at_many : FnScope ["many"] ["many"] (defScope s_p_look_at_many) :=
  ⟨rfl, rfl, rfl, by decide +kernel, rfl, by decide +kernel, by decide +kernel⟩
abbrev s_p_is_line : Stmt := topS 18
theorem sc_p_is_line : FnScope ["many", "thing", "part"] ["many", "thing"] (defScope s_p_is_line) :=
  ⟨rfl, rfl, rfl, by decide +kernel, rfl, by decide +kernel, by decide +kernel⟩
abbrev s_p_is_wish : Stmt := topS 19
theorem sc_p_is_wish : FnScope ["many", "thing", "word", "line"] ["many", "thing"] (defScope s_p_is_wish) :=
  ⟨rfl, rfl, rfl, by decide +kernel, rfl, by decide +kernel, by decide +kernel⟩
abbrev s_p_is_letters : Stmt := topS 27
theorem sc_p_is_letters : FnScope ["thing", "most", "sign"] ["thing", "most"] (defScope s_p_is_letters) :=
  ⟨rfl, rfl, rfl, by decide +kernel, rfl, by decide +kernel, by decide +kernel⟩
abbrev s_p_is_name : Stmt := topS 28
theorem sc_p_is_name : FnScope ["thing"] ["thing"] (defScope s_p_is_name) :=
  ⟨rfl, rfl, rfl, by decide +kernel, rfl, by decide +kernel, by decide +kernel⟩
abbrev s_p_look_at_names : Stmt := topS 29
theorem sc_p_look_at_names : FnScope ["part", "thing", "most", "at", "name"] ["part", "thing", "most"] (defScope s_p_look_at_names) :=
  ⟨rfl, rfl, rfl, by decide +kernel, rfl, by decide +kernel, by decide +kernel⟩
abbrev s_p_is_wishes : Stmt := topS 30
theorem sc_p_is_wishes : FnScope ["many", "thing", "wish"] ["many", "thing"] (defScope s_p_is_wishes) :=
  ⟨rfl, rfl, rfl, by decide +kernel, rfl, by decide +kernel, by decide +kernel⟩
abbrev s_p_is_row : Stmt := topS 31
theorem sc_p_is_row : FnScope ["names", "places", "thing", "start", "to", "wishes"] ["names", "places", "thing"] (defScope s_p_is_row) :=
  ⟨rfl, rfl, rfl, by decide +kernel, rfl, by decide +kernel, by decide +kernel⟩
abbrev s_p_look_at_rows : Stmt := topS 32
theorem sc_p_look_at_rows : FnScope ["names", "places", "thing", "at", "row"] ["names", "places", "thing"] (defScope s_p_look_at_rows) :=
  ⟨rfl, rfl, rfl, by decide +kernel, rfl, by decide +kernel, by decide +kernel⟩
abbrev s_p_look_at : Stmt := topS 33
theorem sc_p_look_at : FnScope ["thing", "names", "places", "rows"] ["thing"] (defScope s_p_look_at) :=
  ⟨rfl, rfl, rfl, by decide +kernel, rfl, by decide +kernel, by decide +kernel⟩
abbrev s_p_look_at_number : Stmt := topS 34
theorem sc_p_look_at_number : FnScope ["program", "thing"] ["program", "thing"] (defScope s_p_look_at_number) :=
  ⟨rfl, rfl, rfl, by decide +kernel, rfl, by decide +kernel, by decide +kernel⟩
abbrev s_p_copied_wishes : Stmt := topS 35
theorem sc_p_copied_wishes : FnScope ["wishes", "word", "line"] ["wishes"] (defScope s_p_copied_wishes) :=
  ⟨rfl, rfl, rfl, by decide +kernel, rfl, by decide +kernel, by decide +kernel⟩
abbrev s_p_copied_rows : Stmt := topS 36
theorem sc_p_copied_rows : FnScope ["rows", "start", "to", "wishes"] ["rows"] (defScope s_p_copied_rows) :=
  ⟨rfl, rfl, rfl, by decide +kernel, rfl, by decide +kernel, by decide +kernel⟩
abbrev s_p_copied : Stmt := topS 37
theorem sc_p_copied : FnScope ["program", "names", "places", "rows"] ["program"] (defScope s_p_copied) :=
  ⟨rfl, rfl, rfl, by decide +kernel, rfl, by decide +kernel, by decide +kernel⟩
abbrev s_p_Bench___init__ : Stmt := clsS (topS 45) 0
theorem sc_p_Bench___init__ : FnScope ["self", "program"] ["self", "program"] (defScope s_p_Bench___init__) :=
  ⟨rfl, rfl, rfl, by decide +kernel, rfl, by decide +kernel, by decide +kernel⟩
abbrev s_p_Bench_set_rows : Stmt := clsS (topS 45) 1
theorem sc_p_Bench_set_rows : FnScope ["self", "rows", "paper", "names", "places", "before"] ["self", "rows", "paper"] (defScope s_p_Bench_set_rows) :=
  ⟨rfl, rfl, rfl, by decide +kernel, rfl, by decide +kernel, by decide +kernel⟩
abbrev s_p_Bench_put : Stmt := clsS (topS 45) 2
theorem sc_p_Bench_put : FnScope ["self", "row", "names", "places", "rows", "stays"] ["self", "row"] (defScope s_p_Bench_put) :=
  ⟨rfl, rfl, rfl, by decide +kernel, rfl, by decide +kernel, by decide +kernel⟩
abbrev s_p_Bench_take : Stmt := clsS (topS 45) 3
theorem sc_p_Bench_take : FnScope ["self", "number", "names", "places", "rows", "paper"] ["self", "number"] (defScope s_p_Bench_take) :=
  ⟨rfl, rfl, rfl, by decide +kernel, rfl, by decide +kernel, by decide +kernel⟩
abbrev s_p_Bench_change : Stmt := clsS (topS 45) 4
theorem sc_p_Bench_change : FnScope ["self", "number", "wishes", "names", "places", "rows", "start", "to", "before", "stays", "changed"] ["self", "number", "wishes"] (defScope s_p_Bench_change) :=
  ⟨rfl, rfl, rfl, by decide +kernel, rfl, by decide +kernel, by decide +kernel⟩
abbrev s_p_Bench_undo : Stmt := clsS (topS 45) 5
theorem sc_p_Bench_undo : FnScope ["self"] ["self"] (defScope s_p_Bench_undo) :=
  ⟨rfl, rfl, rfl, by decide +kernel, rfl, by decide +kernel, by decide +kernel⟩
abbrev s_p_Bench_program : Stmt := clsS (topS 45) 8
theorem sc_p_Bench_program : FnScope ["self"] ["self"] (defScope s_p_Bench_program) :=
  ⟨rfl, rfl, rfl, by decide +kernel, rfl, by decide +kernel, by decide +kernel⟩
abbrev s_p_Bench_deeds : Stmt := clsS (topS 45) 9
theorem sc_p_Bench_deeds : FnScope ["self"] ["self"] (defScope s_p_Bench_deeds) :=
  ⟨rfl, rfl, rfl, by decide +kernel, rfl, by decide +kernel, by decide +kernel⟩
abbrev s_p_Bench_keeps : Stmt := clsS (topS 45) 10
theorem sc_p_Bench_keeps : FnScope ["self"] ["self"] (defScope s_p_Bench_keeps) :=
  ⟨rfl, rfl, rfl, by decide +kernel, rfl, by decide +kernel, by decide +kernel⟩
abbrev s_p_Bench___len__ : Stmt := clsS (topS 45) 13
theorem sc_p_Bench___len__ : FnScope ["self"] ["self"] (defScope s_p_Bench___len__) :=
  ⟨rfl, rfl, rfl, by decide +kernel, rfl, by decide +kernel, by decide +kernel⟩
abbrev s_L_pool : Stmt := topS 47
theorem sc_L_pool : FnScope ["_law_script", "_law_k", "_law_cell", "_law_amount", "_law_mixed"] ["_law_script", "_law_k"] (defScope s_L_pool) :=
  ⟨rfl, rfl, rfl, by decide +kernel, rfl, by decide +kernel, by decide +kernel⟩
abbrev s_L_take : Stmt := topS 48
theorem sc_L_take : FnScope ["_law_pool_here", "_law_wide", "_law_found"] ["_law_pool_here", "_law_wide"] (defScope s_L_take) :=
  ⟨rfl, rfl, rfl, by decide +kernel, rfl, by decide +kernel, by decide +kernel⟩
abbrev s_L_free_row : Stmt := topS 49
theorem sc_L_free_row : FnScope ["_law_pool_here", "_law_size", "_law_places", "_law_some", "_law_turn", "_law_line", "_law_k"] ["_law_pool_here", "_law_size", "_law_places"] (defScope s_L_free_row) :=
  ⟨rfl, rfl, rfl, by decide +kernel, rfl, by decide +kernel, by decide +kernel⟩
abbrev s_L_copy : Stmt := topS 50
theorem sc_L_copy : FnScope ["_law_row", "_law_word", "_law_line"] ["_law_row"] (defScope s_L_copy) :=
  ⟨rfl, rfl, rfl, by decide +kernel, rfl, by decide +kernel, by decide +kernel⟩
abbrev s_L_shows : Stmt := topS 51
theorem sc_L_shows : FnScope ["_law_desk", "_law_seat", "_law_heads", "_law_rows", "_law_past", "_law_turn", "_law_told", "_law_row"] ["_law_desk", "_law_seat"] (defScope s_L_shows) :=
  ⟨rfl, rfl, rfl, by decide +kernel, rfl, by decide +kernel, by decide +kernel⟩
abbrev s_L_put : Stmt := topS 52
theorem sc_L_put : FnScope ["_law_desk", "_law_seat", "_law_row", "_law_heads", "_law_rows", "_law_past", "_law_handed", "_law_found", "_law_word", "_law_line"] ["_law_desk", "_law_seat", "_law_row"] (defScope s_L_put) :=
  ⟨rfl, rfl, rfl, by decide +kernel, rfl, by decide +kernel, by decide +kernel⟩
abbrev s_L_taken : Stmt := topS 53
theorem sc_L_taken : FnScope ["_law_pool_here", "_law_desk", "_law_seat", "_law_heads", "_law_rows", "_law_past", "_law_at", "_law_found"] ["_law_pool_here", "_law_desk", "_law_seat"] (defScope s_L_taken) :=
  ⟨rfl, rfl, rfl, by decide +kernel, rfl, by decide +kernel, by decide +kernel⟩
abbrev s_L_changed : Stmt := topS 54
theorem sc_L_changed : FnScope ["_law_pool_here", "_law_desk", "_law_seat", "_law_heads", "_law_rows", "_law_past", "_law_at", "_law_more", "_law_word", "_law_line", "_law_handed", "_law_here", "_law_there", "_law_before"] ["_law_pool_here", "_law_desk", "_law_seat"] (defScope s_L_changed) :=
  ⟨rfl, rfl, rfl, by decide +kernel, rfl, by decide +kernel, by decide +kernel⟩
abbrev s_L_undone : Stmt := topS 55
theorem sc_L_undone : FnScope ["_law_desk", "_law_seat", "_law_heads", "_law_rows", "_law_past", "_law_found"] ["_law_desk", "_law_seat"] (defScope s_L_undone) :=
  ⟨rfl, rfl, rfl, by decide +kernel, rfl, by decide +kernel, by decide +kernel⟩
abbrev s_L_law : Stmt := topS 56
theorem sc_L_law : FnScope ["_law_script", "_law_pool_here", "_law_heads", "_law_turn", "_law_rows", "_law_handed", "_law_desk", "_law_seat", "_law_k", "_law_way", "_law_row"] ["_law_script"] (defScope s_L_law) :=
  ⟨rfl, rfl, rfl, by decide +kernel, rfl, by decide +kernel, by decide +kernel⟩
abbrev s_NoRow : Stmt := topS 6
theorem it_NoRow : InitT (clsInit s_NoRow) ["row"] where
  form := ⟨_, _, _, _, _, _, _, _, [(_, _, _, _)], rfl, rfl, fun _ => ⟨_, rfl⟩⟩
  k1 := rfl
  k2 := rfl
  k3 := rfl
  k4 := by decide +kernel
  k5 := rfl
  k6 := by decide +kernel
  k7 := rfl
  k8 := rfl
  k9 := ⟨_, rfl, rfl⟩
  bind := fun _ _ _ _ _ _ _ _ _ v us hu => match us, hu with | [_], _ => rfl
  dist := by decide +kernel
def ml_0 : List (Str × Bool) := [("NoNumber", false), ("NoProgram", false), ("NoWishes", false), ("NoRow", false), ("Full", true), ("Bare", false)]
theorem lk_ml_0_NoNumber : List.lookup ("NoNumber" : Str) ml_0 = some false := by decide +kernel
theorem lk_ml_0_NoProgram : List.lookup ("NoProgram" : Str) ml_0 = some false := by decide +kernel
theorem lk_ml_0_NoWishes : List.lookup ("NoWishes" : Str) ml_0 = some false := by decide +kernel
theorem lk_ml_0_NoRow : List.lookup ("NoRow" : Str) ml_0 = some false := by decide +kernel
theorem lk_ml_0_Full : List.lookup ("Full" : Str) ml_0 = some true := by decide +kernel
theorem lk_ml_0_Bare : List.lookup ("Bare" : Str) ml_0 = some false := by decide +kernel
def ml_1 : List (Str × Bool) := [("NoNumber", false), ("NoProgram", false), ("NoWishes", false), ("NoRow", false), ("Full", false), ("Bare", true)]
theorem lk_ml_1_NoNumber : List.lookup ("NoNumber" : Str) ml_1 = some false := by decide +kernel
theorem lk_ml_1_NoProgram : List.lookup ("NoProgram" : Str) ml_1 = some false := by decide +kernel
theorem lk_ml_1_NoWishes : List.lookup ("NoWishes" : Str) ml_1 = some false := by decide +kernel
theorem lk_ml_1_NoRow : List.lookup ("NoRow" : Str) ml_1 = some false := by decide +kernel
theorem lk_ml_1_Full : List.lookup ("Full" : Str) ml_1 = some false := by decide +kernel
theorem lk_ml_1_Bare : List.lookup ("Bare" : Str) ml_1 = some true := by decide +kernel
local macro_rules | `(tactic| walk_at "lk") => `(tactic| simp only [lk_ml_0_NoNumber, lk_ml_0_NoProgram, lk_ml_0_NoWishes, lk_ml_0_NoRow, lk_ml_0_Full, lk_ml_0_Bare, lk_ml_1_NoNumber, lk_ml_1_NoProgram, lk_ml_1_NoWishes, lk_ml_1_NoRow, lk_ml_1_Full, lk_ml_1_Bare, Option.isSome_some, true_and])
abbrev bm_OverflowError : List Value := [.type "OverflowError", .type "ArithmeticError", .type "Exception", .type "BaseException", .type "object"]
abbrev bm_IndexError : List Value := [.type "IndexError", .type "LookupError", .type "Exception", .type "BaseException", .type "object"]
abbrev bm_RuntimeError : List Value := [.type "RuntimeError", .type "Exception", .type "BaseException", .type "object"]
structure Tx (P : Program) (K : PySem.W.Frag) (mg : Str → Option Value) where
  n_all : mg "all" = none
  n_bool : mg "bool" = none
  n_enumerate : mg "enumerate" = none
  n_int : mg "int" = none
  n_isinstance : mg "isinstance" = none
  n_len : mg "len" = none
  n_list : mg "list" = none
  n_max : mg "max" = none
  n_min : mg "min" = none
  n_range : mg "range" = none
  n_repr : mg "repr" = none
  n_str : mg "str" = none
  n_tuple : mg "tuple" = none
  u_JUST : Tok
  c_JUST : mg "JUST" = some (.str "just" u_JUST)
  u_LEAST : Tok
  c_LEAST : mg "LEAST" = some (.str "least" u_LEAST)
  u_LEFT : Tok
  c_LEFT : mg "LEFT" = some (.str "left" u_LEFT)
  u_LETTERS : Tok
  c_LETTERS : mg "LETTERS" = some (.str "abcdefghijklmnopqrstuvwxyz" u_LETTERS)
  u_LONGEST_NAME : Tok
  c_LONGEST_NAME : mg "LONGEST_NAME" = some (.int (6) u_LONGEST_NAME)
  u_MOST_NAMES : Tok
  c_MOST_NAMES : mg "MOST_NAMES" = some (.int (3) u_MOST_NAMES)
  u_MOST_NUMBERS : Tok
  c_MOST_NUMBERS : mg "MOST_NUMBERS" = some (.int (8) u_MOST_NUMBERS)
  u_MOST_PLACES : Tok
  c_MOST_PLACES : mg "MOST_PLACES" = some (.int (6) u_MOST_PLACES)
  u_MOST_ROWS : Tok
  c_MOST_ROWS : mg "MOST_ROWS" = some (.int (10) u_MOST_ROWS)
  u_MOST_WISHES : Tok
  c_MOST_WISHES : mg "MOST_WISHES" = some (.int (12) u_MOST_WISHES)
  e_Bare : Addr
  gx_Bare : mg "Bare" = some (.ref e_Bare)
  x_Bare : ExB K "Bare" e_Bare
  q_Bare : ExF K "Bare" e_Bare bm_RuntimeError "RuntimeError.__new__"
  e_Full : Addr
  gx_Full : mg "Full" = some (.ref e_Full)
  x_Full : ExB K "Full" e_Full
  q_Full : ExF K "Full" e_Full bm_OverflowError "OverflowError.__new__"
  e_NoNumber : Addr
  gx_NoNumber : mg "NoNumber" = some (.ref e_NoNumber)
  x_NoNumber : ExB K "NoNumber" e_NoNumber
  e_NoProgram : Addr
  gx_NoProgram : mg "NoProgram" = some (.ref e_NoProgram)
  x_NoProgram : ExB K "NoProgram" e_NoProgram
  e_NoRow : Addr
  gx_NoRow : mg "NoRow" = some (.ref e_NoRow)
  x_NoRow : ExB K "NoRow" e_NoRow
  fi_NoRow : Addr
  cc_NoRow : Addr
  cd_NoRow : Addr
  fd_NoRow : FuncData
  i_NoRow : ExI P K "NoRow" e_NoRow fi_NoRow cc_NoRow cd_NoRow "IndexError" "IndexError.__new__" "IndexError.__init__" bm_IndexError ["row"]
  j_NoRow : InitF K fi_NoRow cc_NoRow cd_NoRow ["row"] fd_NoRow
  e_NoWishes : Addr
  gx_NoWishes : mg "NoWishes" = some (.ref e_NoWishes)
  x_NoWishes : ExB K "NoWishes" e_NoWishes
  m_Bare_Bare : PySem.W.subIn K (.ref e_Bare) (.ref e_Bare) = some true
  m_Bare_Full : PySem.W.subIn K (.ref e_Bare) (.ref e_Full) = some false
  m_Full_Bare : PySem.W.subIn K (.ref e_Full) (.ref e_Bare) = some false
  m_Full_Full : PySem.W.subIn K (.ref e_Full) (.ref e_Full) = some true
  m_NoNumber_Bare : PySem.W.subIn K (.ref e_NoNumber) (.ref e_Bare) = some false
  m_NoNumber_Full : PySem.W.subIn K (.ref e_NoNumber) (.ref e_Full) = some false
  m_NoProgram_Bare : PySem.W.subIn K (.ref e_NoProgram) (.ref e_Bare) = some false
  m_NoProgram_Full : PySem.W.subIn K (.ref e_NoProgram) (.ref e_Full) = some false
  m_NoRow_Bare : PySem.W.subIn K (.ref e_NoRow) (.ref e_Bare) = some false
  m_NoRow_Full : PySem.W.subIn K (.ref e_NoRow) (.ref e_Full) = some false
  m_NoWishes_Bare : PySem.W.subIn K (.ref e_NoWishes) (.ref e_Bare) = some false
  m_NoWishes_Full : PySem.W.subIn K (.ref e_NoWishes) (.ref e_Full) = some false
  f_p_is_whole : Addr
  d_p_is_whole : FuncData
  F_p_is_whole : Fun K "is_whole" "is_whole" s_p_is_whole f_p_is_whole d_p_is_whole
  g_p_is_whole : mg "is_whole" = some (.ref f_p_is_whole)
  f_p_is_one_of : Addr
  d_p_is_one_of : FuncData
  F_p_is_one_of : Fun K "is_one_of" "is_one_of" s_p_is_one_of f_p_is_one_of d_p_is_one_of
  g_p_is_one_of : mg "is_one_of" = some (.ref f_p_is_one_of)
  f_p_look_at_many : Addr
  d_p_look_at_many : FuncData
  F_p_look_at_many : Fun K "look_at_many" "look_at_many" s_p_look_at_many f_p_look_at_many d_p_look_at_many
  g_p_look_at_many : mg "look_at_many" = some (.ref f_p_look_at_many)
  f_p_is_line : Addr
  d_p_is_line : FuncData
  F_p_is_line : Fun K "is_line" "is_line" s_p_is_line f_p_is_line d_p_is_line
  g_p_is_line : mg "is_line" = some (.ref f_p_is_line)
  f_p_is_wish : Addr
  d_p_is_wish : FuncData
  F_p_is_wish : Fun K "is_wish" "is_wish" s_p_is_wish f_p_is_wish d_p_is_wish
  g_p_is_wish : mg "is_wish" = some (.ref f_p_is_wish)
  f_p_is_letters : Addr
  d_p_is_letters : FuncData
  F_p_is_letters : Fun K "is_letters" "is_letters" s_p_is_letters f_p_is_letters d_p_is_letters
  g_p_is_letters : mg "is_letters" = some (.ref f_p_is_letters)
  f_p_is_name : Addr
  d_p_is_name : FuncData
  F_p_is_name : Fun K "is_name" "is_name" s_p_is_name f_p_is_name d_p_is_name
  g_p_is_name : mg "is_name" = some (.ref f_p_is_name)
  f_p_look_at_names : Addr
  d_p_look_at_names : FuncData
  F_p_look_at_names : Fun K "look_at_names" "look_at_names" s_p_look_at_names f_p_look_at_names d_p_look_at_names
  g_p_look_at_names : mg "look_at_names" = some (.ref f_p_look_at_names)
  f_p_is_wishes : Addr
  d_p_is_wishes : FuncData
  F_p_is_wishes : Fun K "is_wishes" "is_wishes" s_p_is_wishes f_p_is_wishes d_p_is_wishes
  g_p_is_wishes : mg "is_wishes" = some (.ref f_p_is_wishes)
  f_p_is_row : Addr
  d_p_is_row : FuncData
  F_p_is_row : Fun K "is_row" "is_row" s_p_is_row f_p_is_row d_p_is_row
  g_p_is_row : mg "is_row" = some (.ref f_p_is_row)
  f_p_look_at_rows : Addr
  d_p_look_at_rows : FuncData
  F_p_look_at_rows : Fun K "look_at_rows" "look_at_rows" s_p_look_at_rows f_p_look_at_rows d_p_look_at_rows
  g_p_look_at_rows : mg "look_at_rows" = some (.ref f_p_look_at_rows)
  f_p_look_at : Addr
  d_p_look_at : FuncData
  F_p_look_at : Fun K "look_at" "look_at" s_p_look_at f_p_look_at d_p_look_at
  g_p_look_at : mg "look_at" = some (.ref f_p_look_at)
  f_p_look_at_number : Addr
  d_p_look_at_number : FuncData
  F_p_look_at_number : Fun K "look_at_number" "look_at_number" s_p_look_at_number f_p_look_at_number d_p_look_at_number
  g_p_look_at_number : mg "look_at_number" = some (.ref f_p_look_at_number)
  f_p_copied_wishes : Addr
  d_p_copied_wishes : FuncData
  F_p_copied_wishes : Fun K "copied_wishes" "copied_wishes" s_p_copied_wishes f_p_copied_wishes d_p_copied_wishes
  g_p_copied_wishes : mg "copied_wishes" = some (.ref f_p_copied_wishes)
  f_p_copied_rows : Addr
  d_p_copied_rows : FuncData
  F_p_copied_rows : Fun K "copied_rows" "copied_rows" s_p_copied_rows f_p_copied_rows d_p_copied_rows
  g_p_copied_rows : mg "copied_rows" = some (.ref f_p_copied_rows)
  f_p_copied : Addr
  d_p_copied : FuncData
  F_p_copied : Fun K "copied" "copied" s_p_copied f_p_copied d_p_copied
  g_p_copied : mg "copied" = some (.ref f_p_copied)
  f_p_Bench___init__ : Addr
  d_p_Bench___init__ : FuncData
  F_p_Bench___init__ : Fun K "__init__" "Bench.__init__" s_p_Bench___init__ f_p_Bench___init__ d_p_Bench___init__
  f_p_Bench_set_rows : Addr
  d_p_Bench_set_rows : FuncData
  F_p_Bench_set_rows : Fun K "set_rows" "Bench.set_rows" s_p_Bench_set_rows f_p_Bench_set_rows d_p_Bench_set_rows
  f_p_Bench_put : Addr
  d_p_Bench_put : FuncData
  F_p_Bench_put : Fun K "put" "Bench.put" s_p_Bench_put f_p_Bench_put d_p_Bench_put
  f_p_Bench_take : Addr
  d_p_Bench_take : FuncData
  F_p_Bench_take : Fun K "take" "Bench.take" s_p_Bench_take f_p_Bench_take d_p_Bench_take
  f_p_Bench_change : Addr
  d_p_Bench_change : FuncData
  F_p_Bench_change : Fun K "change" "Bench.change" s_p_Bench_change f_p_Bench_change d_p_Bench_change
  f_p_Bench_undo : Addr
  d_p_Bench_undo : FuncData
  F_p_Bench_undo : Fun K "undo" "Bench.undo" s_p_Bench_undo f_p_Bench_undo d_p_Bench_undo
  f_p_Bench_program : Addr
  d_p_Bench_program : FuncData
  F_p_Bench_program : Fun K "program" "Bench.program" s_p_Bench_program f_p_Bench_program d_p_Bench_program
  f_p_Bench_deeds : Addr
  d_p_Bench_deeds : FuncData
  F_p_Bench_deeds : Fun K "deeds" "Bench.deeds" s_p_Bench_deeds f_p_Bench_deeds d_p_Bench_deeds
  f_p_Bench_keeps : Addr
  d_p_Bench_keeps : FuncData
  F_p_Bench_keeps : Fun K "keeps" "Bench.keeps" s_p_Bench_keeps f_p_Bench_keeps d_p_Bench_keeps
  f_p_Bench___len__ : Addr
  d_p_Bench___len__ : FuncData
  F_p_Bench___len__ : Fun K "__len__" "Bench.__len__" s_p_Bench___len__ f_p_Bench___len__ d_p_Bench___len__
  f_L_pool : Addr
  d_L_pool : FuncData
  F_L_pool : Fun K "_law_pool" "_law_pool" s_L_pool f_L_pool d_L_pool
  g_L_pool : mg "_law_pool" = some (.ref f_L_pool)
  f_L_take : Addr
  d_L_take : FuncData
  F_L_take : Fun K "_law_take" "_law_take" s_L_take f_L_take d_L_take
  g_L_take : mg "_law_take" = some (.ref f_L_take)
  f_L_free_row : Addr
  d_L_free_row : FuncData
  F_L_free_row : Fun K "_law_free_row" "_law_free_row" s_L_free_row f_L_free_row d_L_free_row
  g_L_free_row : mg "_law_free_row" = some (.ref f_L_free_row)
  f_L_copy : Addr
  d_L_copy : FuncData
  F_L_copy : Fun K "_law_copy" "_law_copy" s_L_copy f_L_copy d_L_copy
  g_L_copy : mg "_law_copy" = some (.ref f_L_copy)
  f_L_shows : Addr
  d_L_shows : FuncData
  F_L_shows : Fun K "_law_shows" "_law_shows" s_L_shows f_L_shows d_L_shows
  g_L_shows : mg "_law_shows" = some (.ref f_L_shows)
  f_L_put : Addr
  d_L_put : FuncData
  F_L_put : Fun K "_law_put" "_law_put" s_L_put f_L_put d_L_put
  g_L_put : mg "_law_put" = some (.ref f_L_put)
  f_L_taken : Addr
  d_L_taken : FuncData
  F_L_taken : Fun K "_law_taken" "_law_taken" s_L_taken f_L_taken d_L_taken
  g_L_taken : mg "_law_taken" = some (.ref f_L_taken)
  f_L_changed : Addr
  d_L_changed : FuncData
  F_L_changed : Fun K "_law_changed" "_law_changed" s_L_changed f_L_changed d_L_changed
  g_L_changed : mg "_law_changed" = some (.ref f_L_changed)
  f_L_undone : Addr
  d_L_undone : FuncData
  F_L_undone : Fun K "_law_undone" "_law_undone" s_L_undone f_L_undone d_L_undone
  g_L_undone : mg "_law_undone" = some (.ref f_L_undone)
  f_L_law : Addr
  d_L_law : FuncData
  F_L_law : Fun K "law" "law" s_L_law f_L_law d_L_law
  g_L_law : mg "law" = some (.ref f_L_law)
  e_Bench : Addr
  gx_Bench : mg "Bench" = some (.ref e_Bench)
  M_Bench : MkF K "Bench" e_Bench f_p_Bench___init__
  C_Bench_paper : ClsF K "Bench" "paper"
  C_Bench_past : ClsF K "Bench" "past"
  C_Bench_plan : ClsF K "Bench" "plan"
  N_Bench : LenF K "Bench" f_p_Bench___len__
  K_p_Bench_change : MethF K "Bench" "change" f_p_Bench_change
  K_p_Bench_deeds : MethF K "Bench" "deeds" f_p_Bench_deeds
  K_p_Bench_keeps : MethF K "Bench" "keeps" f_p_Bench_keeps
  K_p_Bench_program : MethF K "Bench" "program" f_p_Bench_program
  K_p_Bench_put : MethF K "Bench" "put" f_p_Bench_put
  K_p_Bench_set_rows : MethF K "Bench" "set_rows" f_p_Bench_set_rows
  K_p_Bench_take : MethF K "Bench" "take" f_p_Bench_take
  K_p_Bench_undo : MethF K "Bench" "undo" f_p_Bench_undo
  b_p_Bench___init___1_program : Bnd K d_p_Bench___init__ ["self", "program"] 1 ["program"] [0, 1]
  b_p_Bench___len___1 : Bnd K d_p_Bench___len__ ["self"] 1 [] [0]
  b_p_Bench_change_1_wishes_number : Bnd K d_p_Bench_change ["self", "number", "wishes"] 1 ["wishes", "number"] [0, 2, 1]
  b_p_Bench_deeds_1 : Bnd K d_p_Bench_deeds ["self"] 1 [] [0]
  b_p_Bench_keeps_1 : Bnd K d_p_Bench_keeps ["self"] 1 [] [0]
  b_p_Bench_program_1 : Bnd K d_p_Bench_program ["self"] 1 [] [0]
  b_p_Bench_put_2 : Bnd K d_p_Bench_put ["self", "row"] 2 [] [0, 1]
  b_p_Bench_set_rows_3 : Bnd K d_p_Bench_set_rows ["self", "rows", "paper"] 3 [] [0, 1, 2]
  b_p_Bench_take_1_number : Bnd K d_p_Bench_take ["self", "number"] 1 ["number"] [0, 1]
  b_p_Bench_undo_1 : Bnd K d_p_Bench_undo ["self"] 1 [] [0]
  b_L_changed_3 : Bnd K d_L_changed ["_law_pool_here", "_law_desk", "_law_seat"] 3 [] [0, 1, 2]
  b_L_copy_1 : Bnd K d_L_copy ["_law_row"] 1 [] [0]
  b_L_free_row_3 : Bnd K d_L_free_row ["_law_pool_here", "_law_size", "_law_places"] 3 [] [0, 1, 2]
  b_L_pool_2 : Bnd K d_L_pool ["_law_script", "_law_k"] 2 [] [0, 1]
  b_L_put_3 : Bnd K d_L_put ["_law_desk", "_law_seat", "_law_row"] 3 [] [0, 1, 2]
  b_L_shows_2 : Bnd K d_L_shows ["_law_desk", "_law_seat"] 2 [] [0, 1]
  b_L_take_2 : Bnd K d_L_take ["_law_pool_here", "_law_wide"] 2 [] [0, 1]
  b_L_taken_3 : Bnd K d_L_taken ["_law_pool_here", "_law_desk", "_law_seat"] 3 [] [0, 1, 2]
  b_L_undone_2 : Bnd K d_L_undone ["_law_desk", "_law_seat"] 2 [] [0, 1]
  b_p_copied_1 : Bnd K d_p_copied ["program"] 1 [] [0]
  b_p_copied_rows_1 : Bnd K d_p_copied_rows ["rows"] 1 [] [0]
  b_p_copied_wishes_1 : Bnd K d_p_copied_wishes ["wishes"] 1 [] [0]
  b_p_is_letters_2 : Bnd K d_p_is_letters ["thing", "most"] 2 [] [0, 1]
  b_p_is_line_2 : Bnd K d_p_is_line ["many", "thing"] 2 [] [0, 1]
  b_p_is_name_1 : Bnd K d_p_is_name ["thing"] 1 [] [0]
  b_p_is_one_of_2 : Bnd K d_p_is_one_of ["many", "thing"] 2 [] [0, 1]
  b_p_is_row_3 : Bnd K d_p_is_row ["names", "places", "thing"] 3 [] [0, 1, 2]
  b_p_is_whole_1 : Bnd K d_p_is_whole ["thing"] 1 [] [0]
  b_p_is_wish_2 : Bnd K d_p_is_wish ["many", "thing"] 2 [] [0, 1]
  b_p_is_wishes_2 : Bnd K d_p_is_wishes ["many", "thing"] 2 [] [0, 1]
  b_p_look_at_1 : Bnd K d_p_look_at ["thing"] 1 [] [0]
  b_p_look_at_many_1 : Bnd K d_p_look_at_many ["many"] 1 [] [0]
  b_p_look_at_names_3 : Bnd K d_p_look_at_names ["part", "thing", "most"] 3 [] [0, 1, 2]
  b_p_look_at_number_2 : Bnd K d_p_look_at_number ["program", "thing"] 2 [] [0, 1]
  b_p_look_at_rows_3 : Bnd K d_p_look_at_rows ["names", "places", "thing"] 3 [] [0, 1, 2]
section
variable {P : Program} {w : World} {K : PySem.W.Frag} {mg : Str → Option Value} {base : Heap}
def isW (d : D) : Bool := match d with
  | .int _ => true
  | _ => false
def sp_p_is_whole : FS := fun ds ms P => match ds with
  | [d] => (∃ a, tyD d = some a) ∧ P (.bl (isW d)) ms
  | _ => False
theorem len_p_is_whole : ∀ ds ms Q, sp_p_is_whole ds ms Q → ds.length = 1 := fun ds ms Q h => by
  unfold sp_p_is_whole at h
  split at h <;> first | rfl | exact h.elim
def t_p_is_whole : DTS := dRet (dAndV (dIsi .int (dVar 0)) (dNotV (dIsi .bool (dVar 0))))
theorem whole_sem {d : D} {ms : MS} {Q : D → MS → Prop} (h : (∃ a, tyD d = some a) ∧ Q (.bl (isW d)) ms) : dAndV (dIsi .int (dVar 0)) (dNotV (dIsi .bool (dVar 0))) [some d] ms Q := by
  obtain ⟨⟨a, e⟩, h⟩ := h
  walk_at "dl"
  rw [e]
  cases d <;> cases e <;> exact h
theorem sem_p_is_whole : ∀ ds ms Q, sp_p_is_whole ds ms Q → t_p_is_whole { nx := fun _ m => Q .non m, rt := Q } (startD 1 ds) ms := by
  intro ds ms Q h
  unfold sp_p_is_whole at h
  split at h
  · unfold t_p_is_whole
    exact whole_sem h
  · exact h.elim
theorem ok_p_is_whole (T : Tx P K mg) : FnG P w K mg base 1 T.f_p_is_whole T.d_p_is_whole ["thing"] (spD K sp_p_is_whole) := by
  exact fnG_of (k := 0) (t := t_p_is_whole) T.F_p_is_whole sc_p_is_whole len_p_is_whole
    (fun cdv A outer s H hr => pds_one (pds_ret (pd_and (pd_isi .int (by decide) rfl T.n_isinstance rfl T.n_int (by decide +kernel) (by decide) (by decide) (pd_var 0)) (pd_one (pd_not (pd_isi .bool (by decide) rfl T.n_isinstance rfl T.n_bool (by decide +kernel) (by decide) (by decide) (pd_var 0)))))))
    sem_p_is_whole
def sp_p_is_one_of : FS := fun ds ms P => match ds with
  | [.int n, d] => (∃ a, tyD d = some a) ∧ P (.bl (isAt n d)) ms
  | _ => False
theorem len_p_is_one_of : ∀ ds ms Q, sp_p_is_one_of ds ms Q → ds.length = 2 := fun ds ms Q h => by
  unfold sp_p_is_one_of at h
  split at h <;> first | rfl | exact h.elim
def t_p_is_one_of : DTS := dRet (dAndV (dCall 1 0 [0] sp_p_is_whole (aCons (dVar 1) (aNil)) (aNil)) (dChain fLe fLt (dC (.int 0)) (dVar 1) (dVar 0)))
theorem sem_p_is_one_of : ∀ ds ms Q, sp_p_is_one_of ds ms Q → t_p_is_one_of { nx := fun _ m => Q .non m, rt := Q } (startD 2 ds) ms := by
  intro ds ms Q h
  unfold sp_p_is_one_of at h
  split at h
  · rename_i n d
    obtain ⟨⟨a, e⟩, h⟩ := h
    simp only [startD]
    unfold t_p_is_one_of
    walk_at "st"
    refine ⟨⟨a, e⟩, ?_⟩
    walk_at "st"
    cases d with
    | int i =>
      refine w_iteT rfl ?_
      walk_at "st"
      have h : Q (.bl (decide (0 ≤ i) && decide (i < n))) ms := h
      cases h0 : decide (0 ≤ i) with
      | true =>
        rw [h0] at h
        refine w_iteT rfl ?_
        walk_at "st"
        exact h
      | false =>
        rw [h0] at h
        refine w_iteF rfl ?_
        walk_at "st"
        exact h
    | _ =>
      refine w_iteF rfl ?_
      walk_at "st"
      exact h
  · exact h.elim
theorem ok_p_is_one_of (T : Tx P K mg) : FnG P w K mg base 2 T.f_p_is_one_of T.d_p_is_one_of ["many", "thing"] (spD K sp_p_is_one_of) := by
  have G_p_is_whole := ok_p_is_whole (P := P) (w := w) (base := base) T
  exact fnG_of (k := 1) (t := t_p_is_one_of) T.F_p_is_one_of sc_p_is_one_of len_p_is_one_of
    (fun cdv A outer s H hr => pds_one (pds_ret (pd_and (pd_call G_p_is_whole (hr.mono (by decide)) rfl T.g_p_is_whole T.F_p_is_whole.kp T.b_p_is_whole_1 (pda_cons (pd_var 1) (pda_nil))) (pd_one (pd_chain op_le opd_le op_lt opd_lt (pd_int) (pd_var 1) (pd_var 0))))))
    sem_p_is_one_of
def sp_p_look_at_many : FS := fun ds ms P => match ds with
  | [.int i] => 0 ≤ i ∧ i ≤ 8 ∧ P .non ms
  | _ => False
theorem len_p_look_at_many : ∀ ds ms Q, sp_p_look_at_many ds ms Q → ds.length = 1 := fun ds ms Q h => by
  unfold sp_p_look_at_many at h
  split at h <;> first | rfl | exact h.elim
def t_p_look_at_many : DTS := dIfS (dOr (dNot (dTest (dCall 1 0 [0] sp_p_is_whole (aCons (dVar 0) (aNil)) (aNil)))) (dOr (dTest (dOp fLt (dVar 0) (dC (.int 0)))) (dTest (dOp fGt (dVar 0) (dC (.int 8)))))) (dNever) (dNext)
theorem sem_p_look_at_many : ∀ ds ms Q, sp_p_look_at_many ds ms Q → t_p_look_at_many { nx := fun _ m => Q .non m, rt := Q } (startD 1 ds) ms := by
  intro ds ms Q h
  unfold sp_p_look_at_many at h
  split at h
  · rename_i i
    obtain ⟨h0, h8, h⟩ := h
    simp only [startD]
    unfold t_p_look_at_many
    walk_at "st"
    refine ⟨⟨_, rfl⟩, ?_⟩
    walk_at "st"
    refine w_iteF (decide_eq_false (by omega)) ?_
    walk_at "st"
    refine w_iteF (decide_eq_false (by omega)) ?_
    walk_at "st"
    exact h
  · exact h.elim
theorem ok_p_look_at_many (T : Tx P K mg) : FnG P w K mg base 2 T.f_p_look_at_many T.d_p_look_at_many ["many"] (spD K sp_p_look_at_many) := by
  have G_p_is_whole := ok_p_is_whole (P := P) (w := w) (base := base) T
  exact fnG_of (k := 1) (t := t_p_look_at_many) T.F_p_look_at_many sc_p_look_at_many len_p_look_at_many
    (fun cdv A outer s H hr => pds_one (pds_if (pdt_w (pdw_or (pdt_not (pdt_val (pd_call G_p_is_whole (hr.mono (by decide)) rfl T.g_p_is_whole T.F_p_is_whole.kp T.b_p_is_whole_1 (pda_cons (pd_var 0) (pda_nil))))) (pdw_or (pdt_cmp op_lt opd_lt (pd_var 0) (pd_int)) (pdw_or1 (pdt_cmp op_gt opd_gt (pd_var 0) (pd_glob (v := .int (8)) rfl T.c_MOST_NUMBERS ⟨_, rfl⟩ (fun _ => .int _))))))) (pds_one (pds_never)) (pds_nil)))
    sem_p_look_at_many
def sp_p_is_line : FS := fun ds ms P => match ds with
  | [.int i, .lst xs] => ∃ is : List Int, xs = is.map D.int ∧ 0 ≤ i ∧ i ≤ 8 ∧ (is.length : Int) = i + 1 ∧ P (.bl true) ms
  | _ => False
theorem len_p_is_line : ∀ ds ms Q, sp_p_is_line ds ms Q → ds.length = 2 := fun ds ms Q h => by
  unfold sp_p_is_line at h
  split at h <;> first | rfl | exact h.elim
def t_p_is_line : DTS := dSeq (dDrop (dCall 1 0 [0] sp_p_look_at_many (aCons (dVar 0) (aNil)) (aNil))) (dSeq (dIfS (dOr (dNot (dTest (dIsi .list (dVar 1)))) (dTest (dOp fNe (dCB cLen (aCons (dVar 1) (aNil))) (dOp fAdd (dVar 0) (dC (.int 1)))))) (dRet (dC (.bl false))) (dNext)) (dRet (dCB cAll (aCons (dLc (iSeq (dVar 1)) (sName 2) (dYes) (dCall 1 0 [0] sp_p_is_whole (aCons (dVar 2) (aNil)) (aNil)) [2]) (aNil)))))
theorem sem_p_is_line : ∀ ds ms Q, sp_p_is_line ds ms Q → t_p_is_line { nx := fun _ m => Q .non m, rt := Q } (startD 3 ds) ms := by
  intro ds ms Q h
  unfold sp_p_is_line at h
  split at h
  · rename_i i xs
    obtain ⟨is, rfl, h0, h8, hl, h⟩ := h
    simp only [startD]
    unfold t_p_is_line
    walk_at "st"
    refine ⟨h0, h8, ?_⟩
    walk_at "st"
    refine w_iteF (by rw [List.length_map, hl]; simp) ?_
    walk_at "st"
    simp only [wipeD, List.set]
    refine comp_e D.int (fun _ => D.bl true) is [] _ (by simp; omega) (fun x hx P0 q => ?_) ?_
    · walk_at "st"
      exact ⟨⟨_, rfl⟩, q⟩
    · rw [List.nil_append]
      walk_at "st"
      obtain ⟨bs, e, hb⟩ := all_true (fun _ : Int => D.bl true) (fun _ => rfl) is
      refine w_all e ?_
      walk_at "st"
      rw [hb]
      exact h
  · exact h.elim
theorem ok_p_is_line (T : Tx P K mg) : FnG P w K mg base 3 T.f_p_is_line T.d_p_is_line ["many", "thing"] (spD K sp_p_is_line) := by
  have G_p_look_at_many := ok_p_look_at_many (P := P) (w := w) (base := base) T
  have G_p_is_whole := ok_p_is_whole (P := P) (w := w) (base := base) T
  exact fnG_of (k := 2) (t := t_p_is_line) T.F_p_is_line sc_p_is_line len_p_is_line
    (fun cdv A outer s H hr => pds_cons (pds_expr (pd_call G_p_look_at_many (hr.mono (by decide)) rfl T.g_p_look_at_many T.F_p_look_at_many.kp T.b_p_look_at_many_1 (pda_cons (pd_var 0) (pda_nil)))) (pds_cons (pds_if (pdt_w (pdw_or (pdt_not (pdt_val (pd_isi .list (by decide) rfl T.n_isinstance rfl T.n_list (by decide +kernel) (by decide) (by decide) (pd_var 1)))) (pdw_or1 (pdt_cmp (op_neF hr.r.units) opd_ne (pd_callB call_len cal_len rfl T.n_len (by decide +kernel) (pda_cons (pd_var 1) (pda_nil))) (pd_op op_addD opd_add (pd_var 0) (pd_int)))))) (pds_one (pds_ret (pd_bl))) (pds_nil)) (pds_one (pds_ret (pd_callB (cr_all rfl) cal_all rfl T.n_all (by decide +kernel) (pda_cons (pd_lc (own := [("part", 2)]) rfl sc_p_is_line.nd (pdi_list (pd_var 1)) (blkOk_by (own := [("part", 2)]) (by kernel_rfl)) (fun _ _ _ _ _ => pg_name (i := 2) sc_p_is_line.nd rfl (by first | exact .inl rfl | exact .inr rfl)) (tg_name (i := 2) (by decide)) (mon_name (i := 2)) (fun _ _ _ _ _ => pdts_nil) (fun _ _ _ _ _ => pd_call G_p_is_whole (hr.mono (by decide)) rfl T.g_p_is_whole T.F_p_is_whole.kp T.b_p_is_whole_1 (pda_cons (pd_var 2) (pda_nil)))) (pda_nil)))))))
    sem_p_is_line
def sp_p_is_wish : FS := fun ds ms P => match ds with
  | [.int i, d] => ∃ w, d = wiD w ∧ 0 ≤ i ∧ i ≤ 8 ∧ (w.fs.length : Int) = i ∧ P (.bl true) ms
  | _ => False
theorem len_p_is_wish : ∀ ds ms Q, sp_p_is_wish ds ms Q → ds.length = 2 := fun ds ms Q h => by
  unfold sp_p_is_wish at h
  split at h <;> first | rfl | exact h.elim
def t_p_is_wish : DTS := dSeq (dDrop (dCall 1 0 [0] sp_p_look_at_many (aCons (dVar 0) (aNil)) (aNil))) (dSeq (dIfS (dOr (dNot (dTest (dIsi .tuple (dVar 1)))) (dTest (dOp fNe (dCB cLen (aCons (dVar 1) (aNil))) (dC (.int 2))))) (dRet (dC (.bl false))) (dNext)) (dSeq (dAsg (dVar 1) (sTup 2 (sCons (sName 2) (sCons (sName 3) (sNil))))) (dSeq (dIfS (dOr (dNot (dTest (dIsi .str (dVar 2)))) (dTest (dOp fNotIn (dVar 2) (dTup (aCons (dC (.str "least")) (aCons (dC (.str "just")) (aNil))))))) (dRet (dC (.bl false))) (dNext)) (dRet (dCall 2 0 [0, 1] sp_p_is_line (aCons (dVar 0) (aCons (dVar 3) (aNil))) (aNil))))))
theorem in_wd {j : Bool} {ms : MS} {P : D → MS → Prop} (q : P (.bl false) ms) : InOk (wdD j) [.str "least", .str "just"] true ms P := by
  have e : ([PyData.str "least", PyData.str "just"].any fun z => PyData.eqv z (.str (if j then "just" else "least" : String))) = true := by cases j <;> decide +kernel
  have h0 : (Str.ofString (if j then "just" else "least" : String)).cps.all (· < 0x110000) = true := ofString_ok _
  refine ⟨.str (Str.ofString (if j then "just" else "least" : String)), [.str "least", .str "just"], ?_, rfl, h0, Nat.zero_le _, by decide +kernel, ?_⟩
  · unfold wdD; cases j <;> rfl
  · rw [e]; exact q
theorem sem_p_is_wish : ∀ ds ms Q, sp_p_is_wish ds ms Q → t_p_is_wish { nx := fun _ m => Q .non m, rt := Q } (startD 4 ds) ms := by
  intro ds ms Q h
  unfold sp_p_is_wish at h
  split at h
  · rename_i i d
    obtain ⟨w, rfl, h0, h8, hl, h⟩ := h
    simp only [startD]
    unfold t_p_is_wish
    walk_at "st"
    refine ⟨h0, h8, ?_⟩
    walk_at "st"
    unfold wiD
    walk_at "st"
    refine in_wd ?_
    walk_at "st"
    refine ⟨w.l :: w.fs, rfl, h0, h8, by rw [List.length_cons]; omega, ?_⟩
    exact h
  · exact h.elim
theorem ok_p_is_wish (T : Tx P K mg) : FnG P w K mg base 4 T.f_p_is_wish T.d_p_is_wish ["many", "thing"] (spD K sp_p_is_wish) := by
  have G_p_look_at_many := ok_p_look_at_many (P := P) (w := w) (base := base) T
  have G_p_is_line := ok_p_is_line (P := P) (w := w) (base := base) T
  exact fnG_of (k := 3) (t := t_p_is_wish) T.F_p_is_wish sc_p_is_wish len_p_is_wish
    (fun cdv A outer s H hr => pds_cons (pds_expr (pd_call G_p_look_at_many (hr.mono (by decide)) rfl T.g_p_look_at_many T.F_p_look_at_many.kp T.b_p_look_at_many_1 (pda_cons (pd_var 0) (pda_nil)))) (pds_cons (pds_if (pdt_w (pdw_or (pdt_not (pdt_val (pd_isi .tuple (by decide) rfl T.n_isinstance rfl T.n_tuple (by decide +kernel) (by decide) (by decide) (pd_var 1)))) (pdw_or1 (pdt_cmp (op_neF hr.r.units) opd_ne (pd_callB call_len cal_len rfl T.n_len (by decide +kernel) (pda_cons (pd_var 1) (pda_nil))) (pd_int))))) (pds_one (pds_ret (pd_bl))) (pds_nil)) (pds_cons (pds_asg (vs := [2, 3]) (pd_var 1) (pg_tup rfl (pgs_cons (pg_name (i := 2) sc_p_is_wish.nd rfl (.inl rfl)) (pgs_cons (pg_name (i := 3) sc_p_is_wish.nd rfl (.inl rfl)) (pgs_nil)))) (tg_tup (tgs_cons (tg_name (i := 2) (by decide)) (tgs_cons (tg_name (i := 3) (by decide)) (tgs_nil) (mon_name (i := 3))) (mon_name (i := 2))))) (pds_cons (pds_if (pdt_w (pdw_or (pdt_not (pdt_val (pd_isi .str (by decide) rfl T.n_isinstance rfl T.n_str (by decide +kernel) (by decide) (by decide) (pd_var 2)))) (pdw_or1 (pdt_cmp (op_notInF hr.r.units) opd_notIn (pd_var 2) (pd_tup (pda_cons (pd_glob (v := .str "least") rfl T.c_LEAST ⟨_, rfl⟩ (fun _ => .str _)) (pda_cons (pd_glob (v := .str "just") rfl T.c_JUST ⟨_, rfl⟩ (fun _ => .str _)) (pda_nil)))) (by rfl))))) (pds_one (pds_ret (pd_bl))) (pds_nil)) (pds_one (pds_ret (pd_call G_p_is_line (hr.mono (by decide)) rfl T.g_p_is_line T.F_p_is_line.kp T.b_p_is_line_2 (pda_cons (pd_var 0) (pda_cons (pd_var 3) (pda_nil))))))))))
    sem_p_is_wish
def sp_p_is_letters : FS := fun ds ms P => match ds with
  | [.str x, .int n] => n = 6 ∧ goodNm x = true ∧ P (.bl true) ms
  | _ => False
theorem len_p_is_letters : ∀ ds ms Q, sp_p_is_letters ds ms Q → ds.length = 2 := fun ds ms Q h => by
  unfold sp_p_is_letters at h
  split at h <;> first | rfl | exact h.elim
def t_p_is_letters : DTS := dSeq (dIfS (dOr (dNot (dTest (dIsi .str (dVar 0)))) (dOr (dTest (dOp fLt (dCB cLen (aCons (dVar 0) (aNil))) (dC (.int 1)))) (dTest (dOp fGt (dCB cLen (aCons (dVar 0) (aNil))) (dVar 1))))) (dRet (dC (.bl false))) (dNext)) (dRet (dCB cAll (aCons (dLc (iStrD (dVar 0)) (sName 2) (dYes) (dOp fInSign (dVar 2) (dC (.str "abcdefghijklmnopqrstuvwxyz"))) [2]) (aNil))))
theorem letters_lit : (Str.ofString "abcdefghijklmnopqrstuvwxyz").cps.toList = [97, 98, 99, 100, 101, 102, 103, 104, 105, 106, 107, 108, 109, 110, 111, 112, 113, 114, 115, 116, 117, 118, 119, 120, 121, 122] := by decide +kernel
theorem in_letters (c : Nat) : decide (c ∈ (Str.ofString "abcdefghijklmnopqrstuvwxyz").cps.toList) = (decide (97 ≤ c) && decide (c < 123)) := by
  rw [letters_lit, Bool.eq_iff_iff, decide_eq_true_iff, Bool.and_eq_true_iff, decide_eq_true_iff, decide_eq_true_iff]
  simp only [List.mem_cons, List.not_mem_nil, or_false]
  omega
theorem sem_p_is_letters : ∀ ds ms Q, sp_p_is_letters ds ms Q → t_p_is_letters { nx := fun _ m => Q .non m, rt := Q } (startD 3 ds) ms := by
  intro ds ms Q h
  unfold sp_p_is_letters at h
  split at h
  · rename_i x n
    obtain ⟨rfl, hg, h⟩ := h
    unfold goodNm at hg
    rw [Bool.and_eq_true_iff, Bool.and_eq_true_iff] at hg
    obtain ⟨⟨g1, g2⟩, g3⟩ := hg
    have g1 := of_decide_eq_true g1
    have g2 := of_decide_eq_true g2
    have sz : x.length ≤ sizeLine := Nat.le_trans g2 (by decide)
    simp only [startD]
    unfold t_p_is_letters
    walk_at "st"
    refine ⟨sz, ?_⟩
    walk_at "st"
    refine w_iteF (decide_eq_false (by omega)) ?_
    walk_at "st"
    refine ⟨sz, ?_⟩
    walk_at "st"
    refine w_iteF (decide_eq_false (by omega)) ?_
    walk_at "st"
    simp only [wipeD, List.set]
    have hl : x.cps.toList.length ≤ 6 := g2
    refine comp_e (fun c => D.str ⟨#[c]⟩) (fun c => D.bl (decide (97 ≤ c) && decide (c < 123))) x.cps.toList [] _ (by simp only [List.length_nil]; omega) (fun c hc P0 q => ?_) ?_
    · walk_at "st"
      rw [in_letters]
      exact q
    · rw [List.nil_append]
      walk_at "st"
      refine w_all (bls_map _ _) ?_
      rw [show (x.cps.toList.map fun c => decide (97 ≤ c) && decide (c < 123)).all id = x.cps.toList.all fun c => decide (97 ≤ c) && decide (c < 123) by rw [List.all_map]; rfl, g3]
      walk_at "st"
      exact h
  · exact h.elim
theorem ok_p_is_letters (T : Tx P K mg) : FnG P w K mg base 1 T.f_p_is_letters T.d_p_is_letters ["thing", "most"] (spD K sp_p_is_letters) := by
  exact fnG_of (k := 0) (t := t_p_is_letters) T.F_p_is_letters sc_p_is_letters len_p_is_letters
    (fun cdv A outer s H hr => pds_cons (pds_if (pdt_w (pdw_or (pdt_not (pdt_val (pd_isi .str (by decide) rfl T.n_isinstance rfl T.n_str (by decide +kernel) (by decide) (by decide) (pd_var 0)))) (pdw_or (pdt_cmp op_lt opd_lt (pd_callB call_len cal_len rfl T.n_len (by decide +kernel) (pda_cons (pd_var 0) (pda_nil))) (pd_int)) (pdw_or1 (pdt_cmp op_gt opd_gt (pd_callB call_len cal_len rfl T.n_len (by decide +kernel) (pda_cons (pd_var 0) (pda_nil))) (pd_var 1)))))) (pds_one (pds_ret (pd_bl))) (pds_nil)) (pds_one (pds_ret (pd_callB (cr_all rfl) cal_all rfl T.n_all (by decide +kernel) (pda_cons (pd_lc (own := [("sign", 2)]) rfl sc_p_is_letters.nd (pdi_str (pd_var 0)) (blkOk_by (own := [("sign", 2)]) (by kernel_rfl)) (fun _ _ _ _ _ => pg_name (i := 2) sc_p_is_letters.nd rfl (by first | exact .inl rfl | exact .inr rfl)) (tg_name (i := 2) (by decide)) (mon_name (i := 2)) (fun _ _ _ _ _ => pdts_nil) (fun _ _ _ _ _ => pd_cmp op_in_sign opd_inSign (pd_var 2) (pd_glob (v := .str "abcdefghijklmnopqrstuvwxyz") rfl T.c_LETTERS ⟨_, rfl⟩ (fun _ => .str _)) (by rfl))) (pda_nil))))))
    sem_p_is_letters
def sp_p_is_name : FS := fun ds ms P => match ds with
  | [.str x] => goodNm x = true ∧ P (.bl true) ms
  | _ => False
theorem len_p_is_name : ∀ ds ms Q, sp_p_is_name ds ms Q → ds.length = 1 := fun ds ms Q h => by
  unfold sp_p_is_name at h
  split at h <;> first | rfl | exact h.elim
def t_p_is_name : DTS := dRet (dCall 2 0 [0, 1] sp_p_is_letters (aCons (dVar 0) (aCons (dC (.int 6)) (aNil))) (aNil))
theorem sem_p_is_name : ∀ ds ms Q, sp_p_is_name ds ms Q → t_p_is_name { nx := fun _ m => Q .non m, rt := Q } (startD 1 ds) ms := by
  intro ds ms Q h
  unfold sp_p_is_name at h
  split at h
  · simp only [startD]
    unfold t_p_is_name
    walk_at "st"
    exact ⟨rfl, h⟩
  · exact h.elim
theorem ok_p_is_name (T : Tx P K mg) : FnG P w K mg base 2 T.f_p_is_name T.d_p_is_name ["thing"] (spD K sp_p_is_name) := by
  have G_p_is_letters := ok_p_is_letters (P := P) (w := w) (base := base) T
  exact fnG_of (k := 1) (t := t_p_is_name) T.F_p_is_name sc_p_is_name len_p_is_name
    (fun cdv A outer s H hr => pds_one (pds_ret (pd_call G_p_is_letters (hr.mono (by decide)) rfl T.g_p_is_letters T.F_p_is_letters.kp T.b_p_is_letters_2 (pda_cons (pd_var 0) (pda_cons (pd_glob (v := .int (6)) rfl T.c_LONGEST_NAME ⟨_, rfl⟩ (fun _ => .int _)) (pda_nil))))))
    sem_p_is_name
def sp_p_look_at_names : FS := fun ds ms P => match ds with
  | [.str _, .lst ys, .int n] => ∃ xs : List Str, ys = xs.map D.str ∧ 0 ≤ n ∧ n ≤ 6 ∧ NmOk n.toNat xs ∧ P .non ms
  | _ => False
theorem len_p_look_at_names : ∀ ds ms Q, sp_p_look_at_names ds ms Q → ds.length = 3 := fun ds ms Q h => by
  unfold sp_p_look_at_names at h
  split at h <;> first | rfl | exact h.elim
def t_p_look_at_names : DTS := dSeq (dIfS (dOr (dNot (dTest (dIsi .list (dVar 1)))) (dOr (dTest (dOp fLt (dCB cLen (aCons (dVar 1) (aNil))) (dC (.int 1)))) (dTest (dOp fGt (dCB cLen (aCons (dVar 1) (aNil))) (dVar 2))))) (dNever) (dNext)) (dFor (iEnumD (aCons (dVar 1) (aNil))) (sTup 2 (sCons (sName 3) (sCons (sName 4) (sNil)))) (dIfS (dOr (dNot (dTest (dCall 1 0 [0] sp_p_is_name (aCons (dVar 4) (aNil)) (aNil)))) (dTest (dOp fIn (dVar 4) (dSl (dVar 1) (oNone) (oSome (dVar 3)))))) (dNever) (dNext)))
theorem nm_notin {x : Str} {ys : List Str} {ms : MS} {P : D → MS → Prop} (hx : goodNm x = true) (hy : ∀ y ∈ ys, goodNm y = true) (hl : ys.length ≤ 100) (hn : x ∉ ys) (q : P (.bl false) ms) : InOk (.str x) (ys.map D.str) false ms P := by
  have py : ∀ ys : List Str, (∀ y ∈ ys, goodNm y = true) → toPys (ys.map D.str) = some (ys.map PyData.str) ∧ PyData.canLayAll0 (ys.map PyData.str) = true ∧ PyData.depthAll (ys.map PyData.str) = 0 := by
    intro ys
    induction ys with
    | nil => intro _; exact ⟨rfl, rfl, rfl⟩
    | cons y r ih =>
      intro h
      obtain ⟨e1, e2, e3⟩ := ih fun z hz => h z (List.mem_cons_of_mem _ hz)
      have ey : y.cps.all (· < 0x110000) = true := nm_ok (h y List.mem_cons_self)
      refine ⟨by rw [List.map_cons]; unfold toPys; rw [e1]; rfl, Bool.and_eq_true_iff.mpr ⟨ey, e2⟩, ?_⟩
      show max 0 (PyData.depthAll (r.map PyData.str)) = 0
      rw [e3]; rfl
  obtain ⟨e1, e2, e3⟩ := py ys hy
  refine ⟨.str x, ys.map PyData.str, rfl, e1, nm_ok hx, Nat.zero_le _, e2, ?_⟩
  · have e : ((ys.map PyData.str).any fun z => PyData.eqv z (.str x)) = false := by
      rw [List.any_map, List.any_eq_false]
      intro y hy z
      have z : (y == x) = true := z
      exact hn (beq_iff_eq.mp z ▸ hy)
    rw [e]
    exact q
theorem sem_p_look_at_names : ∀ ds ms Q, sp_p_look_at_names ds ms Q → t_p_look_at_names { nx := fun _ m => Q .non m, rt := Q } (startD 5 ds) ms := by
  intro ds ms Q h
  unfold sp_p_look_at_names at h
  split at h
  · rename_i part ys n
    obtain ⟨xs, rfl, n0, n6, ok, h⟩ := h
    have l1 := ok.l1
    have l2 := ok.l2
    simp only [startD]
    unfold t_p_look_at_names
    walk_at "st"
    refine w_iteF (decide_eq_false (by rw [List.length_map]; omega)) ?_
    walk_at "st"
    refine w_iteF (decide_eq_false (by rw [List.length_map]; omega)) ?_
    walk_at "st"
    refine loop_inv (fun ds m => m = ms ∧ ∃ x3 x4, ds = [some (.str part), some (.lst (xs.map D.str)), some (.int n), x3, x4]) _ _ _ ⟨rfl, _, _, rfl⟩ ?_ ?_
    · rintro d hd ds m ⟨rfl, x3, x4, rfl⟩ N hN
      obtain ⟨k, hk, rfl⟩ := enum_mem hd
      walk_at "st"
      refine ⟨ok.ok _ (List.getElem_mem hk), ?_⟩
      walk_at "st"
      rw [cut_to _ _ (by rw [List.length_map]; omega), ← List.map_take]
      refine nm_notin (ok.ok _ (List.getElem_mem hk)) (fun y hy => ok.ok y (List.mem_of_mem_take hy)) (by rw [List.length_take]; omega) (fun z => ?_) ?_
      · obtain ⟨j, hj, e⟩ := List.mem_iff_getElem.mp z
        rw [List.length_take] at hj
        rw [List.getElem_take] at e
        exact List.pairwise_iff_getElem.mp ok.nd j k (by omega) hk (by omega) e
      · walk_at "st"
        exact hN _ _ ⟨rfl, _, _, rfl⟩
    · rintro ds m ⟨rfl, _, _, rfl⟩
      exact h
  · exact h.elim
theorem ok_p_look_at_names (T : Tx P K mg) : FnG P w K mg base 3 T.f_p_look_at_names T.d_p_look_at_names ["part", "thing", "most"] (spD K sp_p_look_at_names) := by
  have G_p_is_name := ok_p_is_name (P := P) (w := w) (base := base) T
  exact fnG_of (k := 2) (t := t_p_look_at_names) T.F_p_look_at_names sc_p_look_at_names len_p_look_at_names
    (fun cdv A outer s H hr => pds_cons (pds_if (pdt_w (pdw_or (pdt_not (pdt_val (pd_isi .list (by decide) rfl T.n_isinstance rfl T.n_list (by decide +kernel) (by decide) (by decide) (pd_var 1)))) (pdw_or (pdt_cmp op_lt opd_lt (pd_callB call_len cal_len rfl T.n_len (by decide +kernel) (pda_cons (pd_var 1) (pda_nil))) (pd_int)) (pdw_or1 (pdt_cmp op_gt opd_gt (pd_callB call_len cal_len rfl T.n_len (by decide +kernel) (pda_cons (pd_var 1) (pda_nil))) (pd_var 2)))))) (pds_one (pds_never)) (pds_nil)) (pds_one (pds_for (vs := [3, 4]) rfl (pdi_enum rfl T.n_enumerate (pda_cons (pd_var 1) (pda_nil))) (pg_tup rfl (pgs_cons (pg_name (i := 3) sc_p_look_at_names.nd rfl (.inl rfl)) (pgs_cons (pg_name (i := 4) sc_p_look_at_names.nd rfl (.inl rfl)) (pgs_nil)))) (tg_tup (tgs_cons (tg_name (i := 3) (by decide)) (tgs_cons (tg_name (i := 4) (by decide)) (tgs_nil) (mon_name (i := 4))) (mon_name (i := 3)))) (pds_one (pds_if (pdt_w (pdw_or (pdt_not (pdt_val (pd_call G_p_is_name (hr.mono (by decide)) rfl T.g_p_is_name T.F_p_is_name.kp T.b_p_is_name_1 (pda_cons (pd_var 4) (pda_nil))))) (pdw_or1 (pdt_cmp (op_inF hr.r.units) opd_in (pd_var 4) (pd_slice (pd_var 1) (pdo_none) (pdo_some (pd_var 3))) (by rfl))))) (pds_one (pds_never)) (pds_nil))))))
    sem_p_look_at_names
def sp_p_is_wishes : FS := fun ds ms P => match ds with
  | [.int i, .lst ys] => ∃ (ws : List Wi) (B n : Nat), ys = ws.map wiD ∧ i = (n : Int) ∧ n ≤ 8 ∧ ws.length ≤ 12 ∧ (∀ w ∈ ws, WiOk B n w) ∧ P (.bl true) ms
  | _ => False
theorem len_p_is_wishes : ∀ ds ms Q, sp_p_is_wishes ds ms Q → ds.length = 2 := fun ds ms Q h => by
  unfold sp_p_is_wishes at h
  split at h <;> first | rfl | exact h.elim
def t_p_is_wishes : DTS := dSeq (dIfS (dOr (dNot (dTest (dIsi .list (dVar 1)))) (dTest (dOp fGt (dCB cLen (aCons (dVar 1) (aNil))) (dC (.int 12))))) (dRet (dC (.bl false))) (dNext)) (dRet (dCB cAll (aCons (dLc (iSeq (dVar 1)) (sName 2) (dYes) (dCall 2 0 [0, 1] sp_p_is_wish (aCons (dVar 0) (aCons (dVar 2) (aNil))) (aNil)) [2]) (aNil))))
theorem sem_p_is_wishes : ∀ ds ms Q, sp_p_is_wishes ds ms Q → t_p_is_wishes { nx := fun _ m => Q .non m, rt := Q } (startD 3 ds) ms := by
  intro ds ms Q h
  unfold sp_p_is_wishes at h
  split at h
  · rename_i i ys
    obtain ⟨ws, B, n, rfl, rfl, n8, wl, wo, h⟩ := h
    simp only [startD]
    unfold t_p_is_wishes
    walk_at "st"
    refine w_iteF (decide_eq_false (by rw [List.length_map]; omega)) ?_
    walk_at "st"
    simp only [wipeD, List.set]
    refine comp_e wiD (fun _ => D.bl true) ws [] _ (by simp; omega) (fun w hw P0 q => ?_) ?_
    · walk_at "st"
      exact ⟨w, rfl, by omega, by omega, by rw [(wo w hw).ln], q⟩
    · rw [List.nil_append]
      walk_at "st"
      obtain ⟨bs, e, hb⟩ := all_true (fun _ : Wi => D.bl true) (fun _ => rfl) ws
      refine w_all e ?_
      walk_at "st"
      rw [hb]
      exact h
  · exact h.elim
theorem ok_p_is_wishes (T : Tx P K mg) : FnG P w K mg base 5 T.f_p_is_wishes T.d_p_is_wishes ["many", "thing"] (spD K sp_p_is_wishes) := by
  have G_p_is_wish := ok_p_is_wish (P := P) (w := w) (base := base) T
  exact fnG_of (k := 4) (t := t_p_is_wishes) T.F_p_is_wishes sc_p_is_wishes len_p_is_wishes
    (fun cdv A outer s H hr => pds_cons (pds_if (pdt_w (pdw_or (pdt_not (pdt_val (pd_isi .list (by decide) rfl T.n_isinstance rfl T.n_list (by decide +kernel) (by decide) (by decide) (pd_var 1)))) (pdw_or1 (pdt_cmp op_gt opd_gt (pd_callB call_len cal_len rfl T.n_len (by decide +kernel) (pda_cons (pd_var 1) (pda_nil))) (pd_glob (v := .int (12)) rfl T.c_MOST_WISHES ⟨_, rfl⟩ (fun _ => .int _)))))) (pds_one (pds_ret (pd_bl))) (pds_nil)) (pds_one (pds_ret (pd_callB (cr_all rfl) cal_all rfl T.n_all (by decide +kernel) (pda_cons (pd_lc (own := [("wish", 2)]) rfl sc_p_is_wishes.nd (pdi_list (pd_var 1)) (blkOk_by (own := [("wish", 2)]) (by kernel_rfl)) (fun _ _ _ _ _ => pg_name (i := 2) sc_p_is_wishes.nd rfl (by first | exact .inl rfl | exact .inr rfl)) (tg_name (i := 2) (by decide)) (mon_name (i := 2)) (fun _ _ _ _ _ => pdts_nil) (fun _ _ _ _ _ => pd_call G_p_is_wish (hr.mono (by decide)) rfl T.g_p_is_wish T.F_p_is_wish.kp T.b_p_is_wish_2 (pda_cons (pd_var 0) (pda_cons (pd_var 2) (pda_nil))))) (pda_nil))))))
    sem_p_is_wishes
def sp_p_is_row : FS := fun ds ms P => match ds with
  | [.int a, .int b, d] => ∃ (r : Rw) (B sz pl : Nat), d = rwD r ∧ a = (sz : Int) ∧ b = (pl : Int) ∧ sz ≤ 3 ∧ RwOk B sz pl r ∧ P (.bl true) ms
  | _ => False
theorem len_p_is_row : ∀ ds ms Q, sp_p_is_row ds ms Q → ds.length = 3 := fun ds ms Q h => by
  unfold sp_p_is_row at h
  split at h <;> first | rfl | exact h.elim
def t_p_is_row : DTS := dSeq (dIfS (dOr (dNot (dTest (dIsi .tuple (dVar 2)))) (dTest (dOp fNe (dCB cLen (aCons (dVar 2) (aNil))) (dC (.int 3))))) (dRet (dC (.bl false))) (dNext)) (dSeq (dAsg (dVar 2) (sTup 3 (sCons (sName 3) (sCons (sName 4) (sCons (sName 5) (sNil)))))) (dSeq (dIfS (dOr (dNot (dTest (dCall 2 0 [0, 1] sp_p_is_one_of (aCons (dVar 1) (aCons (dVar 3) (aNil))) (aNil)))) (dNot (dTest (dCall 2 0 [0, 1] sp_p_is_one_of (aCons (dVar 1) (aCons (dVar 4) (aNil))) (aNil))))) (dRet (dC (.bl false))) (dNext)) (dRet (dCall 2 0 [0, 1] sp_p_is_wishes (aCons (dOp fMul (dC (.int 2)) (dVar 0)) (aCons (dVar 5) (aNil))) (aNil)))))
theorem sem_p_is_row : ∀ ds ms Q, sp_p_is_row ds ms Q → t_p_is_row { nx := fun _ m => Q .non m, rt := Q } (startD 6 ds) ms := by
  intro ds ms Q h
  unfold sp_p_is_row at h
  split at h
  · rename_i a b d
    obtain ⟨r, B, sz, pl, rfl, rfl, rfl, s3, ok, h⟩ := h
    simp only [startD]
    unfold t_p_is_row
    walk_at "st"
    unfold rwD
    walk_at "st"
    refine ⟨⟨_, rfl⟩, ?_⟩
    have hs : isAt (pl : Int) (.int r.s) = true := by
      show (decide (0 ≤ r.s) && decide (r.s < (pl : Int))) = true
      rw [decide_eq_true ok.s0, decide_eq_true ok.s1]; rfl
    have ht : isAt (pl : Int) (.int r.t) = true := by
      show (decide (0 ≤ r.t) && decide (r.t < (pl : Int))) = true
      rw [decide_eq_true ok.t0, decide_eq_true ok.t1]; rfl
    rw [hs]
    walk_at "st"
    refine ⟨⟨_, rfl⟩, ?_⟩
    rw [ht]
    walk_at "st"
    refine ⟨.inr (.inl ⟨by decide, by decide⟩), ?_⟩
    walk_at "st"
    refine ⟨r.ws, B, 2 * sz, rfl, by omega, by omega, ok.wl, ok.wo, ?_⟩
    exact h
  · exact h.elim
theorem ok_p_is_row (T : Tx P K mg) : FnG P w K mg base 6 T.f_p_is_row T.d_p_is_row ["names", "places", "thing"] (spD K sp_p_is_row) := by
  have G_p_is_wishes := ok_p_is_wishes (P := P) (w := w) (base := base) T
  have G_p_is_one_of := ok_p_is_one_of (P := P) (w := w) (base := base) T
  exact fnG_of (k := 5) (t := t_p_is_row) T.F_p_is_row sc_p_is_row len_p_is_row
    (fun cdv A outer s H hr => pds_cons (pds_if (pdt_w (pdw_or (pdt_not (pdt_val (pd_isi .tuple (by decide) rfl T.n_isinstance rfl T.n_tuple (by decide +kernel) (by decide) (by decide) (pd_var 2)))) (pdw_or1 (pdt_cmp (op_neF hr.r.units) opd_ne (pd_callB call_len cal_len rfl T.n_len (by decide +kernel) (pda_cons (pd_var 2) (pda_nil))) (pd_int))))) (pds_one (pds_ret (pd_bl))) (pds_nil)) (pds_cons (pds_asg (vs := [3, 4, 5]) (pd_var 2) (pg_tup rfl (pgs_cons (pg_name (i := 3) sc_p_is_row.nd rfl (.inl rfl)) (pgs_cons (pg_name (i := 4) sc_p_is_row.nd rfl (.inl rfl)) (pgs_cons (pg_name (i := 5) sc_p_is_row.nd rfl (.inl rfl)) (pgs_nil))))) (tg_tup (tgs_cons (tg_name (i := 3) (by decide)) (tgs_cons (tg_name (i := 4) (by decide)) (tgs_cons (tg_name (i := 5) (by decide)) (tgs_nil) (mon_name (i := 5))) (mon_name (i := 4))) (mon_name (i := 3))))) (pds_cons (pds_if (pdt_w (pdw_or (pdt_not (pdt_val (pd_call G_p_is_one_of (hr.mono (by decide)) rfl T.g_p_is_one_of T.F_p_is_one_of.kp T.b_p_is_one_of_2 (pda_cons (pd_var 1) (pda_cons (pd_var 3) (pda_nil)))))) (pdw_or1 (pdt_not (pdt_val (pd_call G_p_is_one_of (hr.mono (by decide)) rfl T.g_p_is_one_of T.F_p_is_one_of.kp T.b_p_is_one_of_2 (pda_cons (pd_var 1) (pda_cons (pd_var 4) (pda_nil))))))))) (pds_one (pds_ret (pd_bl))) (pds_nil)) (pds_one (pds_ret (pd_call G_p_is_wishes (hr.mono (by decide)) rfl T.g_p_is_wishes T.F_p_is_wishes.kp T.b_p_is_wishes_2 (pda_cons (pd_op op_mulA opd_mul (pd_int) (pd_var 0)) (pda_cons (pd_var 5) (pda_nil)))))))))
    sem_p_is_row
def sp_p_look_at_rows : FS := fun ds ms P => match ds with
  | [.int a, .int b, .lst ys] => ∃ (rs : List Rw) (B sz pl : Nat), ys = rs.map rwD ∧ a = (sz : Int) ∧ b = (pl : Int) ∧ sz ≤ 3 ∧ rs.length ≤ 10 ∧ (∀ r ∈ rs, RwOk B sz pl r) ∧ P .non ms
  | _ => False
theorem len_p_look_at_rows : ∀ ds ms Q, sp_p_look_at_rows ds ms Q → ds.length = 3 := fun ds ms Q h => by
  unfold sp_p_look_at_rows at h
  split at h <;> first | rfl | exact h.elim
def t_p_look_at_rows : DTS := dSeq (dIfS (dOr (dNot (dTest (dIsi .list (dVar 2)))) (dTest (dOp fGt (dCB cLen (aCons (dVar 2) (aNil))) (dC (.int 10))))) (dNever) (dNext)) (dFor (iEnumD (aCons (dVar 2) (aNil))) (sTup 2 (sCons (sName 3) (sCons (sName 4) (sNil)))) (dIfS (dNot (dTest (dCall 3 0 [0, 1, 2] sp_p_is_row (aCons (dVar 0) (aCons (dVar 1) (aCons (dVar 4) (aNil)))) (aNil)))) (dNever) (dNext)))
theorem sem_p_look_at_rows : ∀ ds ms Q, sp_p_look_at_rows ds ms Q → t_p_look_at_rows { nx := fun _ m => Q .non m, rt := Q } (startD 5 ds) ms := by
  intro ds ms Q h
  unfold sp_p_look_at_rows at h
  split at h
  · rename_i a b ys
    obtain ⟨rs, B, sz, pl, rfl, rfl, rfl, s3, rl, ro, h⟩ := h
    simp only [startD]
    unfold t_p_look_at_rows
    walk_at "st"
    refine w_iteF (decide_eq_false (by rw [List.length_map]; omega)) ?_
    walk_at "st"
    refine loop_inv (fun ds m => m = ms ∧ ∃ x3 x4, ds = [some (.int (sz : Int)), some (.int (pl : Int)), some (.lst (rs.map rwD)), x3, x4]) _ _ _ ⟨rfl, _, _, rfl⟩ ?_ ?_
    · rintro d hd ds m ⟨rfl, x3, x4, rfl⟩ N hN
      obtain ⟨k, hk, rfl⟩ := enum_mem hd
      walk_at "st"
      refine ⟨_, B, sz, pl, rfl, rfl, rfl, s3, ro _ (List.getElem_mem hk), ?_⟩
      walk_at "st"
      exact hN _ _ ⟨rfl, _, _, rfl⟩
    · rintro ds m ⟨rfl, _, _, rfl⟩
      exact h
  · exact h.elim
theorem ok_p_look_at_rows (T : Tx P K mg) : FnG P w K mg base 7 T.f_p_look_at_rows T.d_p_look_at_rows ["names", "places", "thing"] (spD K sp_p_look_at_rows) := by
  have G_p_is_row := ok_p_is_row (P := P) (w := w) (base := base) T
  exact fnG_of (k := 6) (t := t_p_look_at_rows) T.F_p_look_at_rows sc_p_look_at_rows len_p_look_at_rows
    (fun cdv A outer s H hr => pds_cons (pds_if (pdt_w (pdw_or (pdt_not (pdt_val (pd_isi .list (by decide) rfl T.n_isinstance rfl T.n_list (by decide +kernel) (by decide) (by decide) (pd_var 2)))) (pdw_or1 (pdt_cmp op_gt opd_gt (pd_callB call_len cal_len rfl T.n_len (by decide +kernel) (pda_cons (pd_var 2) (pda_nil))) (pd_glob (v := .int (10)) rfl T.c_MOST_ROWS ⟨_, rfl⟩ (fun _ => .int _)))))) (pds_one (pds_never)) (pds_nil)) (pds_one (pds_for (vs := [3, 4]) rfl (pdi_enum rfl T.n_enumerate (pda_cons (pd_var 2) (pda_nil))) (pg_tup rfl (pgs_cons (pg_name (i := 3) sc_p_look_at_rows.nd rfl (.inl rfl)) (pgs_cons (pg_name (i := 4) sc_p_look_at_rows.nd rfl (.inl rfl)) (pgs_nil)))) (tg_tup (tgs_cons (tg_name (i := 3) (by decide)) (tgs_cons (tg_name (i := 4) (by decide)) (tgs_nil) (mon_name (i := 4))) (mon_name (i := 3)))) (pds_one (pds_if (pdt_not (pdt_val (pd_call G_p_is_row (hr.mono (by decide)) rfl T.g_p_is_row T.F_p_is_row.kp T.b_p_is_row_3 (pda_cons (pd_var 0) (pda_cons (pd_var 1) (pda_cons (pd_var 4) (pda_nil))))))) (pds_one (pds_never)) (pds_nil))))))
    sem_p_look_at_rows
def sp_p_look_at : FS := fun ds ms P => match ds with
  | [d] => ∃ (g : Pg) (B : Nat), d = pgD g ∧ PgOk B g ∧ P .non ms
  | _ => False
theorem len_p_look_at : ∀ ds ms Q, sp_p_look_at ds ms Q → ds.length = 1 := fun ds ms Q h => by
  unfold sp_p_look_at at h
  split at h <;> first | rfl | exact h.elim
def t_p_look_at : DTS := dSeq (dIfS (dOr (dNot (dTest (dIsi .tuple (dVar 0)))) (dTest (dOp fNe (dCB cLen (aCons (dVar 0) (aNil))) (dC (.int 3))))) (dNever) (dNext)) (dSeq (dAsg (dVar 0) (sTup 3 (sCons (sName 1) (sCons (sName 2) (sCons (sName 3) (sNil)))))) (dSeq (dDrop (dCall 3 0 [0, 1, 2] sp_p_look_at_names (aCons (dC (.str "names")) (aCons (dVar 1) (aCons (dC (.int 3)) (aNil)))) (aNil))) (dSeq (dDrop (dCall 3 0 [0, 1, 2] sp_p_look_at_names (aCons (dC (.str "places")) (aCons (dVar 2) (aCons (dC (.int 6)) (aNil)))) (aNil))) (dDrop (dCall 3 0 [0, 1, 2] sp_p_look_at_rows (aCons (dCB cLen (aCons (dVar 1) (aNil))) (aCons (dCB cLen (aCons (dVar 2) (aNil))) (aCons (dVar 3) (aNil)))) (aNil))))))
theorem sem_p_look_at : ∀ ds ms Q, sp_p_look_at ds ms Q → t_p_look_at { nx := fun _ m => Q .non m, rt := Q } (startD 4 ds) ms := by
  intro ds ms Q h
  unfold sp_p_look_at at h
  split at h
  · rename_i d
    obtain ⟨g, B, rfl, ok, h⟩ := h
    simp only [startD]
    unfold t_p_look_at
    walk_at "st"
    unfold pgD
    walk_at "st"
    refine ⟨g.nm, rfl, by decide, by decide, ok.nm, ?_⟩
    walk_at "st"
    refine ⟨g.pm, rfl, by decide, by decide, ok.pm, ?_⟩
    walk_at "st"
    rw [List.length_map, List.length_map]
    exact ⟨g.rs, B, g.nm.length, g.pm.length, rfl, rfl, rfl, ok.nm.l2, ok.rl, ok.ro, h⟩
  · exact h.elim
theorem ok_p_look_at (T : Tx P K mg) : FnG P w K mg base 8 T.f_p_look_at T.d_p_look_at ["thing"] (spD K sp_p_look_at) := by
  have G_p_look_at_names := ok_p_look_at_names (P := P) (w := w) (base := base) T
  have G_p_look_at_rows := ok_p_look_at_rows (P := P) (w := w) (base := base) T
  exact fnG_of (k := 7) (t := t_p_look_at) T.F_p_look_at sc_p_look_at len_p_look_at
    (fun cdv A outer s H hr => pds_cons (pds_if (pdt_w (pdw_or (pdt_not (pdt_val (pd_isi .tuple (by decide) rfl T.n_isinstance rfl T.n_tuple (by decide +kernel) (by decide) (by decide) (pd_var 0)))) (pdw_or1 (pdt_cmp (op_neF hr.r.units) opd_ne (pd_callB call_len cal_len rfl T.n_len (by decide +kernel) (pda_cons (pd_var 0) (pda_nil))) (pd_int))))) (pds_one (pds_never)) (pds_nil)) (pds_cons (pds_asg (vs := [1, 2, 3]) (pd_var 0) (pg_tup rfl (pgs_cons (pg_name (i := 1) sc_p_look_at.nd rfl (.inl rfl)) (pgs_cons (pg_name (i := 2) sc_p_look_at.nd rfl (.inl rfl)) (pgs_cons (pg_name (i := 3) sc_p_look_at.nd rfl (.inl rfl)) (pgs_nil))))) (tg_tup (tgs_cons (tg_name (i := 1) (by decide)) (tgs_cons (tg_name (i := 2) (by decide)) (tgs_cons (tg_name (i := 3) (by decide)) (tgs_nil) (mon_name (i := 3))) (mon_name (i := 2))) (mon_name (i := 1))))) (pds_cons (pds_expr (pd_call G_p_look_at_names (hr.mono (by decide)) rfl T.g_p_look_at_names T.F_p_look_at_names.kp T.b_p_look_at_names_3 (pda_cons (pd_str) (pda_cons (pd_var 1) (pda_cons (pd_glob (v := .int (3)) rfl T.c_MOST_NAMES ⟨_, rfl⟩ (fun _ => .int _)) (pda_nil)))))) (pds_cons (pds_expr (pd_call G_p_look_at_names (hr.mono (by decide)) rfl T.g_p_look_at_names T.F_p_look_at_names.kp T.b_p_look_at_names_3 (pda_cons (pd_str) (pda_cons (pd_var 2) (pda_cons (pd_glob (v := .int (6)) rfl T.c_MOST_PLACES ⟨_, rfl⟩ (fun _ => .int _)) (pda_nil)))))) (pds_one (pds_expr (pd_call G_p_look_at_rows (hr.mono (by decide)) rfl T.g_p_look_at_rows T.F_p_look_at_rows.kp T.b_p_look_at_rows_3 (pda_cons (pd_callB call_len cal_len rfl T.n_len (by decide +kernel) (pda_cons (pd_var 1) (pda_nil))) (pda_cons (pd_callB call_len cal_len rfl T.n_len (by decide +kernel) (pda_cons (pd_var 2) (pda_nil))) (pda_cons (pd_var 3) (pda_nil)))))))))))
    sem_p_look_at
def sx_p_look_at_number : FX := fun ds ms P Z => match ds with
  | [.tup [_, _, .lst ys], d] => (∃ a, tyD d = some a) ∧ if isAt ys.length d = true then P .non ms else Z "NoRow" ["row"] [d] ms
  | _ => False
def sp_p_look_at_number : FS := fun ds ms P => match ds with
  | [.tup [_, _, .lst ys], d] => (∃ a, tyD d = some a) ∧ isAt ys.length d = true ∧ P .non ms
  | _ => False
theorem pl_p_look_at_number : ∀ ds ms P, sp_p_look_at_number ds ms P → sx_p_look_at_number ds ms P fun _ _ _ _ => False := by
  intro ds ms P h
  unfold sp_p_look_at_number at h
  split at h
  · obtain ⟨a, e, h⟩ := h
    unfold sx_p_look_at_number
    exact ⟨a, by rw [if_pos e]; exact h⟩
  · exact h.elim
theorem len_p_look_at_number : ∀ ds ms Q Z, sx_p_look_at_number ds ms Q Z → ds.length = 2 := fun ds ms Q Z h => by
  unfold sx_p_look_at_number at h
  split at h <;> first | rfl | exact h.elim
def t_p_look_at_number : DTS := dIfS (dNot (dTest (dCall 2 0 [0, 1] sp_p_is_one_of (aCons (dCB cLen (aCons (dOp fIx (dVar 0) (dC (.int 2))) (aNil))) (aCons (dVar 1) (aNil))) (aNil)))) (dRaiseI "NoRow" ["row"] (aCons (dVar 1) (aNil))) (dNext)
theorem sem_p_look_at_number : ∀ ds ms Q Z, sx_p_look_at_number ds ms Q Z → t_p_look_at_number { nx := fun _ m => Q .non m, rt := Q, ex := fun c ns xs _ m => Z c ns xs m } (startD 2 ds) ms := by
  intro ds ms Q Z h
  unfold sx_p_look_at_number at h
  split at h
  · rename_i d0 d1 ys d
    obtain ⟨ha, h⟩ := h
    simp only [startD]
    unfold t_p_look_at_number
    walk_at "st"
    refine ⟨ha, ?_⟩
    cases e : isAt ys.length d with
    | true =>
      rw [e] at h
      walk_at "st"
      exact h
    | false =>
      rw [e] at h
      walk_at "st"
      exact h
  · exact h.elim
theorem okx_p_look_at_number (T : Tx P K mg) : FnX P w K mg base 3 T.f_p_look_at_number T.d_p_look_at_number ["program", "thing"] (spX K sx_p_look_at_number) := by
  have G_p_is_one_of := ok_p_is_one_of (P := P) (w := w) (base := base) T
  exact fnX_of (k := 2) (t := t_p_look_at_number) T.F_p_look_at_number sc_p_look_at_number len_p_look_at_number
    (fun cdv A outer s H E hr W tk => px_one (px_if (pdt_not (pdt_val (pd_call G_p_is_one_of (hr.mono (by decide)) rfl T.g_p_is_one_of T.F_p_is_one_of.kp T.b_p_is_one_of_2 (pda_cons (pd_callB call_len cal_len rfl T.n_len (by decide +kernel) (pda_cons (pd_ix ix_seq opd_ix (pd_var 0) (pd_int)) (pda_nil))) (pda_cons (pd_var 1) (pda_nil)))))) (px_one (px_raiseI rfl tk (xb_of PySem.F.excBase_IndexError) PySem.F.store_IndexError PySem.W.kxs_IndexError T.i_NoRow T.j_NoRow hr rfl T.gx_NoRow (pda_cons (pd_var 1) (pda_nil)))) (px_nil)))
    sem_p_look_at_number
theorem ok_p_look_at_number (T : Tx P K mg) : FnG P w K mg base 3 T.f_p_look_at_number T.d_p_look_at_number ["program", "thing"] (spD K sp_p_look_at_number) := (okx_p_look_at_number T).plain pl_p_look_at_number
def Frsh : MS → MS → Prop
  | [], _ => True
  | q :: L, ms => (∀ e ∈ L ++ ms, e.1 ≠ q.1) ∧ Frsh L ms
theorem frsh_app : ∀ {L M ms : MS}, Frsh L (M ++ ms) → Frsh M ms → Frsh (L ++ M) ms
  | [], _, _, _, h => h
  | q :: L, M, ms, ⟨h1, h2⟩, h => ⟨fun e he => h1 e (by
      have he : e ∈ (L ++ M) ++ ms := he
      rwa [List.append_assoc] at he), frsh_app h2 h⟩
theorem frsh_off {L ms : MS} : Frsh L ms → ∀ q ∈ L, ∀ e ∈ ms, e.1 ≠ q.1 := by
  induction L with
  | nil => intro _ q hq; cases hq
  | cons r L ih =>
    rintro ⟨h1, h2⟩ q hq e he
    rcases List.mem_cons.mp hq with rfl | hq
    · exact h1 e (List.mem_append_right _ he)
    · exact ih h2 q hq e he
theorem look_off : ∀ {L ms : MS} {p : Addr}, (∀ q ∈ L, q.1 ≠ p) → look (L ++ ms) p = look ms p
  | [], _, _, _ => rfl
  | (a, xs) :: L, ms, p, h => by
    show look ((a, xs) :: (L ++ ms)) p = look ms p
    rw [look, if_neg (h (a, xs) List.mem_cons_self)]
    exact look_off fun q hq => h q (List.mem_cons_of_mem _ hq)
theorem flatM_app {L ms : MS} (h : flatM L) (k : flatM ms) : flatM (L ++ ms) := fun q hq => (List.mem_append.mp hq).elim (h q) (k q)
theorem frsh_nd : ∀ {L ms : MS}, Frsh L ms → (L.map (·.1)).Nodup
  | [], _, _ => List.nodup_nil
  | q :: L, ms, ⟨h1, h2⟩ => by
    rw [List.map_cons, List.nodup_cons]
    refine ⟨fun z => ?_, frsh_nd h2⟩
    obtain ⟨e, he, z⟩ := List.mem_map.mp z
    exact h1 e (List.mem_append_left _ he) z
theorem frsh_map : ∀ {L M ms : MS}, L.map (·.1) = M.map (·.1) → Frsh M ms → Frsh L ms
  | [], _, _, _, _ => trivial
  | q :: L, [], _, e, _ => by cases e
  | q :: L, r :: M, ms, e, ⟨h1, h2⟩ => by
    rw [List.map_cons, List.map_cons] at e
    injection e with e1 e2
    refine ⟨fun x hx => ?_, frsh_map e2 h2⟩
    rw [e1]
    rcases List.mem_append.mp hx with hx | hx
    · have : x.1 ∈ M.map (·.1) := by rw [← e2]; exact List.mem_map_of_mem hx
      obtain ⟨y, hy, ey⟩ := List.mem_map.mp this
      rw [← ey]
      exact h1 y (List.mem_append_left _ hy)
    · exact h1 x (List.mem_append_right _ hx)
theorem look_in' {a : Addr} {ys : List D} (hy : nofld ys = true) : ∀ {L ms : MS}, Frsh L ms → (a, ys) ∈ L → look (L ++ ms) a = some ys
  | [], _, _, h => by cases h
  | (b, xs) :: L, ms, ⟨h1, h2⟩, h => by
    show look ((b, xs) :: (L ++ ms)) a = some ys
    rcases List.mem_cons.mp h with z | h
    · cases z; rw [look, if_pos rfl, if_pos hy]
    · rw [look, if_neg fun z => h1 (a, ys) (List.mem_append_left _ h) z.symm]
      exact look_in' hy h2 h
theorem look_in {a : Addr} {ys : List D} {L ms : MS} (f : Frsh L ms) (h : (a, ys) ∈ L) (hy : nofld ys = true := by first | rfl | assumption | exact nofld_map _ (fun _ => rfl) _) : look (L ++ ms) a = some ys := look_in' hy f h
theorem put_adr (a : Addr) (ys : List D) : ∀ M : MS, (put M a ys).map (·.1) = M.map (·.1)
  | [] => rfl
  | (b, xs) :: r => by
    unfold put
    by_cases e : b = a
    · rw [if_pos e]; rw [List.map_cons, List.map_cons, e]
    · rw [if_neg e, List.map_cons, List.map_cons, put_adr a ys r]
theorem put_app {a : Addr} {ys : List D} : ∀ {M ms : MS}, a ∈ M.map (·.1) → put (M ++ ms) a ys = put M a ys ++ ms
  | [], _, h => by cases h
  | (b, xs) :: r, ms, h => by
    show put ((b, xs) :: (r ++ ms)) a ys = _
    unfold put
    by_cases e : b = a
    · rw [if_pos e, if_pos e]; rfl
    · rw [if_neg e, if_neg e]
      rcases List.mem_cons.mp h with z | h
      · exact absurd z.symm e
      · rw [put_app h]; rfl
theorem put_flat {a : Addr} {ys : List D} : ∀ {M : MS}, flatM M → flats ys = true → flatM (put M a ys)
  | [], _, _ => fun _ h => by cases h
  | (b, xs) :: r, h, hy => by
    unfold put
    by_cases e : b = a
    · rw [if_pos e]
      intro q hq
      rcases List.mem_cons.mp hq with rfl | hq
      · exact hy
      · exact h q (List.mem_cons_of_mem _ hq)
    · rw [if_neg e]
      intro q hq
      rcases List.mem_cons.mp hq with rfl | hq
      · exact h _ List.mem_cons_self
      · exact put_flat (fun z hz => h z (List.mem_cons_of_mem _ hz)) hy q hq
theorem flats_app : ∀ {xs ys : List D}, flats xs = true → flats ys = true → flats (xs ++ ys) = true
  | [], _, _, h => h
  | x :: r, ys, h, k => by
    obtain ⟨h1, h2⟩ := Bool.and_eq_true_iff.mp h
    exact Bool.and_eq_true_iff.mpr ⟨h1, flats_app h2 k⟩
theorem flats_all {α : Type} {f : α → D} (h : ∀ x, flat (f x) = true) : ∀ xs : List α, flats (xs.map f) = true
  | [] => rfl
  | x :: r => by
    rw [List.map_cons]
    exact Bool.and_eq_true_iff.mpr ⟨h x, flats_all h r⟩
inductive All2 {α β : Type} (G : α → β → Prop) : List α → List β → Prop
  | nil : All2 G [] []
  | cons {x : α} {y : β} {xs : List α} {ys : List β} : G x y → All2 G xs ys → All2 G (x :: xs) (y :: ys)
theorem flatsI : ∀ is : List Int, flats (is.map D.int) = true := flats_all fun _ => rfl
/-- a comprehension each of whose items is made anew -/
theorem comp_new {α β : Type} {g : DG} {te : DE} {ds : DS} (e : α → D) (f : β → D) (G : α → β → Prop) (J : List β → MS → Prop) : ∀ (xs : List α) (bs : List β) (ms : MS) (P : List D → MS → Prop), bs.length + xs.length ≤ 1000000 → J bs ms →
    (∀ x ∈ xs, ∀ bs ms, J bs ms → ∀ K : D → MS → Prop, (∀ y m', G x y → J (bs ++ [y]) m' → K (f y) m') → g (e x) ds fun ds2 => te ds2 ms K) →
    (∀ (ys : List β) (m' : MS), All2 G xs ys → J (bs ++ ys) m' → P ((bs ++ ys).map f) m') → compD g dYes te ds (xs.map e) (bs.map f) ms P
  | [], bs, ms, P, _, hJ, _, h => by
    have := h [] ms .nil (by rw [List.append_nil]; exact hJ)
    rw [List.append_nil] at this
    exact this
  | x :: r, bs, ms, P, hl, hJ, t, h => by
    rw [List.length_cons] at hl
    rw [List.map_cons]
    unfold compD
    refine t x List.mem_cons_self bs ms hJ (fun y m4 => (bs.map f).length < sizeLine ∧ compD g dYes te ds (r.map e) (bs.map f ++ [y]) m4 P) fun y m' hG hJ' => ?_
    refine ⟨by rw [List.length_map]; exact Nat.lt_of_lt_of_le (by omega : bs.length < 1000001) (by decide), ?_⟩
    rw [show bs.map f ++ [f y] = (bs ++ [y]).map f by rw [List.map_append]; rfl]
    refine comp_new e f G J r (bs ++ [y]) m' P (by rw [List.length_append, List.length_singleton]; omega) hJ' (fun z hz => t z (List.mem_cons_of_mem _ hz)) fun ys m2 at_ j => ?_
    have := h (y :: ys) m2 (.cons hG at_) (by rw [List.append_assoc] at j; exact j)
    rw [List.append_assoc]
    exact this
/-- a wish told anew -/
structure LW where
  w : Wi
  a : Addr
def lwD (x : LW) : D := .tup [wdD x.w.j, .opq (.ref x.a)]
def lwM (x : LW) : Addr × List D := (x.a, x.w.ls.map D.int)
def wsN (bs : List LW) : MS := (bs.map lwM).reverse
def wsM (q : Addr) (bs : List LW) : MS := (q, bs.map lwD) :: wsN bs
theorem wsN_snoc (bs : List LW) (x : LW) : wsN (bs ++ [x]) = lwM x :: wsN bs := by unfold wsN; rw [List.map_append, List.reverse_append]; rfl
theorem fall_map {α β γ : Type} {f : α → γ} {h : β → γ} {G : α → β → Prop} (e : ∀ x y, G x y → h y = f x) : ∀ {xs : List α} {ys : List β}, All2 G xs ys → ys.map h = xs.map f
  | _, _, .nil => rfl
  | _, _, .cons a r => by rw [List.map_cons, List.map_cons, e _ _ a, fall_map e r]
def sp_p_copied_wishes : FS := fun ds ms P => match ds with
  | [.lst ys] => ∃ ws : List Wi, ys = ws.map wiD ∧ ws.length ≤ 1000 ∧ ∀ q bs, bs.map LW.w = ws → Frsh (wsM q bs) ms → P (.opq (.ref q)) (wsM q bs ++ ms)
  | _ => False
theorem len_p_copied_wishes : ∀ ds ms Q, sp_p_copied_wishes ds ms Q → ds.length = 1 := fun ds ms Q h => by
  unfold sp_p_copied_wishes at h
  split at h <;> first | rfl | exact h.elim
def t_p_copied_wishes : DTS := dRet (dLcM (iSeq (dVar 0)) (sTup 2 (sCons (sName 1) (sCons (sName 2) (sNil)))) (dYes) (dTup (aCons (dVar 1) (aCons (dCB cListM (aCons (dVar 2) (aNil))) (aNil)))) [1, 2])
theorem sem_p_copied_wishes : ∀ ds ms Q, sp_p_copied_wishes ds ms Q → t_p_copied_wishes { nx := fun _ m => Q .non m, rt := Q } (startD 3 ds) ms := by
  intro ds ms Q h
  unfold sp_p_copied_wishes at h
  split at h
  · obtain ⟨ws, rfl, hl, h⟩ := h
    simp only [startD]
    unfold t_p_copied_wishes
    walk_at "st"
    simp only [wipeD, List.set]
    refine (show compD _ _ _ _ _ (([] : List LW).map lwD) _ _ from ?_)
    refine comp_new wiD lwD (fun w b => b.w = w) (fun bs m => m = wsN bs ++ ms ∧ Frsh (wsN bs) ms) ws [] _ _ (by rw [List.length_nil]; omega) ⟨rfl, trivial⟩ (fun w hw bs m hJ K hK => ?_) ?_
    · obtain ⟨rfl, fr0⟩ := hJ
      unfold wiD
      walk_at "st"
      intro q hq
      walk_at "st"
      exact hK ⟨w, q⟩ _ rfl ⟨by rw [wsN_snoc]; rfl, by rw [wsN_snoc]; exact ⟨hq, fr0⟩⟩
    intro bs m at_ hJ
    obtain ⟨rfl, fr0⟩ := hJ
    rw [List.nil_append] at fr0 ⊢
    intro q hq
    walk_at "st"
    exact h q bs ((fall_map (h := LW.w) (f := id) (fun _ _ e => e) at_).trans (List.map_id _)) ⟨hq, fr0⟩
  · exact h.elim
theorem ok_p_copied_wishes (T : Tx P K mg) : FnG P w K mg base 1 T.f_p_copied_wishes T.d_p_copied_wishes ["wishes"] (spD K sp_p_copied_wishes) := by
  exact fnG_of (k := 0) (t := t_p_copied_wishes) T.F_p_copied_wishes sc_p_copied_wishes len_p_copied_wishes
    (fun cdv A outer s H hr => pds_one (pds_ret (pd_lcM (own := [("word", 1), ("line", 2)]) rfl sc_p_copied_wishes.nd (pdi_list (pd_var 0)) (blkOk_by (own := [("word", 1), ("line", 2)]) (by kernel_rfl)) (fun _ _ _ _ _ => pg_tup rfl (pgs_cons (pg_name (i := 1) sc_p_copied_wishes.nd rfl (by first | exact .inl rfl | exact .inr rfl)) (pgs_cons (pg_name (i := 2) sc_p_copied_wishes.nd rfl (by first | exact .inl rfl | exact .inr rfl)) (pgs_nil)))) (tg_tup (tgs_cons (tg_name (i := 1) (by decide)) (tgs_cons (tg_name (i := 2) (by decide)) (tgs_nil) (mon_name (i := 2))) (mon_name (i := 1)))) (mon_tup (mon_cons (mon_name (i := 1)) (mon_cons (mon_name (i := 2)) (mon_nil)))) (fun _ _ _ _ _ => pdts_nil) (fun _ _ _ _ _ => pd_tup (pda_cons (pd_var 1) (pda_cons (pd_callTy call_list_of cal_listM rfl T.n_list (by decide +kernel) (pda_cons (pd_var 2) (pda_nil))) (pda_nil)))))))
    sem_p_copied_wishes
/-- a row told anew -/
structure LR where
  s : Int
  t : Int
  a : Addr
  bs : List LW
def LR.rw (x : LR) : Rw := ⟨x.s, x.t, x.bs.map LW.w⟩
def lrD (x : LR) : D := .tup [.int x.s, .int x.t, .opq (.ref x.a)]
def rsN : List LR → MS
  | [] => []
  | x :: r => rsN r ++ wsM x.a x.bs
theorem rsN_snoc : ∀ (xs : List LR) (x : LR), rsN (xs ++ [x]) = wsM x.a x.bs ++ rsN xs
  | [], x => by show [] ++ wsM x.a x.bs = _; rw [List.nil_append]; show _ = _ ++ []; rw [List.append_nil]
  | y :: r, x => by
    show rsN (r ++ [x]) ++ wsM y.a y.bs = _ ++ (rsN r ++ _)
    rw [rsN_snoc r x, List.append_assoc]
def rsM (q : Addr) (xs : List LR) : MS := (q, xs.map lrD) :: rsN xs
def sp_p_copied_rows : FS := fun ds ms P => match ds with
  | [.lst ys] => ∃ rs : List Rw, ys = rs.map rwD ∧ rs.length ≤ 1000 ∧ (∀ r ∈ rs, r.ws.length ≤ 1000) ∧ ∀ q xs, xs.map LR.rw = rs → Frsh (rsM q xs) ms → P (.opq (.ref q)) (rsM q xs ++ ms)
  | _ => False
theorem len_p_copied_rows : ∀ ds ms Q, sp_p_copied_rows ds ms Q → ds.length = 1 := fun ds ms Q h => by
  unfold sp_p_copied_rows at h
  split at h <;> first | rfl | exact h.elim
def t_p_copied_rows : DTS := dRet (dLcM (iSeq (dVar 0)) (sTup 3 (sCons (sName 1) (sCons (sName 2) (sCons (sName 3) (sNil))))) (dYes) (dTup (aCons (dVar 1) (aCons (dVar 2) (aCons (dCall 1 0 [0] sp_p_copied_wishes (aCons (dVar 3) (aNil)) (aNil)) (aNil))))) [1, 2, 3])
theorem sem_p_copied_rows : ∀ ds ms Q, sp_p_copied_rows ds ms Q → t_p_copied_rows { nx := fun _ m => Q .non m, rt := Q } (startD 4 ds) ms := by
  intro ds ms Q h
  unfold sp_p_copied_rows at h
  split at h
  · obtain ⟨rs, rfl, hl, hw, h⟩ := h
    simp only [startD]
    unfold t_p_copied_rows
    walk_at "st"
    simp only [wipeD, List.set]
    refine (show compD _ _ _ _ _ (([] : List LR).map lrD) _ _ from ?_)
    refine comp_new rwD lrD (fun r x => x.rw = r) (fun xs m => m = rsN xs ++ ms ∧ Frsh (rsN xs) ms) rs [] _ _ (by rw [List.length_nil]; omega) ⟨rfl, trivial⟩ (fun r hr xs m hJ K hK => ?_) ?_
    · obtain ⟨rfl, fr0⟩ := hJ
      unfold rwD
      walk_at "st"
      refine ⟨r.ws, rfl, hw r hr, fun q bs e fr1 => ?_⟩
      walk_at "st"
      exact hK ⟨r.s, r.t, q, bs⟩ _ (by unfold LR.rw; rw [e]) ⟨by rw [rsN_snoc, List.append_assoc], by rw [rsN_snoc]; exact frsh_app fr1 fr0⟩
    intro xs m at_ hJ
    obtain ⟨rfl, fr0⟩ := hJ
    rw [List.nil_append] at fr0 ⊢
    intro q hq
    walk_at "st"
    exact h q xs ((fall_map (h := LR.rw) (f := id) (fun _ _ e => e) at_).trans (List.map_id _)) ⟨hq, fr0⟩
  · exact h.elim
theorem ok_p_copied_rows (T : Tx P K mg) : FnG P w K mg base 2 T.f_p_copied_rows T.d_p_copied_rows ["rows"] (spD K sp_p_copied_rows) := by
  have G_p_copied_wishes := ok_p_copied_wishes (P := P) (w := w) (base := base) T
  exact fnG_of (k := 1) (t := t_p_copied_rows) T.F_p_copied_rows sc_p_copied_rows len_p_copied_rows
    (fun cdv A outer s H hr => pds_one (pds_ret (pd_lcM (own := [("start", 1), ("to", 2), ("wishes", 3)]) rfl sc_p_copied_rows.nd (pdi_list (pd_var 0)) (blkOk_by (own := [("start", 1), ("to", 2), ("wishes", 3)]) (by kernel_rfl)) (fun _ _ _ _ _ => pg_tup rfl (pgs_cons (pg_name (i := 1) sc_p_copied_rows.nd rfl (by first | exact .inl rfl | exact .inr rfl)) (pgs_cons (pg_name (i := 2) sc_p_copied_rows.nd rfl (by first | exact .inl rfl | exact .inr rfl)) (pgs_cons (pg_name (i := 3) sc_p_copied_rows.nd rfl (by first | exact .inl rfl | exact .inr rfl)) (pgs_nil))))) (tg_tup (tgs_cons (tg_name (i := 1) (by decide)) (tgs_cons (tg_name (i := 2) (by decide)) (tgs_cons (tg_name (i := 3) (by decide)) (tgs_nil) (mon_name (i := 3))) (mon_name (i := 2))) (mon_name (i := 1)))) (mon_tup (mon_cons (mon_name (i := 1)) (mon_cons (mon_name (i := 2)) (mon_cons (mon_name (i := 3)) (mon_nil))))) (fun _ _ _ _ _ => pdts_nil) (fun _ _ _ _ _ => pd_tup (pda_cons (pd_var 1) (pda_cons (pd_var 2) (pda_cons (pd_call G_p_copied_wishes (hr.mono (by decide)) rfl T.g_p_copied_wishes T.F_p_copied_wishes.kp T.b_p_copied_wishes_1 (pda_cons (pd_var 3) (pda_nil))) (pda_nil))))))))
    sem_p_copied_rows
theorem lw_flat (x : LW) : flat (lwD x) = true := by
  obtain ⟨⟨j, l, fs⟩, a⟩ := x
  cases j <;> rfl
theorem lr_flat (x : LR) : flat (lrD x) = true := rfl
theorem flats_strs : ∀ xs : List Str, flats (xs.map D.str) = true := flats_all fun _ => rfl
theorem wsM_flat (q : Addr) (bs : List LW) : flatM (wsM q bs) := fun e he => by
  rcases List.mem_cons.mp he with rfl | he
  · exact flats_all lw_flat bs
  · obtain ⟨x, _, rfl⟩ := List.mem_map.mp (List.mem_reverse.mp he)
    exact flatsI _
theorem rsN_flat : ∀ xs : List LR, flatM (rsN xs)
  | [] => fun _ h => by cases h
  | x :: r => flatM_app (rsN_flat r) (wsM_flat _ _)
theorem rsM_flat (q : Addr) (xs : List LR) : flatM (rsM q xs) := fun e he => by
  rcases List.mem_cons.mp he with rfl | he
  · exact flats_all lr_flat xs
  · exact rsN_flat xs e he
theorem rsN_mem {x : LR} : ∀ {xs : List LR}, x ∈ xs → ∀ e ∈ wsM x.a x.bs, e ∈ rsN xs
  | [], h, _, _ => by cases h
  | y :: r, h, e, he => by
    rcases List.mem_cons.mp h with rfl | h
    · exact List.mem_append_right _ he
    · exact List.mem_append_left _ (rsN_mem h e he)
/-- the addresses of a row's lists -/
def adrs (x : LR) : List Addr := x.a :: x.bs.map LW.a
theorem wsM_adr (x : LR) : ((wsM x.a x.bs).map (·.1)).Perm (adrs x) := by
  show (x.a :: (wsN x.bs).map (·.1)).Perm _
  refine List.Perm.cons _ ?_
  unfold wsN
  rw [List.map_reverse, List.map_map]
  exact List.reverse_perm _
theorem rsN_adr : ∀ xs : List LR, ((rsN xs).map (·.1)).Perm (xs.flatMap adrs)
  | [] => .nil
  | x :: r => by
    show ((rsN r ++ wsM x.a x.bs).map (·.1)).Perm (adrs x ++ r.flatMap adrs)
    rw [List.map_append]
    exact ((rsN_adr r).append (wsM_adr x)).trans List.perm_append_comm
/-- a program told anew, each list of it at an address of its own -/
structure PgL (g : Pg) (t : D) (L : MS) (n p q : Addr) (xs : List LR) : Prop where
  is : t = .tup [.opq (.ref n), .opq (.ref p), .opq (.ref q)]
  rs : xs.map LR.rw = g.rs
  mn : (n, g.nm.map D.str) ∈ L
  mp : (p, g.pm.map D.str) ∈ L
  mq : (q, xs.map lrD) ∈ L
  mr : ∀ x ∈ xs, ∀ e ∈ wsM x.a x.bs, e ∈ L
  nd : (n :: p :: q :: xs.flatMap adrs).Nodup
  fl : flatM L
theorem pgl_mk {g : Pg} {n p q : Addr} {xs : List LR} {ms : MS} (e : xs.map LR.rw = g.rs) (f : Frsh (rsM q xs) ((p, g.pm.map D.str) :: (n, g.nm.map D.str) :: ms)) (hp : ∀ e ∈ (n, g.nm.map D.str) :: ms, e.1 ≠ p) (hn : ∀ e ∈ ms, e.1 ≠ n) :
    PgL g (.tup [.opq (.ref n), .opq (.ref p), .opq (.ref q)]) (rsM q xs ++ [(p, g.pm.map D.str), (n, g.nm.map D.str)]) n p q xs ∧ Frsh (rsM q xs ++ [(p, g.pm.map D.str), (n, g.nm.map D.str)]) ms := by
  have ff : Frsh (rsM q xs ++ [(p, g.pm.map D.str), (n, g.nm.map D.str)]) ms := frsh_app (M := [(p, g.pm.map D.str), (n, g.nm.map D.str)]) f ⟨hp, hn, trivial⟩
  refine ⟨⟨rfl, e, List.mem_append_right _ (by simp), List.mem_append_right _ List.mem_cons_self, List.mem_append_left _ List.mem_cons_self, fun x hx e he => List.mem_append_left _ (List.mem_cons_of_mem _ (rsN_mem hx e he)), ?_, ?_⟩, ff⟩
  · refine List.Perm.nodup_iff ?_ |>.mp (frsh_nd ff)
    rw [List.map_append]
    show (q :: (rsN xs).map (·.1) ++ [p, n]).Perm _
    refine List.Perm.trans (l₂ := [n, p] ++ (q :: (rsN xs).map (·.1))) (List.perm_append_comm.trans ((List.Perm.swap n p []).append_right _)) ?_
    exact .cons _ (.cons _ (.cons _ (rsN_adr xs)))
  · refine flatM_app (rsM_flat q xs) fun e he => ?_
    simp only [List.mem_cons, List.not_mem_nil, or_false] at he
    rcases he with rfl | rfl <;> exact flats_strs _
def sp_p_copied : FS := fun ds ms P => match ds with
  | [d] => ∃ (g : Pg) (B : Nat), d = pgD g ∧ PgOk B g ∧ ∀ t L n p q xs, PgL g t L n p q xs → Frsh L ms → P t (L ++ ms)
  | _ => False
theorem len_p_copied : ∀ ds ms Q, sp_p_copied ds ms Q → ds.length = 1 := fun ds ms Q h => by
  unfold sp_p_copied at h
  split at h <;> first | rfl | exact h.elim
def t_p_copied : DTS := dSeq (dAsg (dVar 0) (sTup 3 (sCons (sName 1) (sCons (sName 2) (sCons (sName 3) (sNil)))))) (dRet (dTup (aCons (dCB cListM (aCons (dVar 1) (aNil))) (aCons (dCB cListM (aCons (dVar 2) (aNil))) (aCons (dCall 1 0 [0] sp_p_copied_rows (aCons (dVar 3) (aNil)) (aNil)) (aNil))))))
theorem sem_p_copied : ∀ ds ms Q, sp_p_copied ds ms Q → t_p_copied { nx := fun _ m => Q .non m, rt := Q } (startD 4 ds) ms := by
  intro ds ms Q h
  unfold sp_p_copied at h
  split at h
  · obtain ⟨g, B, rfl, ok, h⟩ := h
    simp only [startD]
    unfold t_p_copied pgD
    walk_at "st"
    intro n hn
    walk_at "st"
    intro p hp
    walk_at "st"
    refine ⟨_, rfl, by have := ok.rl; omega, fun r hr => ?_, fun q xs e f => ?_⟩
    · have := (ok.ro r hr).wl
      omega
    walk_at "st"
    have := pgl_mk (g := g) e f hp hn
    have := h _ _ n p q xs this.1 this.2
    rw [List.append_assoc] at this
    exact this
  · exact h.elim
theorem ok_p_copied (T : Tx P K mg) : FnG P w K mg base 3 T.f_p_copied T.d_p_copied ["program"] (spD K sp_p_copied) := by
  have G_p_copied_rows := ok_p_copied_rows (P := P) (w := w) (base := base) T
  exact fnG_of (k := 2) (t := t_p_copied) T.F_p_copied sc_p_copied len_p_copied
    (fun cdv A outer s H hr => pds_cons (pds_asg (vs := [1, 2, 3]) (pd_var 0) (pg_tup rfl (pgs_cons (pg_name (i := 1) sc_p_copied.nd rfl (.inl rfl)) (pgs_cons (pg_name (i := 2) sc_p_copied.nd rfl (.inl rfl)) (pgs_cons (pg_name (i := 3) sc_p_copied.nd rfl (.inl rfl)) (pgs_nil))))) (tg_tup (tgs_cons (tg_name (i := 1) (by decide)) (tgs_cons (tg_name (i := 2) (by decide)) (tgs_cons (tg_name (i := 3) (by decide)) (tgs_nil) (mon_name (i := 3))) (mon_name (i := 2))) (mon_name (i := 1))))) (pds_one (pds_ret (pd_tup (pda_cons (pd_callTy call_list_of cal_listM rfl T.n_list (by decide +kernel) (pda_cons (pd_var 1) (pda_nil))) (pda_cons (pd_callTy call_list_of cal_listM rfl T.n_list (by decide +kernel) (pda_cons (pd_var 2) (pda_nil))) (pda_cons (pd_call G_p_copied_rows (hr.mono (by decide)) rfl T.g_p_copied_rows T.F_p_copied_rows.kp T.b_p_copied_rows_1 (pda_cons (pd_var 3) (pda_nil))) (pda_nil))))))))
    sem_p_copied
/-- a bench: its plan, the list of what was before, no paper -/
def bnO (dx : Addr) (g : Pg) (pa : Addr) : List D := [.fld "Bench" dx ["plan", "past", "paper"], pgD g, .opq (.ref pa), .non]
def bnM (x dx pa : Addr) (g : Pg) (gs : List Pg) : MS := [(x, bnO dx g pa), (pa, gs.map pgD)]
def sp_p_Bench___init__ : FS := fun ds ms P => match ds with
  | [.opq (.ref x), t] => ∃ (dx : Addr) (g : Pg) (B : Nat) (L : MS) (n p q : Addr) (xs : List LR) (m : MS), ms = (x, [.fld "Bench" dx []]) :: (L ++ m) ∧ PgOk B g ∧ PgL g t L n p q xs ∧ flatM m ∧
      ∀ pa, (∀ e ∈ (x, bnO dx g pa) :: (L ++ m), e.1 ≠ pa) → P .non ((pa, []) :: (x, bnO dx g pa) :: (L ++ m))
  | _ => False
theorem vw_pg {g : Pg} {t : D} {L : MS} {n p q : Addr} {xs : List LR} (h : PgL g t L n p q xs) : Vw L t (pgD g) := by
  have wl : ∀ bs : List LW, (∀ b ∈ bs, lwM b ∈ L) → VwS L (bs.map lwD) ((bs.map LW.w).map wiD) := fun bs => by
    induction bs with
    | nil => exact fun _ => .nil
    | cons b r ih =>
      intro hb
      exact .cons (.tup (.cons .same (.cons (.lst (hb b List.mem_cons_self) (VwS.same _)) .nil))) (ih fun c hc => hb c (List.mem_cons_of_mem _ hc))
  have rl : ∀ ys : List LR, (∀ x ∈ ys, ∀ e ∈ wsM x.a x.bs, e ∈ L) → VwS L (ys.map lrD) ((ys.map LR.rw).map rwD) := fun ys => by
    induction ys with
    | nil => exact fun _ => .nil
    | cons y r ih =>
      intro hy
      refine .cons (.tup (.cons .same (.cons .same (.cons (.lst (hy y List.mem_cons_self _ List.mem_cons_self) (wl y.bs fun b hb => hy y List.mem_cons_self _ (List.mem_cons_of_mem _ (List.mem_reverse.mpr (List.mem_map_of_mem hb))))) .nil)))) (ih fun c hc => hy c (List.mem_cons_of_mem _ hc))
  rw [h.is]
  refine .tup (.cons (.lst h.mn (VwS.same _)) (.cons (.lst h.mp (VwS.same _)) (.cons (.lst h.mq ?_) .nil)))
  rw [← h.rs]
  exact rl xs h.mr
theorem look_b2 {x pa : Addr} {ys zs : List D} {m : MS} (ne : x ≠ pa) (hz : nofld zs = true) : look ((x, ys) :: (pa, zs) :: m) pa = some zs := by
  rw [look, if_neg ne]
  exact look_new (hy := hz)
theorem put_b2 {x pa : Addr} {ys zs ws : List D} {m : MS} (ne : x ≠ pa) : put ((x, ys) :: (pa, zs) :: m) pa ws = (x, ys) :: (pa, ws) :: m := by
  rw [put, if_neg ne, put_new]
theorem lookU_2 {x pa : Addr} {ys zs : List D} {m : MS} (ne : pa ≠ x) : lookU ((pa, ys) :: (x, zs) :: m) x = some zs := by
  rw [lookU, if_neg ne]
  exact lookU_new0
theorem putU_2 {x pa : Addr} {ys zs ws : List D} {m : MS} (ne : pa ≠ x) : put ((pa, ys) :: (x, zs) :: m) x ws = (pa, ys) :: (x, ws) :: m := by
  rw [put, if_neg ne, put_new]
theorem pgs_nofld (gs : List Pg) : nofld (gs.map pgD) = true := nofld_map _ (fun _ => rfl) _
theorem len_p_Bench___init__ : ∀ ds ms Q, sp_p_Bench___init__ ds ms Q → ds.length = 2 := fun ds ms Q h => by
  unfold sp_p_Bench___init__ at h
  split at h <;> first | rfl | exact h.elim
def t_p_Bench___init__ : DTS := dSeq (dDrop (dHide (dView 1 (dCall 1 0 [0] sp_p_look_at (aCons (dVar 1) (aNil)) (aNil))))) (dSeq (dSetF "Bench" "plan" (dViewE (dHide (dView 1 (dCall 1 0 [0] sp_p_copied (aCons (dVar 1) (aNil)) (aNil))))) (dVar 0)) (dSeq (dSetF "Bench" "past" (dLstM (aNil)) (dVar 0)) (dSetF "Bench" "paper" (dC .non) (dVar 0))))
theorem sem_p_Bench___init__ : ∀ ds ms Q, sp_p_Bench___init__ ds ms Q → t_p_Bench___init__ { nx := fun _ m => Q .non m, rt := Q } (startD 2 ds) ms := by
  intro ds ms Q h
  unfold sp_p_Bench___init__ at h
  split at h
  · rename_i x t
    obtain ⟨dx, g, B, L, n, p, q, xs, m, rfl, ok, pl, fm, h⟩ := h
    simp only [startD]
    unfold t_p_Bench___init__
    walk_at "st"
    refine ExG.out (w_hide [(x, [.fld "Bench" dx []])] (L ++ m) (.refl _) ?_)
    refine ExG.out (w_view L m rfl rfl (vw_pg pl) rfl ?_)
    walk_at "st"
    refine ⟨g, B, rfl, ok, ?_⟩
    refine ⟨rfl, fm, _, .refl _, ?_⟩
    walk_at "st"
    refine ExG.out (w_hide [(x, [.fld "Bench" dx []])] (L ++ m) (.refl _) ?_)
    refine ExG.out (w_view L m rfl rfl (vw_pg pl) rfl ?_)
    walk_at "st"
    refine ⟨g, B, rfl, ok, fun t2 L2 n2 p2 q2 xs2 pl2 f2 => ?_⟩
    have pm : (L ++ (L2 ++ m)).Perm (L2 ++ (L ++ m)) := by
      rw [← List.append_assoc, ← List.append_assoc]
      exact List.perm_append_comm.append_right m
    refine ⟨by rw [pl2.is]; rfl, flatM_app pl2.fl fm, L2 ++ (x, [.fld "Bench" dx []]) :: (L ++ m), (pm.cons _).trans List.perm_middle.symm, L2, _, _, rfl, vw_pg pl2, ?_⟩
    walk_at "st"
    intro pa hpa
    have ne : x ≠ pa := hpa _ List.mem_cons_self
    walk_at "st"
    refine w_mSetF (lookU_2 ne.symm) (by decide) rfl (by simp (decide := true) only [putN, if_true, if_false]; rfl) (by simp (decide := true) only [putV, if_true, if_false]; rfl) (putU_2 ne.symm) ?_
    walk_at "st"
    refine w_mSetF (lookU_2 ne.symm) (by decide) rfl (by simp (decide := true) only [putN, if_true, if_false]; rfl) (by simp (decide := true) only [putV, if_true, if_false]; rfl) (putU_2 ne.symm) ?_
    walk_at "st"
    refine h pa fun e he => ?_
    rcases List.mem_cons.mp he with rfl | he
    · exact ne
    · exact hpa e (List.mem_cons_of_mem _ he)
  · exact h.elim
theorem ok_p_Bench___init__ (T : Tx P K mg) : FnG P w K mg base 9 T.f_p_Bench___init__ T.d_p_Bench___init__ ["self", "program"] (spD K sp_p_Bench___init__) := by
  have G_p_look_at := ok_p_look_at (P := P) (w := w) (base := base) T
  have G_p_copied := ok_p_copied (P := P) (w := w) (base := base) T
  exact fnG_of (k := 8) (t := t_p_Bench___init__) T.F_p_Bench___init__ sc_p_Bench___init__ len_p_Bench___init__
    (fun cdv A outer s H hr => pds_cons (pds_expr (pd_hide (pd_view (i := 1) (pd_call G_p_look_at (hr.mono (by decide)) rfl T.g_p_look_at T.F_p_look_at.kp T.b_p_look_at_1 (pda_cons (pd_var 1) (pda_nil)))))) (pds_cons (pds_setF T.C_Bench_plan (pd_var 0) (pd_viewE (pd_hide (pd_view (i := 1) (pd_call G_p_copied (hr.mono (by decide)) rfl T.g_p_copied T.F_p_copied.kp T.b_p_copied_1 (pda_cons (pd_var 1) (pda_nil))))))) (pds_cons (pds_setF T.C_Bench_past (pd_var 0) (pd_lstM (pda_nil))) (pds_one (pds_setF T.C_Bench_paper (pd_var 0) (pd_non))))))
    sem_p_Bench___init__
def sp_p_Bench_set_rows : FS := fun ds ms P => match ds with
  | [.opq (.ref x), .lst rows, .non] => ∃ (dx pa : Addr) (g : Pg) (gs : List Pg) (rs : List Rw) (m : MS), ms = bnM x dx pa g gs ++ m ∧ x ≠ pa ∧ rows = rs.map rwD ∧ gs.length < 1000 ∧ P .non (bnM x dx pa ⟨g.nm, g.pm, rs⟩ (gs ++ [g]) ++ m)
  | _ => False
theorem len_p_Bench_set_rows : ∀ ds ms Q, sp_p_Bench_set_rows ds ms Q → ds.length = 3 := fun ds ms Q h => by
  unfold sp_p_Bench_set_rows at h
  split at h <;> first | rfl | exact h.elim
def t_p_Bench_set_rows : DTS := dSeq (dAsg (dGetF "Bench" "plan" (dVar 0)) (sTup 3 (sCons (sName 3) (sCons (sName 4) (sCons (sName 5) (sNil)))))) (dSeq (dDrop (dAppend (dGetF "Bench" "past" (dVar 0)) (aCons (dGetF "Bench" "plan" (dVar 0)) (aNil)))) (dSeq (dSetF "Bench" "plan" (dTup (aCons (dVar 3) (aCons (dVar 4) (aCons (dVar 1) (aNil))))) (dVar 0)) (dSetF "Bench" "paper" (dVar 2) (dVar 0))))
theorem sem_p_Bench_set_rows : ∀ ds ms Q, sp_p_Bench_set_rows ds ms Q → t_p_Bench_set_rows { nx := fun _ m => Q .non m, rt := Q } (startD 6 ds) ms := by
  intro ds ms Q h
  unfold sp_p_Bench_set_rows at h
  split at h
  · rename_i x rows
    obtain ⟨dx, pa, g, gs, rs, m, rfl, ne, rfl, hl, h⟩ := h
    simp only [bnM, List.map_append, List.map_cons, List.map_nil] at h ⊢
    have hn := pgs_nofld gs
    have hl2 : (gs.map pgD).length < 1000 := by rw [List.length_map]; exact hl
    generalize gs.map pgD = ps at h hn hl2 ⊢
    simp only [startD]
    unfold t_p_Bench_set_rows bnO pgD
    simp only [List.cons_append, List.nil_append]
    walk_at "st"
    refine w_mApp (look_b2 ne hn) ?_
    walk_at "st"
    refine w_mApp2 (look_b2 ne hn) (put_b2 ne) ⟨by rw [sizeLine_eq]; omega, ?_⟩
    walk_at "st"
    exact h
  · exact h.elim
theorem ok_p_Bench_set_rows (T : Tx P K mg) : FnG P w K mg base 1 T.f_p_Bench_set_rows T.d_p_Bench_set_rows ["self", "rows", "paper"] (spD K sp_p_Bench_set_rows) := by
  exact fnG_of (k := 0) (t := t_p_Bench_set_rows) T.F_p_Bench_set_rows sc_p_Bench_set_rows len_p_Bench_set_rows
    (fun cdv A outer s H hr => pds_cons (pds_asg (vs := [3, 4, 5]) (pd_getF T.C_Bench_plan (pd_var 0)) (pg_tup rfl (pgs_cons (pg_name (i := 3) sc_p_Bench_set_rows.nd rfl (.inl rfl)) (pgs_cons (pg_name (i := 4) sc_p_Bench_set_rows.nd rfl (.inl rfl)) (pgs_cons (pg_name (i := 5) sc_p_Bench_set_rows.nd rfl (.inl rfl)) (pgs_nil))))) (tg_tup (tgs_cons (tg_name (i := 3) (by decide)) (tgs_cons (tg_name (i := 4) (by decide)) (tgs_cons (tg_name (i := 5) (by decide)) (tgs_nil) (mon_name (i := 5))) (mon_name (i := 4))) (mon_name (i := 3))))) (pds_cons (pds_expr (pd_append (pd_getF T.C_Bench_past (pd_var 0)) (pda_cons (pd_getF T.C_Bench_plan (pd_var 0)) (pda_nil)))) (pds_cons (pds_setF T.C_Bench_plan (pd_var 0) (pd_tup (pda_cons (pd_var 3) (pda_cons (pd_var 4) (pda_cons (pd_var 1) (pda_nil)))))) (pds_one (pds_setF T.C_Bench_paper (pd_var 0) (pd_var 2))))))
    sem_p_Bench_set_rows
theorem pm_swap (A B m : MS) : (A ++ (B ++ m)).Perm (B ++ (A ++ m)) := by
  rw [← List.append_assoc, ← List.append_assoc]
  exact List.perm_append_comm.append_right m
/-- a row told anew is seen as that row -/
theorem vw_lr {y : LR} {L : MS} (h : ∀ e ∈ wsM y.a y.bs, e ∈ L) : Vw L (lrD y) (rwD y.rw) := by
  have wl : ∀ bs : List LW, (∀ b ∈ bs, lwM b ∈ L) → VwS L (bs.map lwD) ((bs.map LW.w).map wiD) := fun bs => by
    induction bs with
    | nil => exact fun _ => .nil
    | cons b r ih =>
      intro hb
      exact .cons (.tup (.cons .same (.cons (.lst (hb b List.mem_cons_self) (VwS.same _)) .nil))) (ih fun c hc => hb c (List.mem_cons_of_mem _ hc))
  exact .tup (.cons .same (.cons .same (.cons (.lst (h _ List.mem_cons_self) (wl y.bs fun b hb => h _ (List.mem_cons_of_mem _ (List.mem_reverse.mpr (List.mem_map_of_mem hb))))) .nil)))
theorem vw_lrs {q : Addr} {xs : List LR} {L : MS} (hq : (q, xs.map lrD) ∈ L) (h : ∀ e ∈ rsN xs, e ∈ L) : Vw L (.opq (.ref q)) (.lst ((xs.map LR.rw).map rwD)) := by
  have rl : ∀ ys : List LR, (∀ x ∈ ys, ∀ e ∈ wsM x.a x.bs, e ∈ L) → VwS L (ys.map lrD) ((ys.map LR.rw).map rwD) := fun ys => by
    induction ys with
    | nil => exact fun _ => .nil
    | cons y r ih =>
      intro hy
      exact .cons (vw_lr (hy y List.mem_cons_self)) (ih fun c hc => hy c (List.mem_cons_of_mem _ hc))
  exact .lst hq (rl xs fun x hx e he => h e (rsN_mem hx e he))
/-- with a row more -/
def rowOn (g : Pg) (r : Rw) : Pg := ⟨g.nm, g.pm, g.rs ++ [r]⟩
def sx_p_Bench_put : FX := fun ds ms P Z => match ds with
  | [.opq (.ref x), t] => ∃ (dx pa : Addr) (g : Pg) (gs : List Pg) (B B2 : Nat) (y : LR) (m : MS), t = lrD y ∧ ms = bnM x dx pa g gs ++ (wsM y.a y.bs ++ m) ∧ x ≠ pa ∧ PgOk B g ∧ RwOk B2 g.nm.length g.pm.length y.rw ∧ flatM m ∧ gs.length < 1000 ∧
      (g.rs.length = 10 → Z "Full" [] [] ms) ∧ (g.rs.length < 10 → P (.int g.rs.length) (bnM x dx pa (rowOn g y.rw) (gs ++ [g]) ++ (wsM y.a y.bs ++ m)))
  | _ => False
def sp_p_Bench_put : FS := fun ds ms P => sx_p_Bench_put ds ms P fun _ _ _ _ => False
theorem pl_p_Bench_put : ∀ ds ms P, sp_p_Bench_put ds ms P → sx_p_Bench_put ds ms P fun _ _ _ _ => False := fun _ _ _ h => h
theorem len_p_Bench_put : ∀ ds ms Q Z, sx_p_Bench_put ds ms Q Z → ds.length = 2 := fun ds ms Q Z h => by
  unfold sx_p_Bench_put at h
  split at h <;> first | rfl | exact h.elim
def t_p_Bench_put : DTS := dSeq (dAsg (dGetF "Bench" "plan" (dVar 0)) (sTup 3 (sCons (sName 2) (sCons (sName 3) (sCons (sName 4) (sNil)))))) (dSeq (dIfS (dNot (dTest (dHide (dView 1 (dCall 3 0 [0, 1, 2] sp_p_is_row (aCons (dCB cLen (aCons (dVar 2) (aNil))) (aCons (dCB cLen (aCons (dVar 3) (aNil))) (aCons (dVar 1) (aNil)))) (aNil)))))) (dRaiseI "NoRow" ["row"] (aCons (dC .non) (aNil))) (dNext)) (dSeq (dIfS (dTest (dOp fEq (dCB cLen (aCons (dVar 4) (aNil))) (dC (.int 10)))) (dRaise "Full") (dNext)) (dSeq (dAsg (dAndV (dOp fNotIs (dGetF "Bench" "paper" (dVar 0)) (dC .non)) (dOp fEq (dOp fIx (dGetF "Bench" "paper" (dVar 0)) (dC (.int 0))) (dC (.str "left")))) (sName 5)) (dSeq (dDrop (dMeth "Bench" "set_rows" 2 0 [0, 1, 2] sp_p_Bench_set_rows (dVar 0) (aCons (dOp fAdd (dVar 4) (dViewE (dHide (dView 1 (dCall 1 0 [0] sp_p_copied_rows (aCons (dLst (aCons (dVar 1) (aNil))) (aNil)) (aNil)))))) (aCons (dIf (dTru (dVar 5)) (dGetF "Bench" "paper" (dVar 0)) (dC .non)) (aNil))) (aNil))) (dRet (dCB cLen (aCons (dVar 4) (aNil))))))))
theorem sem_p_Bench_put : ∀ ds ms Q Z, sx_p_Bench_put ds ms Q Z → t_p_Bench_put { nx := fun _ m => Q .non m, rt := Q, ex := fun c ns xs _ m => Z c ns xs m } (startD 6 ds) ms := by
  intro ds ms Q Z h
  unfold sx_p_Bench_put at h
  split at h
  · rename_i x t
    obtain ⟨dx, pa, g, gs, B, B2, y, m, rfl, rfl, ne, ok, ro, fm, gl, h1, h2⟩ := h
    simp only [startD]
    unfold t_p_Bench_put
    simp only [bnM, List.cons_append, List.nil_append] at h1 h2 ⊢
    have vw : Vw (wsM y.a y.bs) (lrD y) (rwD y.rw) := vw_lr fun _ h => h
    unfold bnO
    rw [show pgD g = .tup [.lst (g.nm.map D.str), .lst (g.pm.map D.str), .lst (g.rs.map rwD)] from rfl]
    walk_at "st"
    refine ExG.out (w_hide [_, _] (wsM y.a y.bs ++ m) (.refl _) ?_)
    refine ExG.out (w_view (wsM y.a y.bs) m rfl rfl vw rfl ?_)
    walk_at "st"
    refine ⟨y.rw, B2, g.nm.length, g.pm.length, rfl, by rw [List.length_map], by rw [List.length_map], ok.nm.l2, ro, rfl, fm, _, .refl _, ?_⟩
    walk_at "st"
    by_cases e : g.rs.length = 10
    · refine w_iteT (by rw [List.length_map, e]; rfl) ?_
      walk_at "st"
      exact h1 e
    · have hl : g.rs.length < 10 := by have := ok.rl; omega
      refine w_iteF (by rw [List.length_map]; simp; omega) ?_
      walk_at "st"
      refine ExG.out (w_hide [_, _] (wsM y.a y.bs ++ m) (.refl _) ?_)
      refine ExG.out (w_view (wsM y.a y.bs) m rfl rfl vw rfl ?_)
      walk_at "st"
      refine ⟨[y.rw], rfl, by simp, fun r hr => ?_, fun q xs e f => ?_⟩
      · rw [List.mem_singleton.mp hr]
        exact Nat.le_trans ro.wl (by decide)
      refine ⟨rfl, flatM_app (rsM_flat q xs) fm, rsM q xs ++ (bnM x dx pa g gs ++ (wsM y.a y.bs ++ m)), ?_, rsM q xs, bnM x dx pa g gs ++ (wsM y.a y.bs ++ m), _, rfl, vw_lrs List.mem_cons_self fun e he => List.mem_cons_of_mem _ he, ?_⟩
      · exact ((pm_swap (wsM y.a y.bs) (rsM q xs) m).append_left (bnM x dx pa g gs)).trans (pm_swap ..)
      simp only [bnM, List.cons_append, List.nil_append]
      unfold bnO
      rw [e]
      walk_at "st"
      refine ⟨by rw [List.length_map, List.length_map]; exact size_ok (by simp; omega), ?_⟩
      walk_at "st"
      refine ⟨dx, pa, g, gs, g.rs ++ [y.rw], _, rfl, ne, by rw [List.map_append], gl, ?_⟩
      walk_at "st"
      rw [List.length_map]
      exact h2 hl
  · exact h.elim
theorem okx_p_Bench_put (T : Tx P K mg) : FnX P w K mg base 7 T.f_p_Bench_put T.d_p_Bench_put ["self", "row"] (spX K sx_p_Bench_put) := by
  have G_p_Bench_set_rows := ok_p_Bench_set_rows (P := P) (w := w) (base := base) T
  have G_p_is_row := ok_p_is_row (P := P) (w := w) (base := base) T
  have G_p_copied_rows := ok_p_copied_rows (P := P) (w := w) (base := base) T
  exact fnX_of (k := 6) (t := t_p_Bench_put) T.F_p_Bench_put sc_p_Bench_put len_p_Bench_put
    (fun cdv A outer s H E hr W tk => px_cons (px_of (pds_asg (vs := [2, 3, 4]) (pd_getF T.C_Bench_plan (pd_var 0)) (pg_tup rfl (pgs_cons (pg_name (i := 2) sc_p_Bench_put.nd rfl (.inl rfl)) (pgs_cons (pg_name (i := 3) sc_p_Bench_put.nd rfl (.inl rfl)) (pgs_cons (pg_name (i := 4) sc_p_Bench_put.nd rfl (.inl rfl)) (pgs_nil))))) (tg_tup (tgs_cons (tg_name (i := 2) (by decide)) (tgs_cons (tg_name (i := 3) (by decide)) (tgs_cons (tg_name (i := 4) (by decide)) (tgs_nil) (mon_name (i := 4))) (mon_name (i := 3))) (mon_name (i := 2)))))) (px_cons (px_if (pdt_not (pdt_val (pd_hide (pd_view (i := 1) (pd_call G_p_is_row (hr.mono (by decide)) rfl T.g_p_is_row T.F_p_is_row.kp T.b_p_is_row_3 (pda_cons (pd_callB call_len cal_len rfl T.n_len (by decide +kernel) (pda_cons (pd_var 2) (pda_nil))) (pda_cons (pd_callB call_len cal_len rfl T.n_len (by decide +kernel) (pda_cons (pd_var 3) (pda_nil))) (pda_cons (pd_var 1) (pda_nil))))))))) (px_one (px_raiseI rfl tk (xb_of PySem.F.excBase_IndexError) PySem.F.store_IndexError PySem.W.kxs_IndexError T.i_NoRow T.j_NoRow hr rfl T.gx_NoRow (pda_cons (pd_non) (pda_nil)))) (px_nil)) (px_cons (px_if (pdt_cmp (op_eqF hr.r.units) opd_eq (pd_callB call_len cal_len rfl T.n_len (by decide +kernel) (pda_cons (pd_var 4) (pda_nil))) (pd_glob (v := .int (10)) rfl T.c_MOST_ROWS ⟨_, rfl⟩ (fun _ => .int _))) (px_one (px_raiseF rfl tk PySem.F.excBase_OverflowError T.q_Full T.gx_Full rfl)) (px_nil)) (px_cons (px_of (pds_set (i := 5) sc_p_Bench_put.nd rfl (.inl rfl) (pd_and (pd_cmp op_notIsD opd_notIs (pd_getF T.C_Bench_paper (pd_var 0)) (pd_non)) (pd_one (pd_cmp (op_eqF hr.r.units) opd_eq (pd_ix ix_seq opd_ix (pd_getF T.C_Bench_paper (pd_var 0)) (pd_int)) (pd_glob (v := .str "left") rfl T.c_LEFT ⟨_, rfl⟩ (fun _ => .str _))))))) (px_cons (px_of (pds_expr (pd_meth T.K_p_Bench_set_rows G_p_Bench_set_rows (hr.mono (by decide)) T.b_p_Bench_set_rows_3 (pd_var 0) (pda_cons (pd_op op_addD opd_add (pd_var 4) (pd_viewE (pd_hide (pd_view (i := 1) (pd_call G_p_copied_rows (hr.mono (by decide)) rfl T.g_p_copied_rows T.F_p_copied_rows.kp T.b_p_copied_rows_1 (pda_cons (pd_lst (pda_cons (pd_var 1) (pda_nil))) (pda_nil))))))) (pda_cons (pd_ifExp (pdt_tru (pd_var 5)) (pd_getF T.C_Bench_paper (pd_var 0)) (pd_non)) (pda_nil)))))) (px_one (px_of (pds_ret (pd_callB call_len cal_len rfl T.n_len (by decide +kernel) (pda_cons (pd_var 4) (pda_nil)))))))))))
    sem_p_Bench_put
theorem ok_p_Bench_put (T : Tx P K mg) : FnG P w K mg base 7 T.f_p_Bench_put T.d_p_Bench_put ["self", "row"] (spD K sp_p_Bench_put) := (okx_p_Bench_put T).plain pl_p_Bench_put
def rowOff (g : Pg) (k : Nat) : Pg := ⟨g.nm, g.pm, g.rs.take k ++ g.rs.drop (k + 1)⟩
def sp_p_Bench_take : FS := fun ds ms P => match ds with
  | [.opq (.ref x), .int i] => ∃ (dx pa : Addr) (g : Pg) (gs : List Pg) (B k : Nat) (m : MS), ms = bnM x dx pa g gs ++ m ∧ x ≠ pa ∧ PgOk B g ∧ i = k ∧ k < g.rs.length ∧ gs.length < 1000 ∧
      ∀ q y, y.rw = g.rs.getD k ⟨0, 0, []⟩ → Frsh (rsM q [y]) (bnM x dx pa (rowOff g k) (gs ++ [g]) ++ m) → P (lrD y) (rsM q [y] ++ (bnM x dx pa (rowOff g k) (gs ++ [g]) ++ m))
  | _ => False
theorem len_p_Bench_take : ∀ ds ms Q, sp_p_Bench_take ds ms Q → ds.length = 2 := fun ds ms Q h => by
  unfold sp_p_Bench_take at h
  split at h <;> first | rfl | exact h.elim
def t_p_Bench_take : DTS := dSeq (dDrop (dCall 2 0 [0, 1] sp_p_look_at_number (aCons (dGetF "Bench" "plan" (dVar 0)) (aCons (dVar 1) (aNil))) (aNil))) (dSeq (dAsg (dGetF "Bench" "plan" (dVar 0)) (sTup 3 (sCons (sName 2) (sCons (sName 3) (sCons (sName 4) (sNil)))))) (dSeq (dAsg (dIf (dTest (dOp fIs (dGetF "Bench" "paper" (dVar 0)) (dC .non))) (dC .non) (dNo)) (sName 5)) (dSeq (dDrop (dMeth "Bench" "set_rows" 2 0 [0, 1, 2] sp_p_Bench_set_rows (dVar 0) (aCons (dOp fAdd (dSl (dVar 4) (oNone) (oSome (dVar 1))) (dSl (dVar 4) (oSome (dOp fAdd (dVar 1) (dC (.int 1)))) (oNone))) (aCons (dVar 5) (aNil))) (aNil))) (dRet (dOp fIx (dCall 1 0 [0] sp_p_copied_rows (aCons (dLst (aCons (dOp fIx (dVar 4) (dVar 1)) (aNil))) (aNil)) (aNil)) (dC (.int 0)))))))
theorem sem_p_Bench_take : ∀ ds ms Q, sp_p_Bench_take ds ms Q → t_p_Bench_take { nx := fun _ m => Q .non m, rt := Q } (startD 6 ds) ms := by
  intro ds ms Q h
  unfold sp_p_Bench_take at h
  split at h
  · rename_i x i
    obtain ⟨dx, pa, g, gs, B, k, m, rfl, ne, ok, rfl, hk, hl, h⟩ := h
    simp only [startD]
    unfold t_p_Bench_take
    simp only [bnM, List.cons_append, List.nil_append]
    unfold bnO
    walk_at "st"
    refine ⟨⟨_, rfl⟩, by unfold isAt; simp only [Bool.and_eq_true, decide_eq_true_eq, List.length_map]; omega, ?_⟩
    walk_at "st"
    rw [show pgD g = .tup [.lst (g.nm.map D.str), .lst (g.pm.map D.str), .lst (g.rs.map rwD)] from rfl]
    walk_at "st"
    have rl := ok.rl
    rw [show ((k : Int) + 1) = ((k + 1 : Nat) : Int) from rfl, cutL_to _ _ (Int.natCast_nonneg k), cutL_from _ _ (Int.natCast_nonneg (k + 1)), Int.toNat_natCast, Int.toNat_natCast]
    refine ⟨by rw [sizeLine_eq, List.length_take, List.length_drop, List.length_map]; omega, ?_⟩
    walk_at "st"
    refine ⟨dx, pa, g, gs, (rowOff g k).rs, m, rfl, ne, by rw [← List.map_take, ← List.map_drop, ← List.map_append]; rfl, hl, ?_⟩
    walk_at "st"
    refine w_ix_l (d := rwD (g.rs.getD k ⟨0, 0, []⟩)) (atI_nat (by rw [List.getElem?_map, List.getD_eq_getElem?_getD, List.getElem?_eq_getElem hk]; rfl)) ?_
    walk_at "st"
    refine ⟨[g.rs.getD k ⟨0, 0, []⟩], rfl, by simp, fun r hr => ?_, fun q xs e f => ?_⟩
    · rw [List.mem_singleton.mp hr, List.getD_eq_getElem?_getD, List.getElem?_eq_getElem hk]
      have := (ok.ro _ (List.getElem_mem hk)).wl
      exact Nat.le_trans this (by decide)
    obtain ⟨y, rfl⟩ : ∃ y, xs = [y] := List.length_eq_one_iff.mp (by have := congrArg List.length e; rwa [List.length_map] at this)
    have e : y.rw = g.rs.getD k ⟨0, 0, []⟩ := by injection e
    have h := h q y e f
    unfold rsM at h ⊢
    simp only [List.map_cons, List.map_nil, List.cons_append] at h ⊢
    walk_at "st"
    refine w_ix_o look_new (d := lrD y) rfl ?_
    walk_at "st"
    exact h
  · exact h.elim
theorem ok_p_Bench_take (T : Tx P K mg) : FnG P w K mg base 4 T.f_p_Bench_take T.d_p_Bench_take ["self", "number"] (spD K sp_p_Bench_take) := by
  have G_p_Bench_set_rows := ok_p_Bench_set_rows (P := P) (w := w) (base := base) T
  have G_p_look_at_number := ok_p_look_at_number (P := P) (w := w) (base := base) T
  have G_p_copied_rows := ok_p_copied_rows (P := P) (w := w) (base := base) T
  exact fnG_of (k := 3) (t := t_p_Bench_take) T.F_p_Bench_take sc_p_Bench_take len_p_Bench_take
    (fun cdv A outer s H hr => pds_cons (pds_expr (pd_call G_p_look_at_number (hr.mono (by decide)) rfl T.g_p_look_at_number T.F_p_look_at_number.kp T.b_p_look_at_number_2 (pda_cons (pd_getF T.C_Bench_plan (pd_var 0)) (pda_cons (pd_var 1) (pda_nil))))) (pds_cons (pds_asg (vs := [2, 3, 4]) (pd_getF T.C_Bench_plan (pd_var 0)) (pg_tup rfl (pgs_cons (pg_name (i := 2) sc_p_Bench_take.nd rfl (.inl rfl)) (pgs_cons (pg_name (i := 3) sc_p_Bench_take.nd rfl (.inl rfl)) (pgs_cons (pg_name (i := 4) sc_p_Bench_take.nd rfl (.inl rfl)) (pgs_nil))))) (tg_tup (tgs_cons (tg_name (i := 2) (by decide)) (tgs_cons (tg_name (i := 3) (by decide)) (tgs_cons (tg_name (i := 4) (by decide)) (tgs_nil) (mon_name (i := 4))) (mon_name (i := 3))) (mon_name (i := 2))))) (pds_cons (pds_set (i := 5) sc_p_Bench_take.nd rfl (.inl rfl) (pd_ifExp (pdt_cmp op_isD opd_is (pd_getF T.C_Bench_paper (pd_var 0)) (pd_non)) (pd_non) (pd_no))) (pds_cons (pds_expr (pd_meth T.K_p_Bench_set_rows G_p_Bench_set_rows (hr.mono (by decide)) T.b_p_Bench_set_rows_3 (pd_var 0) (pda_cons (pd_op op_addD opd_add (pd_slice (pd_var 4) (pdo_none) (pdo_some (pd_var 1))) (pd_slice (pd_var 4) (pdo_some (pd_op op_addD opd_add (pd_var 1) (pd_int))) (pdo_none))) (pda_cons (pd_var 5) (pda_nil))))) (pds_one (pds_ret (pd_ix ix_seq opd_ix (pd_call G_p_copied_rows (hr.mono (by decide)) rfl T.g_p_copied_rows T.F_p_copied_rows.kp T.b_p_copied_rows_1 (pda_cons (pd_lst (pda_cons (pd_ix ix_seq opd_ix (pd_var 4) (pd_var 1)) (pda_nil))) (pda_nil))) (pd_int))))))))
    sem_p_Bench_take
/-- with other wishes of a row -/
def rowNew (g : Pg) (k : Nat) (ws : List Wi) : Pg := ⟨g.nm, g.pm, g.rs.take k ++ ⟨(g.rs.getD k ⟨0, 0, []⟩).s, (g.rs.getD k ⟨0, 0, []⟩).t, ws⟩ :: g.rs.drop (k + 1)⟩
theorem vw_ws {q : Addr} {bs : List LW} {L : MS} (h : ∀ e ∈ wsM q bs, e ∈ L) : Vw L (.opq (.ref q)) (.lst ((bs.map LW.w).map wiD)) := by
  have wl : ∀ cs : List LW, (∀ b ∈ cs, lwM b ∈ L) → VwS L (cs.map lwD) ((cs.map LW.w).map wiD) := fun cs => by
    induction cs with
    | nil => exact fun _ => .nil
    | cons b r ih =>
      intro hb
      exact .cons (.tup (.cons .same (.cons (.lst (hb b List.mem_cons_self) (VwS.same _)) .nil))) (ih fun c hc => hb c (List.mem_cons_of_mem _ hc))
  exact .lst (h _ List.mem_cons_self) (wl bs fun b hb => h _ (List.mem_cons_of_mem _ (List.mem_reverse.mpr (List.mem_map_of_mem hb))))
def sp_p_Bench_change : FS := fun ds ms P => match ds with
  | [.opq (.ref x), .int i, .opq (.ref q)] => ∃ (dx pa : Addr) (g : Pg) (gs : List Pg) (B B2 k : Nat) (bs : List LW) (m : MS), ms = bnM x dx pa g gs ++ (wsM q bs ++ m) ∧ x ≠ pa ∧ PgOk B g ∧ i = k ∧ k < g.rs.length ∧ (∀ b ∈ bs, WiOk B2 (2 * g.nm.length) b.w) ∧ bs.length ≤ 12 ∧ flatM m ∧ gs.length < 1000 ∧
      P .non (bnM x dx pa (rowNew g k (bs.map LW.w)) (gs ++ [g]) ++ (wsM q bs ++ m))
  | _ => False
theorem len_p_Bench_change : ∀ ds ms Q, sp_p_Bench_change ds ms Q → ds.length = 3 := fun ds ms Q h => by
  unfold sp_p_Bench_change at h
  split at h <;> first | rfl | exact h.elim
def t_p_Bench_change : DTS := dSeq (dDrop (dCall 2 0 [0, 1] sp_p_look_at_number (aCons (dGetF "Bench" "plan" (dVar 0)) (aCons (dVar 1) (aNil))) (aNil))) (dSeq (dAsg (dGetF "Bench" "plan" (dVar 0)) (sTup 3 (sCons (sName 3) (sCons (sName 4) (sCons (sName 5) (sNil)))))) (dSeq (dIfS (dNot (dTest (dHide (dView 2 (dCall 2 0 [0, 1] sp_p_is_wishes (aCons (dOp fMul (dC (.int 2)) (dCB cLen (aCons (dVar 3) (aNil)))) (aCons (dVar 2) (aNil))) (aNil)))))) (dNever) (dNext)) (dSeq (dAsg (dOp fIx (dVar 5) (dVar 1)) (sTup 3 (sCons (sName 6) (sCons (sName 7) (sCons (sName 8) (sNil)))))) (dSeq (dAsg (dAndV (dOp fNotIs (dGetF "Bench" "paper" (dVar 0)) (dC .non)) (dNo)) (sName 9)) (dSeq (dAsg (dTup (aCons (dVar 6) (aCons (dVar 7) (aCons (dViewE (dHide (dView 2 (dCall 1 0 [0] sp_p_copied_wishes (aCons (dVar 2) (aNil)) (aNil))))) (aNil))))) (sName 10)) (dDrop (dMeth "Bench" "set_rows" 2 0 [0, 1, 2] sp_p_Bench_set_rows (dVar 0) (aCons (dLst (aStar (dSl (dVar 5) (oNone) (oSome (dVar 1))) (aCons (dVar 10) (aStar (dSl (dVar 5) (oSome (dOp fAdd (dVar 1) (dC (.int 1)))) (oNone)) (aNil))))) (aCons (dIf (dTru (dVar 9)) (dGetF "Bench" "paper" (dVar 0)) (dC .non)) (aNil))) (aNil))))))))
theorem sem_p_Bench_change : ∀ ds ms Q, sp_p_Bench_change ds ms Q → t_p_Bench_change { nx := fun _ m => Q .non m, rt := Q } (startD 11 ds) ms := by
  intro ds ms Q h
  unfold sp_p_Bench_change at h
  split at h
  · rename_i x i q
    obtain ⟨dx, pa, g, gs, B, B2, k, bs, m, rfl, ne, ok, rfl, hk, wo, bl, fm, gl, h⟩ := h
    simp only [startD]
    unfold t_p_Bench_change
    simp only [bnM, List.cons_append, List.nil_append] at h ⊢
    unfold bnO
    rw [show pgD g = .tup [.lst (g.nm.map D.str), .lst (g.pm.map D.str), .lst (g.rs.map rwD)] from rfl]
    walk_at "st"
    refine ⟨⟨_, rfl⟩, by unfold isAt; simp only [Bool.and_eq_true, decide_eq_true_eq, List.length_map]; omega, ?_⟩
    walk_at "st"
    have vw := vw_ws (q := q) (bs := bs) (L := wsM q bs) fun _ h => h
    refine ExG.out (w_hide [_, _] (wsM q bs ++ m) (.refl _) ?_)
    refine ExG.out (w_view (wsM q bs) m rfl rfl vw rfl ?_)
    walk_at "st"
    rw [List.length_map]
    have nl := ok.nm.l2
    refine ⟨.inr (.inr ⟨by omega, by omega⟩), ?_⟩
    walk_at "st"
    refine ⟨bs.map LW.w, B2, 2 * g.nm.length, rfl, by omega, by omega, by rw [List.length_map]; exact bl, fun w hw => ?_, rfl, fm, _, .refl _, ?_⟩
    · obtain ⟨b, hb, rfl⟩ := List.mem_map.mp hw
      exact wo b hb
    walk_at "st"
    have er : atI (g.rs.map rwD) (k : Int) = some (rwD (g.rs.getD k ⟨0, 0, []⟩)) := atI_nat (by rw [List.getElem?_map, List.getD_eq_getElem?_getD, List.getElem?_eq_getElem hk]; rfl)
    refine w_ix_l er ?_
    rw [show rwD (g.rs.getD k ⟨0, 0, []⟩) = .tup [.int (g.rs.getD k ⟨0, 0, []⟩).s, .int (g.rs.getD k ⟨0, 0, []⟩).t, .lst ((g.rs.getD k ⟨0, 0, []⟩).ws.map wiD)] from rfl]
    walk_at "st"
    refine ExG.out (w_hide [_, _] (wsM q bs ++ m) (.refl _) ?_)
    refine ExG.out (w_view (wsM q bs) m rfl rfl vw rfl ?_)
    walk_at "st"
    refine ⟨bs.map LW.w, rfl, by rw [List.length_map]; omega, fun q2 cs e f => ?_⟩
    refine ⟨rfl, flatM_app (wsM_flat q2 cs) fm, wsM q2 cs ++ (bnM x dx pa g gs ++ (wsM q bs ++ m)), ?_, wsM q2 cs, bnM x dx pa g gs ++ (wsM q bs ++ m), _, rfl, vw_ws fun _ h => h, ?_⟩
    · exact ((pm_swap (wsM q bs) (wsM q2 cs) m).append_left (bnM x dx pa g gs)).trans (pm_swap ..)
    simp only [bnM, List.cons_append, List.nil_append]
    unfold bnO
    rw [e]
    walk_at "st"
    have rl := ok.rl
    rw [show ((k : Int) + 1) = ((k + 1 : Nat) : Int) from rfl, cutL_to _ _ (Int.natCast_nonneg k), cutL_from _ _ (Int.natCast_nonneg (k + 1)), Int.toNat_natCast, Int.toNat_natCast]
    refine ⟨size_ok (by rw [List.length_append, List.length_cons, List.length_append, List.length_take, List.length_drop, List.length_map, List.length_nil]; omega), ?_⟩
    walk_at "st"
    refine ⟨dx, pa, g, gs, (rowNew g k (bs.map LW.w)).rs, _, rfl, ne, ?_, gl, ?_⟩
    · rw [← List.map_take, ← List.map_drop, List.append_nil]
      show _ = List.map rwD (_ ++ _ :: _)
      rw [List.map_append, List.map_cons]; rfl
    walk_at "st"
    exact h
  · exact h.elim
theorem ok_p_Bench_change (T : Tx P K mg) : FnG P w K mg base 6 T.f_p_Bench_change T.d_p_Bench_change ["self", "number", "wishes"] (spD K sp_p_Bench_change) := by
  have G_p_Bench_set_rows := ok_p_Bench_set_rows (P := P) (w := w) (base := base) T
  have G_p_look_at_number := ok_p_look_at_number (P := P) (w := w) (base := base) T
  have G_p_is_wishes := ok_p_is_wishes (P := P) (w := w) (base := base) T
  have G_p_copied_wishes := ok_p_copied_wishes (P := P) (w := w) (base := base) T
  exact fnG_of (k := 5) (t := t_p_Bench_change) T.F_p_Bench_change sc_p_Bench_change len_p_Bench_change
    (fun cdv A outer s H hr => pds_cons (pds_expr (pd_call G_p_look_at_number (hr.mono (by decide)) rfl T.g_p_look_at_number T.F_p_look_at_number.kp T.b_p_look_at_number_2 (pda_cons (pd_getF T.C_Bench_plan (pd_var 0)) (pda_cons (pd_var 1) (pda_nil))))) (pds_cons (pds_asg (vs := [3, 4, 5]) (pd_getF T.C_Bench_plan (pd_var 0)) (pg_tup rfl (pgs_cons (pg_name (i := 3) sc_p_Bench_change.nd rfl (.inl rfl)) (pgs_cons (pg_name (i := 4) sc_p_Bench_change.nd rfl (.inl rfl)) (pgs_cons (pg_name (i := 5) sc_p_Bench_change.nd rfl (.inl rfl)) (pgs_nil))))) (tg_tup (tgs_cons (tg_name (i := 3) (by decide)) (tgs_cons (tg_name (i := 4) (by decide)) (tgs_cons (tg_name (i := 5) (by decide)) (tgs_nil) (mon_name (i := 5))) (mon_name (i := 4))) (mon_name (i := 3))))) (pds_cons (pds_if (pdt_not (pdt_val (pd_hide (pd_view (i := 2) (pd_call G_p_is_wishes (hr.mono (by decide)) rfl T.g_p_is_wishes T.F_p_is_wishes.kp T.b_p_is_wishes_2 (pda_cons (pd_op op_mulA opd_mul (pd_int) (pd_callB call_len cal_len rfl T.n_len (by decide +kernel) (pda_cons (pd_var 3) (pda_nil)))) (pda_cons (pd_var 2) (pda_nil)))))))) (pds_one (pds_never)) (pds_nil)) (pds_cons (pds_asg (vs := [6, 7, 8]) (pd_ix ix_seq opd_ix (pd_var 5) (pd_var 1)) (pg_tup rfl (pgs_cons (pg_name (i := 6) sc_p_Bench_change.nd rfl (.inl rfl)) (pgs_cons (pg_name (i := 7) sc_p_Bench_change.nd rfl (.inl rfl)) (pgs_cons (pg_name (i := 8) sc_p_Bench_change.nd rfl (.inl rfl)) (pgs_nil))))) (tg_tup (tgs_cons (tg_name (i := 6) (by decide)) (tgs_cons (tg_name (i := 7) (by decide)) (tgs_cons (tg_name (i := 8) (by decide)) (tgs_nil) (mon_name (i := 8))) (mon_name (i := 7))) (mon_name (i := 6))))) (pds_cons (pds_set (i := 9) sc_p_Bench_change.nd rfl (.inl rfl) (pd_and (pd_cmp op_notIsD opd_notIs (pd_getF T.C_Bench_paper (pd_var 0)) (pd_non)) (pd_one (pd_no)))) (pds_cons (pds_set (i := 10) sc_p_Bench_change.nd rfl (.inl rfl) (pd_tup (pda_cons (pd_var 6) (pda_cons (pd_var 7) (pda_cons (pd_viewE (pd_hide (pd_view (i := 2) (pd_call G_p_copied_wishes (hr.mono (by decide)) rfl T.g_p_copied_wishes T.F_p_copied_wishes.kp T.b_p_copied_wishes_1 (pda_cons (pd_var 2) (pda_nil)))))) (pda_nil)))))) (pds_one (pds_expr (pd_meth T.K_p_Bench_set_rows G_p_Bench_set_rows (hr.mono (by decide)) T.b_p_Bench_set_rows_3 (pd_var 0) (pda_cons (pd_lst (pda_star (pd_slice (pd_var 5) (pdo_none) (pdo_some (pd_var 1))) (pda_cons (pd_var 10) (pda_star (pd_slice (pd_var 5) (pdo_some (pd_op op_addD opd_add (pd_var 1) (pd_int))) (pdo_none)) (pda_nil))))) (pda_cons (pd_ifExp (pdt_tru (pd_var 9)) (pd_getF T.C_Bench_paper (pd_var 0)) (pd_non)) (pda_nil))))))))))))
    sem_p_Bench_change
def sx_p_Bench_undo : FX := fun ds ms P Z => match ds with
  | [.opq (.ref x)] => ∃ (dx pa : Addr) (g : Pg) (gs : List Pg) (m : MS), ms = bnM x dx pa g gs ++ m ∧ x ≠ pa ∧ (gs = [] → Z "Bare" [] [] ms) ∧ ∀ hs h, gs = hs ++ [h] → P .non (bnM x dx pa h hs ++ m)
  | _ => False
def sp_p_Bench_undo : FS := fun ds ms P => sx_p_Bench_undo ds ms P fun _ _ _ _ => False
theorem pl_p_Bench_undo : ∀ ds ms P, sp_p_Bench_undo ds ms P → sx_p_Bench_undo ds ms P fun _ _ _ _ => False := fun _ _ _ h => h
theorem len_p_Bench_undo : ∀ ds ms Q Z, sx_p_Bench_undo ds ms Q Z → ds.length = 1 := fun ds ms Q Z h => by
  unfold sx_p_Bench_undo at h
  split at h <;> first | rfl | exact h.elim
def t_p_Bench_undo : DTS := dSeq (dIfS (dTest (dOp fEqE (dGetF "Bench" "past" (dVar 0)) (dLst (aNil)))) (dRaise "Bare") (dNext)) (dSeq (dSetF "Bench" "plan" (dPop (dGetF "Bench" "past" (dVar 0))) (dVar 0)) (dSetF "Bench" "paper" (dC .non) (dVar 0)))
theorem sem_p_Bench_undo : ∀ ds ms Q Z, sx_p_Bench_undo ds ms Q Z → t_p_Bench_undo { nx := fun _ m => Q .non m, rt := Q, ex := fun c ns xs _ m => Z c ns xs m } (startD 1 ds) ms := by
  intro ds ms Q Z h
  unfold sx_p_Bench_undo at h
  split at h
  · rename_i x
    obtain ⟨dx, pa, g, gs, m, rfl, ne, h1, h2⟩ := h
    simp only [startD]
    unfold t_p_Bench_undo
    rcases List.eq_nil_or_concat gs with rfl | ⟨hs, z, rfl⟩
    · simp only [bnM, bnO, List.cons_append, List.nil_append, List.map_nil] at h1 ⊢
      walk_at "st"
      refine w_eqE (look_b2 ne rfl) ?_
      walk_at "st"
      exact h1 trivial
    · have h2 := h2 hs z (List.concat_eq_append ..)
      rw [List.concat_eq_append] at *
      simp only [bnM, bnO, List.cons_append, List.nil_append, List.map_append, List.map_cons, List.map_nil] at h2 ⊢
      have hn := pgs_nofld hs
      generalize hs.map pgD = ps at h2 hn ⊢
      have hn2 : nofld (ps ++ [pgD z]) = true := nofld_app hn rfl
      walk_at "st"
      refine w_eqE (look_b2 ne hn2) ?_
      walk_at "st"
      refine w_iteF (by simp) ?_
      walk_at "st"
      refine ExG.out (w_pop ?_)
      walk_at "st"
      refine w_mPop (d := pgD z) (look_b2 ne hn2) (by simp) (by rw [put_b2 ne, List.dropLast_concat]) ?_
      walk_at "st"
      exact h2
  · exact h.elim
theorem okx_p_Bench_undo (T : Tx P K mg) : FnX P w K mg base 1 T.f_p_Bench_undo T.d_p_Bench_undo ["self"] (spX K sx_p_Bench_undo) := by
  exact fnX_of (k := 0) (t := t_p_Bench_undo) T.F_p_Bench_undo sc_p_Bench_undo len_p_Bench_undo
    (fun cdv A outer s H E hr W tk => px_cons (px_if (pdt_cmp (op_eqF hr.r.units) opd_eqE (pd_getF T.C_Bench_past (pd_var 0)) (pd_lst (pda_nil))) (px_one (px_raiseF rfl tk PySem.F.excBase_RuntimeError T.q_Bare T.gx_Bare rfl)) (px_nil)) (px_cons (px_of (pds_setF T.C_Bench_plan (pd_var 0) (pd_pop (pd_getF T.C_Bench_past (pd_var 0))))) (px_one (px_of (pds_setF T.C_Bench_paper (pd_var 0) (pd_non))))))
    sem_p_Bench_undo
theorem ok_p_Bench_undo (T : Tx P K mg) : FnG P w K mg base 1 T.f_p_Bench_undo T.d_p_Bench_undo ["self"] (spD K sp_p_Bench_undo) := (okx_p_Bench_undo T).plain pl_p_Bench_undo
def sp_p_Bench_program : FS := fun ds ms P => match ds with
  | [.opq (.ref x)] => ∃ (dx pa : Addr) (g : Pg) (gs : List Pg) (B : Nat) (m : MS), ms = bnM x dx pa g gs ++ m ∧ PgOk B g ∧ ∀ t L n p q xs, PgL g t L n p q xs → Frsh L ms → P t (L ++ ms)
  | _ => False
theorem len_p_Bench_program : ∀ ds ms Q, sp_p_Bench_program ds ms Q → ds.length = 1 := fun ds ms Q h => by
  unfold sp_p_Bench_program at h
  split at h <;> first | rfl | exact h.elim
def t_p_Bench_program : DTS := dRet (dCall 1 0 [0] sp_p_copied (aCons (dGetF "Bench" "plan" (dVar 0)) (aNil)) (aNil))
theorem sem_p_Bench_program : ∀ ds ms Q, sp_p_Bench_program ds ms Q → t_p_Bench_program { nx := fun _ m => Q .non m, rt := Q } (startD 1 ds) ms := by
  intro ds ms Q h
  unfold sp_p_Bench_program at h
  split at h
  · rename_i x
    obtain ⟨dx, pa, g, gs, B, m, rfl, ok, h⟩ := h
    simp only [startD]
    unfold t_p_Bench_program
    simp only [bnM, bnO, List.cons_append, List.nil_append] at h ⊢
    walk_at "st"
    refine ⟨g, B, rfl, ok, fun t L n p q xs pl f => ?_⟩
    walk_at "st"
    exact h t L n p q xs pl f
  · exact h.elim
theorem ok_p_Bench_program (T : Tx P K mg) : FnG P w K mg base 4 T.f_p_Bench_program T.d_p_Bench_program ["self"] (spD K sp_p_Bench_program) := by
  have G_p_copied := ok_p_copied (P := P) (w := w) (base := base) T
  exact fnG_of (k := 3) (t := t_p_Bench_program) T.F_p_Bench_program sc_p_Bench_program len_p_Bench_program
    (fun cdv A outer s H hr => pds_one (pds_ret (pd_call G_p_copied (hr.mono (by decide)) rfl T.g_p_copied T.F_p_copied.kp T.b_p_copied_1 (pda_cons (pd_getF T.C_Bench_plan (pd_var 0)) (pda_nil)))))
    sem_p_Bench_program
def sp_p_Bench_deeds : FS := fun ds ms P => match ds with
  | [.opq (.ref x)] => ∃ (dx pa : Addr) (g : Pg) (gs : List Pg) (m : MS), ms = bnM x dx pa g gs ++ m ∧ x ≠ pa ∧ gs.length ≤ 1000 ∧ P (.int gs.length) ms
  | _ => False
theorem len_p_Bench_deeds : ∀ ds ms Q, sp_p_Bench_deeds ds ms Q → ds.length = 1 := fun ds ms Q h => by
  unfold sp_p_Bench_deeds at h
  split at h <;> first | rfl | exact h.elim
def t_p_Bench_deeds : DTS := dRet (dCB cLen (aCons (dGetF "Bench" "past" (dVar 0)) (aNil)))
theorem sem_p_Bench_deeds : ∀ ds ms Q, sp_p_Bench_deeds ds ms Q → t_p_Bench_deeds { nx := fun _ m => Q .non m, rt := Q } (startD 1 ds) ms := by
  intro ds ms Q h
  unfold sp_p_Bench_deeds at h
  split at h
  · rename_i x
    obtain ⟨dx, pa, g, gs, m, rfl, ne, hl, h⟩ := h
    simp only [startD]
    unfold t_p_Bench_deeds
    simp only [bnM, bnO, List.cons_append, List.nil_append] at h ⊢
    walk_at "st"
    refine w_len_o (look_b2 ne (pgs_nofld gs)) ?_
    walk_at "st"
    rw [List.length_map]
    exact h
  · exact h.elim
theorem ok_p_Bench_deeds (T : Tx P K mg) : FnG P w K mg base 1 T.f_p_Bench_deeds T.d_p_Bench_deeds ["self"] (spD K sp_p_Bench_deeds) := by
  exact fnG_of (k := 0) (t := t_p_Bench_deeds) T.F_p_Bench_deeds sc_p_Bench_deeds len_p_Bench_deeds
    (fun cdv A outer s H hr => pds_one (pds_ret (pd_callB call_len cal_len rfl T.n_len (by decide +kernel) (pda_cons (pd_getF T.C_Bench_past (pd_var 0)) (pda_nil)))))
    sem_p_Bench_deeds
def sp_p_Bench_keeps : FS := fun ds ms P => match ds with
  | [.opq (.ref x)] => ∃ (dx pa : Addr) (g : Pg) (gs : List Pg) (m : MS), ms = bnM x dx pa g gs ++ m ∧ P (.bl false) ms
  | _ => False
theorem len_p_Bench_keeps : ∀ ds ms Q, sp_p_Bench_keeps ds ms Q → ds.length = 1 := fun ds ms Q h => by
  unfold sp_p_Bench_keeps at h
  split at h <;> first | rfl | exact h.elim
def t_p_Bench_keeps : DTS := dRet (dOp fNotIs (dGetF "Bench" "paper" (dVar 0)) (dC .non))
theorem sem_p_Bench_keeps : ∀ ds ms Q, sp_p_Bench_keeps ds ms Q → t_p_Bench_keeps { nx := fun _ m => Q .non m, rt := Q } (startD 1 ds) ms := by
  intro ds ms Q h
  unfold sp_p_Bench_keeps at h
  split at h
  · rename_i x
    obtain ⟨dx, pa, g, gs, m, rfl, h⟩ := h
    simp only [startD]
    unfold t_p_Bench_keeps
    simp only [bnM, bnO, List.cons_append, List.nil_append] at h ⊢
    walk_at "st"
    exact h
  · exact h.elim
theorem ok_p_Bench_keeps (T : Tx P K mg) : FnG P w K mg base 1 T.f_p_Bench_keeps T.d_p_Bench_keeps ["self"] (spD K sp_p_Bench_keeps) := by
  exact fnG_of (k := 0) (t := t_p_Bench_keeps) T.F_p_Bench_keeps sc_p_Bench_keeps len_p_Bench_keeps
    (fun cdv A outer s H hr => pds_one (pds_ret (pd_cmp op_notIsD opd_notIs (pd_getF T.C_Bench_paper (pd_var 0)) (pd_non))))
    sem_p_Bench_keeps
def sp_p_Bench___len__ : FS := fun ds ms P => match ds with
  | [.opq (.ref x)] => ∃ (dx pa : Addr) (g : Pg) (gs : List Pg) (m : MS), ms = bnM x dx pa g gs ++ m ∧ g.rs.length ≤ 1000 ∧ P (.int g.rs.length) ms
  | _ => False
theorem len_p_Bench___len__ : ∀ ds ms Q, sp_p_Bench___len__ ds ms Q → ds.length = 1 := fun ds ms Q h => by
  unfold sp_p_Bench___len__ at h
  split at h <;> first | rfl | exact h.elim
def t_p_Bench___len__ : DTS := dRet (dCB cLen (aCons (dOp fIx (dGetF "Bench" "plan" (dVar 0)) (dC (.int 2))) (aNil)))
theorem sem_p_Bench___len__ : ∀ ds ms Q, sp_p_Bench___len__ ds ms Q → t_p_Bench___len__ { nx := fun _ m => Q .non m, rt := Q } (startD 1 ds) ms := by
  intro ds ms Q h
  unfold sp_p_Bench___len__ at h
  split at h
  · rename_i x
    obtain ⟨dx, pa, g, gs, m, rfl, hl, h⟩ := h
    simp only [startD]
    unfold t_p_Bench___len__
    simp only [bnM, bnO, pgD, List.cons_append, List.nil_append] at h ⊢
    walk_at "st"
    rw [List.length_map]
    exact h
  · exact h.elim
theorem ok_p_Bench___len__ (T : Tx P K mg) : FnG P w K mg base 1 T.f_p_Bench___len__ T.d_p_Bench___len__ ["self"] (spD K sp_p_Bench___len__) := by
  exact fnG_of (k := 0) (t := t_p_Bench___len__) T.F_p_Bench___len__ sc_p_Bench___len__ len_p_Bench___len__
    (fun cdv A outer s H hr => pds_one (pds_ret (pd_callB call_len cal_len rfl T.n_len (by decide +kernel) (pda_cons (pd_ix ix_seq opd_ix (pd_getF T.C_Bench_plan (pd_var 0)) (pd_int)) (pda_nil)))))
    sem_p_Bench___len__
def PO (a b : Int) : Prop := 0 ≤ a ∧ 0 ≤ b ∧ b < 2147483647
def PoolAt (ms : MS) (p : Addr) : Prop := ∃ a b, PO a b ∧ look ms p = some [.int a, .int b]
def pu (ms : MS) (p : Addr) (a b : Int) : MS := put ms p [.int a, .int b]
theorem put_put : ∀ (ms : MS) (p : Addr) (x y : List D), put (put ms p x) p y = put ms p y
  | [], _, _, _ => rfl
  | (q, zs) :: r, p, x, y => by
    by_cases h : q = p
    · simp only [put, h, if_true]
    · simp only [put, h, if_false, put_put r p x y]
theorem pu_pu (ms : MS) (p : Addr) (a b c d : Int) : pu (pu ms p a b) p c d = pu ms p c d := put_put ms p _ _
theorem PoolAt.pu {ms : MS} {p : Addr} (h : PoolAt ms p) {a b : Int} (o : PO a b) : PoolAt (pu ms p a b) p := by
  obtain ⟨x, y, _, e⟩ := h
  exact ⟨a, b, o, look_put_same e⟩
/-- the pool has been drawn from, all else is as it was -/
def Chg (ms : MS) (p : Addr) (ms' : MS) : Prop := ∃ a b, PO a b ∧ ms' = pu ms p a b
theorem put_self : ∀ {ms : MS} {p : Addr} {xs : List D}, look ms p = some xs → put ms p xs = ms
  | [], _, _, h => by cases h
  | (q, zs) :: r, p, xs, h => by
    unfold look at h
    by_cases e : q = p
    · rw [if_pos e] at h
      split at h
      · cases h
        simp only [put, e, if_true]
      · cases h
    · rw [if_neg e] at h
      simp only [put, e, if_false, put_self h]
theorem PoolAt.refl {ms : MS} {p : Addr} (h : PoolAt ms p) : Chg ms p ms := by
  obtain ⟨a, b, o, e⟩ := h
  exact ⟨a, b, o, (put_self e).symm⟩
theorem Chg.trans {ms m1 m2 : MS} {p : Addr} (h : Chg ms p m1) (h2 : Chg m1 p m2) : Chg ms p m2 := by
  obtain ⟨a, b, o, rfl⟩ := h
  obtain ⟨c, d, o2, rfl⟩ := h2
  exact ⟨c, d, o2, pu_pu ms p a b c d⟩
theorem PoolAt.chg {ms m1 : MS} {p : Addr} (h : PoolAt ms p) (c : Chg ms p m1) : PoolAt m1 p := by
  obtain ⟨a, b, o, rfl⟩ := c
  exact h.pu o
theorem PoolAt.new {ms : MS} {p : Addr} {a b : Int} (o : PO a b) : PoolAt ((p, [.int a, .int b]) :: ms) p := ⟨a, b, o, by unfold look; rw [if_pos rfl]; rfl⟩
def sp_L_pool : FS := fun ds ms P => match ds with
  | [.fro xs, .int k] => ∃ ns : List Int, xs = ns.map D.int ∧ 0 ≤ k ∧ k < 100 ∧ ∀ p, (∀ q ∈ ms, q.1 ≠ p) → ∀ a b, PO a b → P (.opq (.ref p)) ((p, [.int a, .int b]) :: ms)
  | _ => False
theorem len_L_pool : ∀ ds ms Q, sp_L_pool ds ms Q → ds.length = 2 := fun ds ms Q h => by
  unfold sp_L_pool at h
  split at h <;> first | rfl | exact h.elim
def t_L_pool : DTS := dSeq (dAsg (dC (.int 0)) (sName 2)) (dSeq (dIfS (dTest (dOp fLt (dVar 1) (dCB cLen (aCons (dVar 0) (aNil))))) (dAsg (dOp fIx (dVar 0) (dVar 1)) (sName 2)) (dNext)) (dSeq (dAsg (dCB cMax2 (aCons (dVar 2) (aCons (dOp fSub (dNeg (dC (.int 1))) (dVar 2)) (aNil)))) (sName 3)) (dSeq (dAsg (dOp fMod (dOp fMul (dOp fAdd (dOp fAdd (dOp fAdd (dOp fMod (dVar 3) (dC (.int 2147483629))) (dOp fMul (dOp fMul (dC (.int 7919)) (dVar 1)) (dVar 1))) (dOp fMul (dC (.int 31)) (dVar 1))) (dC (.int 17))) (dC (.int 48271))) (dC (.int 2147483647))) (sName 4)) (dRet (dLstM (aCons (dOp fMul (dVar 3) (dCB cInt1 (aCons (dOp fGe (dVar 3) (dOp fPow (dC (.int 10)) (dC (.int 18)))) (aNil)))) (aCons (dVar 4) (aNil))))))))
theorem pool_fin {k n : Int} {ms : MS} {Q : D → MS → Prop} (hn : 0 ≤ n) (k0 : 0 ≤ k) (k1 : k < 100)
    (h : ∀ p, (∀ q ∈ ms, q.1 ≠ p) → ∀ a b, PO a b → Q (.opq (.ref p)) ((p, [.int a, .int b]) :: ms)) :
    (2147483629 : Int) ≠ 0 ∧ CMulD 7919 k ∧ CMulD (7919 * k) k ∧ CMulD 31 k ∧ CMulD (n.fmod 2147483629 + 7919 * k * k + 31 * k + 17) 48271 ∧ (2147483647 : Int) ≠ 0 ∧ CPow 10 18 ∧
      CMulD n (if 10 ^ Int.toNat 18 ≤ n then 1 else 0) ∧ 2 ≤ sizeLine ∧ ∀ p, (∀ q ∈ ms, q.1 ≠ p) → Q (.opq (.ref p))
        ((p, [.int (n * if 10 ^ Int.toNat 18 ≤ n then 1 else 0), .int (((n.fmod 2147483629 + 7919 * k * k + 31 * k + 17) * 48271).fmod 2147483647)]) :: ms) := by
  refine ⟨by decide, .inr (.inl ⟨by decide, by decide⟩), .inr (.inr ⟨by omega, by omega⟩), .inr (.inl ⟨by decide, by decide⟩), .inr (.inr ⟨by decide, by decide⟩), by decide, ⟨by decide, by decide, by decide⟩, .inr (.inr ?_), by decide, fun p hp => h p hp _ _ ⟨?_, ?_, ?_⟩⟩
  · split <;> decide
  · split
    · rw [Int.mul_one]; exact hn
    · rw [Int.mul_zero]; decide
  · exact Int.fmod_nonneg_of_pos _ (by decide)
  · exact Int.fmod_lt_of_pos _ (by decide)
theorem pool_num (c : Int) : 0 ≤ (if -1 - c > c then -1 - c else c) := by split <;> omega
theorem sem_L_pool : ∀ ds ms Q, sp_L_pool ds ms Q → t_L_pool { nx := fun _ m => Q .non m, rt := Q } (startD 5 ds) ms := by
  intro ds ms Q h
  unfold sp_L_pool at h
  split at h
  · rename_i xs k
    obtain ⟨ns, rfl, k0, k1, h⟩ := h
    unfold t_L_pool
    walk_at "dl"
    simp only [asL]
    by_cases hk : k < ((ns.map D.int).length : Int)
    · rw [if_pos hk]
      have hl : k.toNat < ns.length := by rw [List.length_map] at hk; omega
      obtain ⟨c, ha⟩ : ∃ c : Int, atI (ns.map D.int) k = some (.int c) := by
        obtain ⟨j, rfl⟩ : ∃ j : Nat, k = (j : Int) := ⟨k.toNat, by omega⟩
        have hj : j < ns.length := by omega
        exact ⟨ns[j], atI_nat (by rw [List.getElem?_map, List.getElem?_eq_getElem hj]; rfl)⟩
      simp only [fIx, asL, ha]
      exact pool_fin (pool_num _) k0 k1 h
    · rw [if_neg hk]
      exact pool_fin (pool_num 0) k0 k1 h
  · exact h.elim
theorem ok_L_pool (T : Tx P K mg) : FnG P w K mg base 1 T.f_L_pool T.d_L_pool ["_law_script", "_law_k"] (spD K sp_L_pool) := by
  exact fnG_of (k := 0) (t := t_L_pool) T.F_L_pool sc_L_pool len_L_pool
    (fun cdv A outer s H hr => pds_cons (pds_set (i := 2) sc_L_pool.nd rfl (.inl rfl) (pd_int)) (pds_cons (pds_if (pdt_cmp op_lt opd_lt (pd_var 1) (pd_callB call_len cal_len rfl T.n_len (by decide +kernel) (pda_cons (pd_var 0) (pda_nil)))) (pds_one (pds_set (i := 2) sc_L_pool.nd rfl (.inl rfl) (pd_ix ix_seq opd_ix (pd_var 0) (pd_var 1)))) (pds_nil)) (pds_cons (pds_set (i := 3) sc_L_pool.nd rfl (.inl rfl) (pd_callB (call_max2 rfl) cal_max2 rfl T.n_max (by decide +kernel) (pda_cons (pd_var 2) (pda_cons (pd_op op_sub opd_sub (pd_neg (pd_int)) (pd_var 2)) (pda_nil))))) (pds_cons (pds_set (i := 4) sc_L_pool.nd rfl (.inl rfl) (pd_op op_modN opd_mod (pd_op op_mulA opd_mul (pd_op op_addD opd_add (pd_op op_addD opd_add (pd_op op_addD opd_add (pd_op op_modN opd_mod (pd_var 3) (pd_int)) (pd_op op_mulA opd_mul (pd_op op_mulA opd_mul (pd_int) (pd_var 1)) (pd_var 1))) (pd_op op_mulA opd_mul (pd_int) (pd_var 1))) (pd_int)) (pd_int)) (pd_int))) (pds_one (pds_ret (pd_lstM (pda_cons (pd_op op_mulA opd_mul (pd_var 3) (pd_callTy call_int1 cal_int1 rfl T.n_int (by decide +kernel) (pda_cons (pd_cmp op_ge opd_ge (pd_var 3) (pd_op op_pow opd_pow (pd_int) (pd_int))) (pda_nil)))) (pda_cons (pd_var 4) (pda_nil))))))))))
    sem_L_pool
def sp_L_take : FS := fun ds ms P => match ds with
  | [.opq (.ref p), .int m] => PoolAt ms p ∧ 0 < m ∧ m ≤ 1000000000 ∧ ∀ r, 0 ≤ r → r < m → ∀ ms', Chg ms p ms' → P (.int r) ms'
  | _ => False
theorem len_L_take : ∀ ds ms Q, sp_L_take ds ms Q → ds.length = 2 := fun ds ms Q h => by
  unfold sp_L_take at h
  split at h <;> first | rfl | exact h.elim
def t_L_take : DTS := dSeq (dIfS (dTest (dOp fGt (dOp fIx (dVar 0) (dC (.int 0))) (dC (.int 0)))) (dSeq (dAsg (dOp fMod (dOp fIx (dVar 0) (dC (.int 0))) (dVar 1)) (sName 2)) (dSeq (dSetIx (dVar 0) (dC (.int 0)) (dOp fDiv (dOp fIx (dVar 0) (dC (.int 0))) (dVar 1))) (dRet (dVar 2)))) (dNext)) (dSeq (dSetIx (dVar 0) (dC (.int 1)) (dOp fMod (dOp fAdd (dOp fMul (dOp fIx (dVar 0) (dC (.int 1))) (dC (.int 69621))) (dC (.int 7))) (dC (.int 2147483647)))) (dRet (dOp fMod (dOp fDiv (dOp fMod (dOp fMul (dOp fIx (dVar 0) (dC (.int 1))) (dOp fIx (dVar 0) (dC (.int 1)))) (dC (.int 2147483629))) (dC (.int 32))) (dVar 1))))
theorem sem_L_take : ∀ ds ms Q, sp_L_take ds ms Q → t_L_take { nx := fun _ m => Q .non m, rt := Q } (startD 3 ds) ms := by
  intro ds ms Q h
  unfold sp_L_take at h
  split at h
  · rename_i p m
    obtain ⟨⟨a, b, ⟨a0, b0, b1⟩, e⟩, m0, m1, h⟩ := h
    unfold t_L_take
    walk_at "dl"
    simp only [fIx, asL, e, atI_0, atI_1]
    have hm : CDivA a m := ⟨by omega, Nat.lt_of_lt_of_le (Bd.log (n := 30) (x := m) (by unfold Bd; omega) (by decide)) (by decide)⟩
    have i0 : ixN ([D.int a, D.int b].length) 0 = some 0 := rfl
    have i1 : ixN ([D.int a, D.int b].length) 1 = some 1 := rfl
    have s0 : ∀ x : D, [D.int a, D.int b].set 0 x = [x, D.int b] := fun _ => rfl
    have s1 : ∀ x : D, [D.int a, D.int b].set 1 x = [D.int a, x] := fun _ => rfl
    by_cases ha : 0 < a
    · rw [if_pos ha]
      simp only [i0, s0]
      refine ⟨by omega, hm, h _ (Int.fmod_nonneg_of_pos _ m0) (Int.fmod_lt_of_pos _ m0) _ ⟨_, _, ⟨?_, b0, b1⟩, rfl⟩⟩
      rw [Int.fdiv_eq_ediv_of_nonneg _ (by omega)]
      exact Int.ediv_nonneg a0 (by omega)
    · rw [if_neg ha]
      have lk : ∀ u v : Int, look (put ms p [.int u, .int v]) p = some [.int u, .int v] := fun u v => look_put_same e (hy := rfl)
      simp only [i1, s1, lk, atI_1]
      have f0 := Int.fmod_nonneg_of_pos (b * 69621 + 7) (show (0 : Int) < 2147483647 by decide)
      have f1 := Int.fmod_lt_of_pos (b * 69621 + 7) (show (0 : Int) < 2147483647 by decide)
      refine ⟨.inr (.inr ⟨by decide, by decide⟩), by decide, .inr (.inl ⟨by omega, by omega⟩), by decide, ⟨by decide, by decide⟩, by omega, h _ (Int.fmod_nonneg_of_pos _ m0) (Int.fmod_lt_of_pos _ m0) _ ⟨_, _, ⟨a0, f0, f1⟩, rfl⟩⟩
  · exact h.elim
theorem ok_L_take (T : Tx P K mg) : FnG P w K mg base 1 T.f_L_take T.d_L_take ["_law_pool_here", "_law_wide"] (spD K sp_L_take) := by
  exact fnG_of (k := 0) (t := t_L_take) T.F_L_take sc_L_take len_L_take
    (fun cdv A outer s H hr => pds_cons (pds_if (pdt_cmp op_gt opd_gt (pd_ix ix_seq opd_ix (pd_var 0) (pd_int)) (pd_int)) (pds_cons (pds_set (i := 2) sc_L_take.nd rfl (.inl rfl) (pd_op op_modN opd_mod (pd_ix ix_seq opd_ix (pd_var 0) (pd_int)) (pd_var 1))) (pds_cons (pds_setIx (pd_op op_fdivA opd_div (pd_ix ix_seq opd_ix (pd_var 0) (pd_int)) (pd_var 1)) (pd_var 0) (pd_int)) (pds_one (pds_ret (pd_var 2))))) (pds_nil)) (pds_cons (pds_setIx (pd_op op_modN opd_mod (pd_op op_addD opd_add (pd_op op_mulA opd_mul (pd_ix ix_seq opd_ix (pd_var 0) (pd_int)) (pd_int)) (pd_int)) (pd_int)) (pd_var 0) (pd_int)) (pds_one (pds_ret (pd_op op_modN opd_mod (pd_op op_fdivA opd_div (pd_op op_modN opd_mod (pd_op op_mulA opd_mul (pd_ix ix_seq opd_ix (pd_var 0) (pd_int)) (pd_ix ix_seq opd_ix (pd_var 0) (pd_int))) (pd_int)) (pd_int)) (pd_var 1))))))
    sem_L_take
theorem PoolAt.mem {ms : MS} {p : Addr} (h : PoolAt ms p) : ∃ e ∈ ms, e.1 = p := by
  obtain ⟨a, b, _, e⟩ := h
  exact ⟨_, look_mem e, rfl⟩
theorem chg_look {ms ms' : MS} {p q : Addr} {xs : List D} (c : Chg ms p ms') (h : look ms q = some xs) (hpq : p ≠ q) : look ms' q = some xs := by
  obtain ⟨a, b, _, rfl⟩ := c
  unfold pu
  rw [look_put_ne hpq]
  exact h
/-- the pool at p, and a list that is being made at q -/
structure PL (ms : MS) (p q : Addr) (xs : List D) : Prop where
  po : PoolAt ms p
  lk : look ms q = some xs
  ne : p ≠ q
theorem PL.new {ms : MS} {p q : Addr} {xs : List D} (h : PoolAt ms p) (hq : ∀ e ∈ ms, e.1 ≠ q) (hx : nofld xs = true := by first | rfl | assumption | exact nofld_map _ (fun _ => rfl) _) : PL ((q, xs) :: ms) p q xs := by
  obtain ⟨e, he, z⟩ := h.mem
  have hne : p ≠ q := z ▸ hq e he
  obtain ⟨a, b, o, l⟩ := h
  exact ⟨⟨a, b, o, by unfold look; rw [if_neg hne.symm]; exact l⟩, look_new, hne⟩
theorem PL.chg {ms ms' : MS} {p q : Addr} {xs : List D} (h : PL ms p q xs) (c : Chg ms p ms') : PL ms' p q xs := ⟨h.po.chg c, chg_look c h.lk h.ne, h.ne⟩
theorem take_step {ms : MS} {p : Addr} {m : Int} {P : D → MS → Prop} (h : PoolAt ms p) (m0 : 0 < m) (m1 : m ≤ 1000000000) (q : ∀ r, 0 ≤ r → r < m → ∀ ms', PoolAt ms' p → Chg ms p ms' → P (.int r) ms') : sp_L_take [.opq (.ref p), .int m] ms P :=
  ⟨h, m0, m1, fun r h0 h1 ms' c => q r h0 h1 ms' (h.chg c) c⟩
theorem comp_pool {g : DG} {te : DE} {ds : DS} {p : Addr} {Good : D → Prop} : ∀ (xs acc : List D) (ms : MS) (P : List D → MS → Prop), PoolAt ms p → acc.length + xs.length ≤ 1000000 →
    (∀ x ∈ xs, ∀ m, PoolAt m p → ∀ P0 : D → MS → Prop, (∀ d m', Good d → PoolAt m' p → Chg m p m' → P0 d m') → g x ds fun ds2 => te ds2 m P0) →
    (∀ ys m', ys.length = xs.length → (∀ y ∈ ys, Good y) → PoolAt m' p → Chg ms p m' → P (acc ++ ys) m') → compD g dYes te ds xs acc ms P
  | [], acc, ms, P, hp, _, _, h => by
    have := h [] ms rfl (fun y hy => by cases hy) hp hp.refl
    rw [List.append_nil] at this
    exact this
  | x :: r, acc, ms, P, hp, hl, t, h => by
    rw [List.length_cons] at hl
    unfold compD
    simp only [dYes, if_true]
    refine t x List.mem_cons_self ms hp _ fun d m' gd hp' c => ⟨Nat.lt_of_lt_of_le (by omega : acc.length < 1000001) (by decide), comp_pool r _ m' P hp' (by rw [List.length_append, List.length_singleton]; omega) (fun y hy => t y (List.mem_cons_of_mem _ hy)) fun ys m2 l2 g2 p2 c2 => ?_⟩
    rw [List.append_assoc]
    exact h (d :: ys) m2 (by rw [List.length_cons, List.length_cons, l2]) (fun y hy => by
      rcases List.mem_cons.mp hy with rfl | hy
      · exact gd
      · exact g2 y hy) p2 (c.trans c2)
theorem PoolAt.cons {m : MS} {p q : Addr} {xs : List D} (h : PoolAt m p) (hne : p ≠ q) : PoolAt ((q, xs) :: m) p := by
  obtain ⟨a, b, o, l⟩ := h
  exact ⟨a, b, o, by unfold look; rw [if_neg hne.symm]; exact l⟩
theorem PoolAt.tail {m : MS} {p q : Addr} {xs : List D} (h : PoolAt ((q, xs) :: m) p) (hne : p ≠ q) : PoolAt m p := by
  obtain ⟨a, b, o, l⟩ := h
  unfold look at l
  rw [if_neg hne.symm] at l
  exact ⟨a, b, o, l⟩
theorem chg_cons {m m1 : MS} {p q : Addr} {xs : List D} (hne : p ≠ q) (c : Chg ((q, xs) :: m) p m1) : ∃ m', m1 = (q, xs) :: m' ∧ Chg m p m' := by
  obtain ⟨a, b, o, rfl⟩ := c
  refine ⟨pu m p a b, ?_, a, b, o, rfl⟩
  unfold pu
  conv => lhs; unfold put
  rw [if_neg hne.symm]
theorem take_stepC {m : MS} {p q : Addr} {xs : List D} {n : Int} {P : D → MS → Prop} (hne : p ≠ q) (h : PoolAt m p) (m0 : 0 < n) (m1 : n ≤ 1000000000) (k : ∀ r, 0 ≤ r → r < n → ∀ m', PoolAt m' p → Chg m p m' → P (.int r) ((q, xs) :: m')) : sp_L_take [.opq (.ref p), .int n] ((q, xs) :: m) P :=
  take_step (h.cons hne) m0 m1 fun r h0 h1 m2 p2 c2 => by
    obtain ⟨m', rfl, c'⟩ := chg_cons hne c2
    exact k r h0 h1 m' (p2.tail hne) c'
theorem PoolAt.ne {m : MS} {p q : Addr} (h : PoolAt m p) (hq : ∀ e ∈ m, e.1 ≠ q) : p ≠ q := by
  obtain ⟨e, he, z⟩ := h.mem
  exact z ▸ hq e he
theorem put_in : ∀ {ms : MS} {p : Addr} {ys : List D} {q : Addr × List D}, q ∈ put ms p ys → q ∈ ms ∨ q.2 = ys
  | [], _, _, _, h => by cases h
  | (r, zs) :: ms, p, ys, q, h => by
    unfold put at h
    split at h
    · rcases List.mem_cons.mp h with rfl | h
      · exact .inr rfl
      · exact .inl (List.mem_cons_of_mem _ h)
    · rcases List.mem_cons.mp h with rfl | h
      · exact .inl List.mem_cons_self
      · rcases put_in h with h | h
        · exact .inl (List.mem_cons_of_mem _ h)
        · exact .inr h
theorem flatM_chg {ms m1 : MS} {p : Addr} (h : flatM ms) (c : Chg ms p m1) : flatM m1 := by
  obtain ⟨a, b, _, rfl⟩ := c
  intro q hq
  rcases put_in hq with hq | hq
  · exact h q hq
  · rw [hq]; rfl
theorem flatM_cons {ms : MS} {p : Addr} {xs : List D} (h : flatM ms) (hx : flats xs = true) : flatM ((p, xs) :: ms) := fun q hq => by
  rcases List.mem_cons.mp hq with rfl | hq
  · exact hx
  · exact h q hq
/-- a loop whose turns are counted -/
theorem loop_n {g : DG} {tb : DTS} {E : EN} (I : Nat → DS → MS → Prop) (K : Nat) : ∀ (xs : List D) (k : Nat) (ds : DS) (ms : MS), k + xs.length ≤ K → I k ds ms →
    (∀ x ∈ xs, ∀ k ds ms, k < K → I k ds ms → ∀ N : DS → MS → Prop, (∀ ds' ms', I (k + 1) ds' ms' → N ds' ms') → g x ds fun ds1 => tb (EN.lp E N) ds1 ms) →
    (∀ ds ms, I (k + xs.length) ds ms → E.nx ds ms) → loopD g tb E xs ds ms
  | [], k, ds, ms, _, h, _, q => q ds ms h
  | x :: r, k, ds, ms, hK, h, t, q => t x List.mem_cons_self k ds ms (by rw [List.length_cons] at hK; omega) h _ fun ds' ms' h' => loop_n I K r (k + 1) ds' ms' (by rw [List.length_cons] at hK; omega) h' (fun y hy => t y (List.mem_cons_of_mem _ hy)) fun ds2 ms2 h2 => q ds2 ms2 (by rw [List.length_cons]; rwa [Nat.add_right_comm, Nat.add_assoc] at h2)
theorem ixN_ok {n : Nat} {i : Int} (h0 : 0 ≤ i) (h1 : i < (n : Int)) : ixN n i = some i.toNat := by
  unfold ixN
  rw [if_pos h0, if_pos h1]
theorem maps_of {α : Type} {f : α → D} {ok : α → Prop} : ∀ ys : List D, (∀ y ∈ ys, ∃ a, y = f a ∧ ok a) → ∃ as : List α, ys = as.map f ∧ ∀ a ∈ as, ok a
  | [], _ => ⟨[], rfl, fun _ h => by cases h⟩
  | y :: r, h => by
    obtain ⟨a, rfl, ha⟩ := h y List.mem_cons_self
    obtain ⟨as, e, ho⟩ := maps_of r fun z hz => h z (List.mem_cons_of_mem _ hz)
    refine ⟨a :: as, by rw [e]; rfl, fun z hz => ?_⟩
    rcases List.mem_cons.mp hz with hz | hz
    · exact hz ▸ ha
    · exact ho z hz
/-- a loop over range(n), by its number -/
theorem loop_r {g : DG} {tb : DTS} {E : EN} (I : Nat → DS → MS → Prop) (n : Nat) : ∀ (m k : Nat), k + m = n → ∀ (ds : DS) (ms : MS), I k ds ms →
    (∀ k ds ms, k < n → I k ds ms → ∀ N : DS → MS → Prop, (∀ ds' ms', I (k + 1) ds' ms' → N ds' ms') → g (.int (0 + (k : Nat))) ds fun ds1 => tb (EN.lp E N) ds1 ms) →
    (∀ ds ms, I n ds ms → E.nx ds ms) → loopD g tb E ((List.range' k m).map fun i => D.int (0 + (i : Nat))) ds ms
  | 0, k, hk, ds, ms, h, _, q => q ds ms (by rw [← hk]; exact h)
  | m + 1, k, hk, ds, ms, h, t, q => t k ds ms (by omega) h _ fun ds' ms' h' => loop_r I n m (k + 1) (by omega) ds' ms' h' t q
theorem loop_rng {g : DG} {tb : DTS} {E : EN} (I : Nat → DS → MS → Prop) (n : Nat) {ds : DS} {ms : MS} (h : I 0 ds ms)
    (t : ∀ k ds ms, k < n → I k ds ms → ∀ N : DS → MS → Prop, (∀ ds' ms', I (k + 1) ds' ms' → N ds' ms') → g (.int (0 + (k : Nat))) ds fun ds1 => tb (EN.lp E N) ds1 ms)
    (q : ∀ ds ms, I n ds ms → E.nx ds ms) : loopD g tb E (rng 0 n) ds ms := by
  unfold rng
  rw [List.range_eq_range']
  exact loop_r I n n 0 (Nat.zero_add n) ds ms h t q
/-- a loop over range(n), by its number -/
theorem loop_rn {g : DG} {tb : DTS} {E : EN} (I : Nat → DS → MS → Prop) (n : Nat) {ds : DS} {ms : MS} (h : I 0 ds ms)
    (t : ∀ k ds ms, k < n → I k ds ms → ∀ N : DS → MS → Prop, (∀ ds' ms', I (k + 1) ds' ms' → N ds' ms') → g (.int (k : Int)) ds fun ds1 => tb (EN.lp E N) ds1 ms)
    (q : ∀ ds ms, I n ds ms → E.nx ds ms) : loopD g tb E (rng 0 n) ds ms := loop_rng I n h (fun k ds ms hk hi N hN => by rw [Int.zero_add]; exact t k ds ms hk hi N hN) q
/-- what is drawn of two words -/
theorem word2 {r : Int} (h0 : 0 ≤ r) (h1 : r < 2) : atI [D.str "least", .str "just"] r = some (wdD (decide (r = 1))) := by
  have : r = 0 ∨ r = 1 := by omega
  rcases this with rfl | rfl <;> rfl
def sp_L_free_row : FS := fun ds ms P => match ds with
  | [.opq (.ref p), .int a, .int b] => ∃ n pl : Nat, a = (n : Int) ∧ b = (pl : Int) ∧ PoolAt ms p ∧ 1 ≤ n ∧ n ≤ 3 ∧ 1 ≤ pl ∧ pl ≤ 6 ∧ ∀ r : Rw, RwOk 2 n pl r → r.ws.length ≤ 3 → ∀ ms', PoolAt ms' p → Chg ms p ms' → P (rwD r) ms'
  | _ => False
theorem len_L_free_row : ∀ ds ms Q, sp_L_free_row ds ms Q → ds.length = 3 := fun ds ms Q h => by
  unfold sp_L_free_row at h
  split at h <;> first | rfl | exact h.elim
def t_L_free_row : DTS := dSeq (dAsg (dLstM (aNil)) (sName 3)) (dSeq (dFor (iRange1 (aCons (dCall 2 0 [0, 1] sp_L_take (aCons (dVar 0) (aCons (dC (.int 4)) (aNil))) (aNil)) (aNil))) (sName 4) (dSeq (dAsg (dLc (iRange1 (aCons (dOp fAdd (dOp fMul (dC (.int 2)) (dVar 1)) (dC (.int 1))) (aNil))) (sName 6) (dYes) (dOp fSub (dCall 2 0 [0, 1] sp_L_take (aCons (dVar 0) (aCons (dC (.int 7)) (aNil))) (aNil)) (dC (.int 3))) [6]) (sName 5)) (dDrop (dAppend (dVar 3) (aCons (dTup (aCons (dOp fIx (dLst (aCons (dC (.str "least")) (aCons (dC (.str "just")) (aNil)))) (dCall 2 0 [0, 1] sp_L_take (aCons (dVar 0) (aCons (dC (.int 2)) (aNil))) (aNil))) (aCons (dVar 5) (aNil)))) (aNil)))))) (dFrzS 3 (dRet (dTup (aCons (dCall 2 0 [0, 1] sp_L_take (aCons (dVar 0) (aCons (dVar 2) (aNil))) (aNil)) (aCons (dCall 2 0 [0, 1] sp_L_take (aCons (dVar 0) (aCons (dVar 2) (aNil))) (aNil)) (aCons (dVar 3) (aNil))))))))
theorem sem_L_free_row : ∀ ds ms Q, sp_L_free_row ds ms Q → t_L_free_row { nx := fun _ m => Q .non m, rt := Q } (startD 7 ds) ms := by
  intro ds ms Q h
  unfold sp_L_free_row at h
  split at h
  · rename_i p a b
    obtain ⟨n, pl, rfl, rfl, hp, n1, n3, pl1, pl6, h⟩ := h
    simp only [startD]
    unfold t_L_free_row
    walk_at "st"
    intro q hq
    have hne := hp.ne hq
    walk_at "st"
    refine take_stepC hne hp (by decide) (by decide) fun r a1 b1 m1 p1 c1 => ?_
    walk_at "st"
    refine w_mRng ⟨by omega, by omega⟩ ?_
    refine loop_rn (fun k ds m' => ∃ (ws : List Wi) (m2 : MS), m' = (q, ws.map wiD) :: m2 ∧ PoolAt m2 p ∧ Chg ms p m2 ∧ ws.length = k ∧ (∀ w ∈ ws, WiOk 2 (2 * n) w) ∧ ∃ x4 x5 x6, ds = [some (.opq (.ref p)), some (.int n), some (.int pl), some (.opq (.ref q)), x4, x5, x6]) r.toNat ⟨[], m1, rfl, p1, c1, rfl, (fun x hx => by cases hx), _, _, _, rfl⟩ ?_ ?_
    · rintro k ds m' hk ⟨ws, m2, rfl, p2, c2, hl, hw, x4, x5, x6, rfl⟩ N hN
      walk_at "st"
      refine ⟨.inr (.inr ⟨by omega, by omega⟩), ?_⟩
      walk_at "st"
      refine w_mRng ⟨by omega, by omega⟩ ?_
      simp only [wipeD, List.set]
      refine comp_pool (p := p) (Good := fun d => ∃ i, d = .int i ∧ Bd 2 i) _ [] _ _ (p2.cons hne) ?_ ?_ ?_
      · rw [rng_len, List.length_nil]; omega
      · intro x hx m1 hm P0 q0
        walk_at "st"
        refine take_step hm (by decide) (by decide) fun s a2 b2 m3 p3 c3 => ?_
        walk_at "st"
        exact q0 _ _ ⟨s - 3, rfl, by unfold Bd; omega⟩ p3 c3
      · intro ys m3 yl hg p3 c3
        obtain ⟨m4, rfl, c4⟩ := chg_cons hne c3
        rw [rng_len] at yl
        obtain ⟨is, rfl, hi, _⟩ := ints_of _ hg
        rw [List.length_map] at yl
        rw [List.nil_append]
        walk_at "st"
        refine take_stepC hne (p3.tail hne) (by decide) (by decide) fun s a2 b2 m5 p5 c5 => ?_
        walk_at "st"
        refine w_ix_l (word2 a2 b2) ?_
        walk_at "st"
        obtain ⟨i, r2, rfl⟩ : ∃ i r2, is = i :: r2 := by
          cases is with
          | nil => exact absurd yl (by rw [List.length_nil]; omega)
          | cons i r2 => exact ⟨i, r2, rfl⟩
        refine ⟨Nat.lt_of_lt_of_le (show (ws.map wiD).length < 20 by rw [List.length_map]; omega) (by decide), ?_⟩
        walk_at "st"
        refine hN _ _ ⟨ws ++ [⟨decide (s = 1), i, r2⟩], m5, by rw [List.map_append]; rfl, p5, c2.trans (c4.trans c5), by rw [List.length_append, List.length_singleton, hl], fun z hz => ?_, _, _, _, rfl⟩
        rcases List.mem_append.mp hz with hz | hz
        · exact hw z hz
        · rw [List.mem_singleton.mp hz]
          exact ⟨hi, by rw [List.length_cons] at yl; show r2.length = _; omega⟩
    · rintro ds m' ⟨ws, m2, rfl, p2, c2, hl, hw, x4, x5, x6, rfl⟩
      walk_at "st"
      refine take_step p2 (by omega) (by omega) fun s a2 b2 m3 p3 c3 => ?_
      walk_at "st"
      refine take_step p3 (by omega) (by omega) fun t a3 b3 m4 p4 c4 => ?_
      walk_at "st"
      exact h ⟨s, t, ws⟩ ⟨a2, b2, a3, b3, by show ws.length ≤ 12; omega, hw⟩ (by show ws.length ≤ 3; omega) m4 p4 (c2.trans (c3.trans c4))
  · exact h.elim
theorem ok_L_free_row (T : Tx P K mg) : FnG P w K mg base 2 T.f_L_free_row T.d_L_free_row ["_law_pool_here", "_law_size", "_law_places"] (spD K sp_L_free_row) := by
  have G_L_take := ok_L_take (P := P) (w := w) (base := base) T
  exact fnG_of (k := 1) (t := t_L_free_row) T.F_L_free_row sc_L_free_row len_L_free_row
    (fun cdv A outer s H hr => pds_cons (pds_set (i := 3) sc_L_free_row.nd rfl (.inl rfl) (pd_lstM (pda_nil))) (pds_cons (pds_for (vs := [4]) rfl (pdi_range1 rfl T.n_range (pda_cons (pd_call G_L_take (hr.mono (by decide)) rfl T.g_L_take T.F_L_take.kp T.b_L_take_2 (pda_cons (pd_var 0) (pda_cons (pd_int) (pda_nil)))) (pda_nil))) (pg_name (i := 4) sc_L_free_row.nd rfl (.inl rfl)) (tg_name (i := 4) (by decide)) (pds_cons (pds_setLc (i := 5) (own := [("_law_k", 6)]) rfl sc_L_free_row.nd rfl rfl (sw_true rfl rfl rfl (by decide +kernel)) (pdi_range1 rfl T.n_range (pda_cons (pd_op op_addD opd_add (pd_op op_mulA opd_mul (pd_int) (pd_var 1)) (pd_int)) (pda_nil))) (blkOk_by (own := [("_law_k", 6)]) (by kernel_rfl)) (fun _ _ _ _ _ => pg_name (i := 6) sc_L_free_row.nd rfl (by first | exact .inl rfl | exact .inr rfl)) (tg_name (i := 6) (by decide)) (mon_name (i := 6)) (fun _ _ _ _ _ => pdts_nil) (fun _ _ _ _ _ => pd_op op_sub opd_sub (pd_call G_L_take (hr.mono (by decide)) rfl T.g_L_take T.F_L_take.kp T.b_L_take_2 (pda_cons (pd_var 0) (pda_cons (pd_int) (pda_nil)))) (pd_int))) (pds_one (pds_expr (pd_append (pd_var 3) (pda_cons (pd_tup (pda_cons (pd_ix ix_seq opd_ix (pd_lst (pda_cons (pd_str) (pda_cons (pd_str) (pda_nil)))) (pd_call G_L_take (hr.mono (by decide)) rfl T.g_L_take T.F_L_take.kp T.b_L_take_2 (pda_cons (pd_var 0) (pda_cons (pd_int) (pda_nil))))) (pda_cons (pd_var 5) (pda_nil)))) (pda_nil))))))) (pds_one (pds_frz (i := 3) (pds_ret (pd_tup (pda_cons (pd_call G_L_take (hr.mono (by decide)) rfl T.g_L_take T.F_L_take.kp T.b_L_take_2 (pda_cons (pd_var 0) (pda_cons (pd_var 2) (pda_nil)))) (pda_cons (pd_call G_L_take (hr.mono (by decide)) rfl T.g_L_take T.F_L_take.kp T.b_L_take_2 (pda_cons (pd_var 0) (pda_cons (pd_var 2) (pda_nil)))) (pda_cons (pd_var 3) (pda_nil))))))))))
    sem_L_free_row
def sp_L_copy : FS := fun ds ms P => match ds with
  | [d] => ∃ r : Rw, d = rwD r ∧ r.ws.length ≤ 1000 ∧ ∀ y : LR, y.rw = r → Frsh (wsM y.a y.bs) ms → P (lrD y) (wsM y.a y.bs ++ ms)
  | _ => False
theorem len_L_copy : ∀ ds ms Q, sp_L_copy ds ms Q → ds.length = 1 := fun ds ms Q h => by
  unfold sp_L_copy at h
  split at h <;> first | rfl | exact h.elim
def t_L_copy : DTS := dRet (dTup (aCons (dOp fIx (dVar 0) (dC (.int 0))) (aCons (dOp fIx (dVar 0) (dC (.int 1))) (aCons (dLcM (iSeq (dOp fIx (dVar 0) (dC (.int 2)))) (sTup 2 (sCons (sName 1) (sCons (sName 2) (sNil)))) (dYes) (dTup (aCons (dVar 1) (aCons (dCB cListM (aCons (dVar 2) (aNil))) (aNil)))) [1, 2]) (aNil)))))
theorem sem_L_copy : ∀ ds ms Q, sp_L_copy ds ms Q → t_L_copy { nx := fun _ m => Q .non m, rt := Q } (startD 3 ds) ms := by
  intro ds ms Q h
  unfold sp_L_copy at h
  split at h
  · obtain ⟨r, rfl, hl, h⟩ := h
    simp only [startD]
    unfold t_L_copy rwD
    walk_at "st"
    simp only [wipeD, List.set]
    refine (show compD _ _ _ _ _ (([] : List LW).map lwD) _ _ from ?_)
    refine comp_new wiD lwD (fun w b => b.w = w) (fun bs m => m = wsN bs ++ ms ∧ Frsh (wsN bs) ms) r.ws [] _ _ (by rw [List.length_nil]; omega) ⟨rfl, trivial⟩ (fun w hw bs m hJ K hK => ?_) ?_
    · obtain ⟨rfl, fr0⟩ := hJ
      unfold wiD
      walk_at "st"
      intro q hq
      walk_at "st"
      exact hK ⟨w, q⟩ _ rfl ⟨by rw [wsN_snoc]; rfl, by rw [wsN_snoc]; exact ⟨hq, fr0⟩⟩
    intro bs m at_ hJ
    obtain ⟨rfl, fr0⟩ := hJ
    rw [List.nil_append] at fr0 ⊢
    intro q hq
    walk_at "st"
    have e : bs.map LW.w = r.ws := (fall_map (h := LW.w) (f := id) (fun _ _ e => e) at_).trans (List.map_id _)
    exact h ⟨r.s, r.t, q, bs⟩ (by unfold LR.rw; rw [e]) ⟨hq, fr0⟩
  · exact h.elim
theorem ok_L_copy (T : Tx P K mg) : FnG P w K mg base 1 T.f_L_copy T.d_L_copy ["_law_row"] (spD K sp_L_copy) := by
  exact fnG_of (k := 0) (t := t_L_copy) T.F_L_copy sc_L_copy len_L_copy
    (fun cdv A outer s H hr => pds_one (pds_ret (pd_tup (pda_cons (pd_ix ix_seq opd_ix (pd_var 0) (pd_int)) (pda_cons (pd_ix ix_seq opd_ix (pd_var 0) (pd_int)) (pda_cons (pd_lcM (own := [("_law_word", 1), ("_law_line", 2)]) rfl sc_L_copy.nd (pdi_list (pd_ix ix_seq opd_ix (pd_var 0) (pd_int))) (blkOk_by (own := [("_law_word", 1), ("_law_line", 2)]) (by kernel_rfl)) (fun _ _ _ _ _ => pg_tup rfl (pgs_cons (pg_name (i := 1) sc_L_copy.nd rfl (by first | exact .inl rfl | exact .inr rfl)) (pgs_cons (pg_name (i := 2) sc_L_copy.nd rfl (by first | exact .inl rfl | exact .inr rfl)) (pgs_nil)))) (tg_tup (tgs_cons (tg_name (i := 1) (by decide)) (tgs_cons (tg_name (i := 2) (by decide)) (tgs_nil) (mon_name (i := 2))) (mon_name (i := 1)))) (mon_tup (mon_cons (mon_name (i := 1)) (mon_cons (mon_name (i := 2)) (mon_nil)))) (fun _ _ _ _ _ => pdts_nil) (fun _ _ _ _ _ => pd_tup (pda_cons (pd_var 1) (pda_cons (pd_callTy call_list_of cal_listM rfl T.n_list (by decide +kernel) (pda_cons (pd_var 2) (pda_nil))) (pda_nil))))) (pda_nil)))))))
    sem_L_copy
/-- what the law knows of a bench -/
def seatD (g : Pg) (gs : List Pg) : D := .lst [.tup [.lst (g.nm.map D.str), .lst (g.pm.map D.str)], .lst (g.rs.map rwD), .lst (gs.map fun h => .lst (h.rs.map rwD))]
def sp_L_shows : FS := fun ds ms P => match ds with
  | [.opq (.ref x), s] => ∃ (dx pa : Addr) (g : Pg) (gs : List Pg) (B : Nat) (m : MS), s = seatD g gs ∧ ms = bnM x dx pa g gs ++ m ∧ x ≠ pa ∧ PgOk B g ∧ B ≤ 1900 ∧ gs.length ≤ 900 ∧ flatM m ∧
      ∀ J ms', flatM J → ms'.Perm (bnM x dx pa g gs ++ (J ++ m)) → P (.bl true) ms'
  | _ => False
theorem len_L_shows : ∀ ds ms Q, sp_L_shows ds ms Q → ds.length = 2 := fun ds ms Q h => by
  unfold sp_L_shows at h
  split at h <;> first | rfl | exact h.elim
def t_L_shows : DTS := dSeq (dAsg (dVar 1) (sLst 3 (sCons (sName 2) (sCons (sName 3) (sCons (sName 4) (sNil)))))) (dSeq (dFor (iRange1 (aCons (dC (.int 2)) (aNil))) (sName 5) (dSeq (dHideS (dAsg (dMeth "Bench" "program" 0 0 [0] sp_p_Bench_program (dVar 0) (aNil) (aNil)) (sName 6))) (dSeq (dIfS (dOr (dTest (dOp fNe (dHide (dView 6 (dCB cRepr (aCons (dVar 6) (aNil))))) (dHide (dCB cRepr (aCons (dTup (aCons (dOp fIx (dVar 2) (dC (.int 0))) (aCons (dOp fIx (dVar 2) (dC (.int 1))) (aCons (dVar 3) (aNil))))) (aNil)))))) (dNot (dTest (dIsi .tuple (dVar 6))))) (dRet (dC (.bl false))) (dNext)) (dSeq (dDrop (dAppend (dOp fIx (dVar 6) (dC (.int 0))) (aCons (dC (.str "z")) (aNil)))) (dSeq (dDrop (dClear (dOp fIx (dVar 6) (dC (.int 1))))) (dSeq (dForE (dOp fIx (dVar 6) (dC (.int 2))) (sName 7) (dDrop (dAppend (dOp fIx (dVar 7) (dC (.int 2))) (aCons (dC .non) (aNil))))) (dDrop (dClear (dOp fIx (dVar 6) (dC (.int 2))))))))))) (dHideS (dRet (dAndV (dOp fEq (dMeth "Bench" "deeds" 0 0 [0] sp_p_Bench_deeds (dVar 0) (aNil) (aNil)) (dCB cLen (aCons (dVar 4) (aNil)))) (dAndV (dOp fEq (dCB (cLenO "Bench" sp_p_Bench___len__) (aCons (dVar 0) (aNil))) (dCB cLen (aCons (dVar 3) (aNil)))) (dOp fEq (dCB cRepr (aCons (dMeth "Bench" "keeps" 0 0 [0] sp_p_Bench_keeps (dVar 0) (aNil) (aNil)) (aNil))) (dC (.str "False"))))))))
theorem loop_lV {α : Type} {g : DG} {tb : DTS} {E : EN} (e : α → D) (all : List α) (I : List α → DS → MS → Prop) : ∀ (xs pre : List α) (ds : DS) (ms : MS), pre ++ xs = all → I pre ds ms →
    (∀ pre x rest ds ms, pre ++ x :: rest = all → I pre ds ms → ∀ N : DS → MS → Prop, (∀ ds' ms', I (pre ++ [x]) ds' ms' → N ds' ms') → g (e x) ds fun ds1 => tb (EN.lp E N) ds1 ms) →
    (∀ ds ms, I all ds ms → E.nx ds ms) → loopD g tb E (xs.map e) ds ms
  | [], pre, ds, ms, ha, h, _, q => q ds ms (by rw [List.append_nil] at ha; rw [← ha]; exact h)
  | x :: r, pre, ds, ms, ha, h, t, q => t pre x r ds ms ha h _ fun ds' ms' h' => loop_lV e all I r (pre ++ [x]) ds' ms' (by rw [List.append_assoc]; exact ha) h' t q
theorem frsh_iff : ∀ {L ms : MS}, Frsh L ms ↔ (L.map (·.1)).Nodup ∧ ∀ q ∈ L, ∀ e ∈ ms, e.1 ≠ q.1
  | [], ms => ⟨fun _ => ⟨List.nodup_nil, fun q h => by cases h⟩, fun _ => trivial⟩
  | q :: L, ms => by
    refine ⟨fun h => ⟨frsh_nd h, frsh_off h⟩, fun ⟨h1, h2⟩ => ?_⟩
    rw [List.map_cons, List.nodup_cons] at h1
    refine ⟨fun e he z => ?_, frsh_iff.mpr ⟨h1.2, fun r hr => h2 r (List.mem_cons_of_mem _ hr)⟩⟩
    rcases List.mem_append.mp he with he | he
    · exact h1.1 (by rw [← z]; exact List.mem_map_of_mem he)
    · exact h2 q List.mem_cons_self e he z
theorem frsh_perm {L M ms : MS} (p : L.Perm M) (h : Frsh L ms) : Frsh M ms := by
  obtain ⟨h1, h2⟩ := frsh_iff.mp h
  exact frsh_iff.mpr ⟨(p.map _).nodup_iff.mp h1, fun q hq => h2 q (p.mem_iff.mpr hq)⟩
theorem drp_in {a : Addr} {ys : List D} : ∀ {L ms : MS}, Frsh L ms → (a, ys) ∈ L → ∃ L', drp (L ++ ms) a = L' ++ ms ∧ ((a, ys) :: L').Perm L
  | [], _, _, h => by cases h
  | (b, zs) :: L, ms, ⟨h1, h2⟩, h => by
    by_cases e : b = a
    · subst e
      rcases List.mem_cons.mp h with z | h
      · cases z
        exact ⟨L, by show drp ((b, ys) :: (L ++ ms)) b = _; unfold drp; rw [if_pos rfl], .refl _⟩
      · exact absurd rfl (h1 (b, ys) (List.mem_append_left _ h))
    · rcases List.mem_cons.mp h with z | h
      · cases z; exact absurd rfl e
      · obtain ⟨L', e1, e2⟩ := drp_in h2 h
        refine ⟨(b, zs) :: L', ?_, (List.Perm.swap _ _ _).trans (e2.cons _)⟩
        show drp ((b, zs) :: (L ++ ms)) a = _
        conv => lhs; unfold drp
        rw [if_neg e, e1]; rfl
theorem put_mem_self {a : Addr} {ys : List D} : ∀ {M : MS}, a ∈ M.map (·.1) → (a, ys) ∈ put M a ys
  | [], h => by cases h
  | (b, xs) :: r, h => by
    unfold put
    by_cases e : b = a
    · rw [if_pos e, e]; exact List.mem_cons_self
    · rw [if_neg e]
      rcases List.mem_cons.mp h with z | h
      · exact absurd z.symm e
      · exact List.mem_cons_of_mem _ (put_mem_self h)
theorem put_mem_ne {a : Addr} {ys : List D} {e : Addr × List D} : ∀ {M : MS}, e ∈ M → e.1 ≠ a → e ∈ put M a ys
  | [], h, _ => by cases h
  | (b, xs) :: r, h, ne => by
    unfold put
    rcases List.mem_cons.mp h with rfl | h
    · rw [if_neg ne]; exact List.mem_cons_self
    · by_cases z : b = a
      · rw [if_pos z]; exact List.mem_cons_of_mem _ h
      · rw [if_neg z]; exact List.mem_cons_of_mem _ (put_mem_ne h ne)
theorem flatM_nil : flatM [] := fun _ h => by cases h
/-- a list of a program told, by its address -/
theorem adr_mem {a : Addr} {ys : List D} {M : MS} (h : (a, ys) ∈ M) : a ∈ M.map (·.1) := List.mem_map_of_mem (f := (·.1)) h
theorem sem_L_shows : ∀ ds ms Q, sp_L_shows ds ms Q → t_L_shows { nx := fun _ m => Q .non m, rt := Q } (startD 8 ds) ms := by
  intro ds ms Q h
  unfold sp_L_shows at h
  split at h
  · rename_i x s
    obtain ⟨dx, pa, g, gs, B, m0, rfl, rfl, ne, ok, hB, gl, fm, h⟩ := h
    simp only [startD]
    unfold t_L_shows seatD
    walk_at "st"
    have rl := ok.rl
    refine loop_inv (fun ds m => ∃ J, flatM J ∧ m.Perm (bnM x dx pa g gs ++ (J ++ m0)) ∧ ∃ x5 x6 x7, ds = [some (.opq (.ref x)), some (seatD g gs), some (.tup [.lst (g.nm.map D.str), .lst (g.pm.map D.str)]), some (.lst (g.rs.map rwD)), some (.lst (gs.map fun h => .lst (h.rs.map rwD))), x5, x6, x7]) _ _ _ ⟨[], flatM_nil, .refl _, _, _, _, rfl⟩ ?_ ?_
    · rintro y hy ds m ⟨J, fJ, pm, x5, x6, x7, rfl⟩ N hN
      walk_at "st"
      refine StG.out (w_hideS [] (bnM x dx pa g gs ++ (J ++ m0)) pm.symm ?_)
      walk_at "st"
      refine ⟨dx, pa, g, gs, B, J ++ m0, rfl, ok, fun t L n p q xs pl f => ?_⟩
      walk_at "st"
      refine ExG.out (w_hide (bnM x dx pa g gs) (L ++ (J ++ m0)) (pm_swap ..) ?_)
      refine ExG.out (w_view L (J ++ m0) rfl rfl (vw_pg pl) rfl ?_)
      walk_at "st"
      have sh := (gd_pg ok hB).sd.shw
      refine ⟨sh, rfl, flatM_app fJ fm, L ++ (bnM x dx pa g gs ++ (J ++ m0)), pm_swap .., ?_⟩
      refine ExG.out (w_hide [] _ (.refl _) ?_)
      walk_at "st"
      refine ⟨sh, _, .refl _, ?_⟩
      walk_at "st"
      refine w_iteF (by show (!(repS (pgD g) == repS (pgD g))) = false; simp) ?_
      have et := pl.is
      subst et
      walk_at "st"
      refine w_mApp (look_in (L := L) f pl.mn) ?_
      walk_at "st"
      refine w_mApp2 (look_in (L := L) f pl.mn) (put_app (M := L) (adr_mem pl.mn)) ⟨Nat.lt_of_lt_of_le (show (g.nm.map D.str).length < 10 by rw [List.length_map]; have := ok.nm.l2; omega) (by decide), ?_⟩
      obtain ⟨nn, nd⟩ := List.nodup_cons.mp pl.nd
      obtain ⟨np, nd⟩ := List.nodup_cons.mp nd
      obtain ⟨nq, nd⟩ := List.nodup_cons.mp nd
      have rowOff : ∀ x ∈ xs, n ≠ x.a ∧ p ≠ x.a ∧ q ≠ x.a := fun x hx => by
        have hm : x.a ∈ xs.flatMap adrs := List.mem_flatMap.mpr ⟨x, hx, List.mem_cons_self⟩
        exact ⟨fun z => nn (z ▸ List.mem_cons_of_mem _ (List.mem_cons_of_mem _ hm)), fun z => np (z ▸ List.mem_cons_of_mem _ hm), fun z => nq (z ▸ hm)⟩
      have npn : p ≠ n := fun z => nn (z ▸ List.mem_cons_self)
      have nqn : q ≠ n := fun z => nn (z ▸ List.mem_cons_of_mem _ List.mem_cons_self)
      have nqp : q ≠ p := fun z => np (z ▸ List.mem_cons_self)
      have f1 := frsh_map (put_adr n (g.nm.map D.str ++ [.str "z"]) L) f
      have fl1 := put_flat (a := n) pl.fl (ys := g.nm.map D.str ++ [.str "z"]) (flats_app (flats_strs _) rfl)
      have mp1 := put_mem_ne (a := n) (ys := g.nm.map D.str ++ [.str "z"]) pl.mp npn
      have mq1 := put_mem_ne (a := n) (ys := g.nm.map D.str ++ [.str "z"]) pl.mq nqn
      have mr1 : ∀ x ∈ xs, (x.a, x.bs.map lwD) ∈ put L n (g.nm.map D.str ++ [.str "z"]) := fun x hx => put_mem_ne (pl.mr x hx _ List.mem_cons_self) (rowOff x hx).1.symm
      generalize put L n (g.nm.map D.str ++ [.str "z"]) = L1 at f1 fl1 mp1 mq1 mr1 ⊢
      walk_at "st"
      refine w_mClear (look_in (L := L1) f1 mp1) (put_app (M := L1) (adr_mem mp1)) ?_
      have f2 := frsh_map (put_adr p [] L1) f1
      have fl2 := put_flat (a := p) fl1 (ys := []) rfl
      have mq2 := put_mem_ne (a := p) (ys := []) mq1 nqp
      have mr2 : ∀ x ∈ xs, (x.a, x.bs.map lwD) ∈ put L1 p [] := fun x hx => put_mem_ne (mr1 x hx) (rowOff x hx).2.1.symm
      generalize put L1 p [] = L2 at f2 fl2 mq2 mr2 ⊢
      walk_at "st"
      refine (show dForE _ _ _ _ _ _ from w_forE ?_)
      walk_at "st"
      obtain ⟨L3, e3, p3⟩ := drp_in f2 mq2
      refine w_mForE (look_in (L := L2) f2 mq2) e3 ?_
      have f3 := (frsh_perm p3.symm f2).2
      have fl3 : flatM L3 := fun e he => fl2 e (p3.mem_iff.mp (List.mem_cons_of_mem _ he))
      have mr3 : ∀ x ∈ xs, (x.a, x.bs.map lwD) ∈ L3 := fun x hx => by
        rcases List.mem_cons.mp (p3.mem_iff.mpr (mr2 x hx)) with z | z
        · exact absurd (congrArg Prod.fst z).symm (rowOff x hx).2.2
        · exact z
      have xl : xs.length ≤ 10 := by have := congrArg List.length pl.rs; rw [List.length_map] at this; omega
      have bl : ∀ x ∈ xs, x.bs.length ≤ 12 := fun x hx => by
        have := (ok.ro x.rw (by rw [← pl.rs]; exact List.mem_map_of_mem hx)).wl
        unfold LR.rw at this
        rwa [List.length_map] at this
      refine loop_lV lrD xs (fun pre ds m => ∃ M, m = M ++ (bnM x dx pa g gs ++ (J ++ m0)) ∧ Frsh M (bnM x dx pa g gs ++ (J ++ m0)) ∧ flatM M ∧ (∀ z ∈ xs, ∃ ys, (z.a, ys) ∈ M ∧ nofld ys = true ∧ ys.length ≤ 20 + pre.length) ∧ ∃ x7, ds = [some (.opq (.ref x)), some (seatD g gs), some (.tup [.lst (g.nm.map D.str), .lst (g.pm.map D.str)]), some (.lst (g.rs.map rwD)), some (.lst (gs.map fun h => .lst (h.rs.map rwD))), some y, some (.tup [.opq (.ref n), .opq (.ref p), .opq (.ref q)]), x7]) xs [] _ _ rfl ⟨L3, rfl, f3, fl3, fun z hz => ⟨_, mr3 z hz, nofld_map _ (fun _ => rfl) _, by rw [List.length_map]; have := bl z hz; omega⟩, _, rfl⟩ ?_ ?_
      · rintro pre z rest ds m hsp ⟨M, rfl, fM, flM, rM, y7, rfl⟩ G hG
        have hz : z ∈ xs := by rw [← hsp]; simp
        have hpl : pre.length ≤ 10 := by have := congrArg List.length hsp; rw [List.length_append] at this; omega
        obtain ⟨ys, hy1, hy2, hy3⟩ := rM z hz
        unfold lrD
        walk_at "st"
        refine w_mApp (look_in (L := M) fM hy1 hy2) ?_
        walk_at "st"
        refine w_mApp2 (look_in (L := M) fM hy1 hy2) (put_app (M := M) (adr_mem hy1)) ⟨Nat.lt_of_lt_of_le (show ys.length < 100 by omega) (by decide), ?_⟩
        walk_at "st"
        refine hG _ _ ⟨put M z.a (ys ++ [.non]), rfl, frsh_map (put_adr ..) fM, put_flat flM (flats_app (flM _ hy1) rfl), fun w hw => ?_, _, rfl⟩
        obtain ⟨vs, hv1, hv2, hv3⟩ := rM w hw
        by_cases ez : w.a = z.a
        · rw [ez]
          exact ⟨_, put_mem_self (adr_mem hy1), nofld_app hy2 rfl, by rw [List.length_append, List.length_append, List.length_singleton, List.length_singleton]; omega⟩
        · exact ⟨_, put_mem_ne hv1 ez, hv2, by rw [List.length_append, List.length_singleton]; omega⟩
      · rintro ds m ⟨M, rfl, fM, flM, rM, y7, rfl⟩
        unfold EN.parkN
        intro hq
        change NxG (EN.wn (EN.lp _ _) _) _ _
        walk_at "st"
        refine hN _ _ ⟨((q, []) :: M) ++ J, flatM_app (flatM_cons flM rfl) fJ, ?_, _, _, _, rfl⟩
        show ((q, []) :: (M ++ (bnM x dx pa g gs ++ (J ++ m0))) : MS).Perm _
        rw [List.append_assoc]
        exact pm_swap ((q, []) :: M) (bnM x dx pa g gs) (J ++ m0)
    · rintro ds m ⟨J, fJ, pm, x5, x6, x7, rfl⟩
      walk_at "st"
      refine StG.out (w_hideS [] (bnM x dx pa g gs ++ (J ++ m0)) pm.symm ?_)
      walk_at "st"
      refine ⟨dx, pa, g, gs, J ++ m0, rfl, ne, by omega, ?_⟩
      walk_at "st"
      rw [List.length_map]
      refine w_iteT (by simp) ?_
      walk_at "st"
      refine CbG.out (w_mLenO lookU_new0 (by decide) ?_)
      refine ⟨dx, pa, g, gs, J ++ m0, rfl, by omega, _, rfl, by omega, by omega, ?_⟩
      walk_at "st"
      rw [List.length_map]
      refine w_iteT (by simp) ?_
      walk_at "st"
      refine ⟨dx, pa, g, gs, J ++ m0, rfl, ?_⟩
      walk_at "st"
      refine ⟨(sm_bl false).shw, ?_⟩
      walk_at "st"
      rw [show (repS (D.bl false) == "False") = true by decide +kernel]
      exact h J _ fJ (.refl _)
  · exact h.elim
theorem ok_L_shows (T : Tx P K mg) : FnG P w K mg base 5 T.f_L_shows T.d_L_shows ["_law_desk", "_law_seat"] (spD K sp_L_shows) := by
  have G_p_Bench_program := ok_p_Bench_program (P := P) (w := w) (base := base) T
  have G_p_Bench_deeds := ok_p_Bench_deeds (P := P) (w := w) (base := base) T
  have G_p_Bench___len__ := ok_p_Bench___len__ (P := P) (w := w) (base := base) T
  have G_p_Bench_keeps := ok_p_Bench_keeps (P := P) (w := w) (base := base) T
  exact fnG_of (k := 4) (t := t_L_shows) T.F_L_shows sc_L_shows len_L_shows
    (fun cdv A outer s H hr => pds_cons (pds_asg (vs := [2, 3, 4]) (pd_var 1) (pg_lst rfl (pgs_cons (pg_name (i := 2) sc_L_shows.nd rfl (.inl rfl)) (pgs_cons (pg_name (i := 3) sc_L_shows.nd rfl (.inl rfl)) (pgs_cons (pg_name (i := 4) sc_L_shows.nd rfl (.inl rfl)) (pgs_nil))))) (tg_lst (tgs_cons (tg_name (i := 2) (by decide)) (tgs_cons (tg_name (i := 3) (by decide)) (tgs_cons (tg_name (i := 4) (by decide)) (tgs_nil) (mon_name (i := 4))) (mon_name (i := 3))) (mon_name (i := 2))))) (pds_cons (pds_for (vs := [5]) rfl (pdi_range1 rfl T.n_range (pda_cons (pd_int) (pda_nil))) (pg_name (i := 5) sc_L_shows.nd rfl (.inl rfl)) (tg_name (i := 5) (by decide)) (pds_cons (pds_hide (pds_set (i := 6) sc_L_shows.nd rfl (.inl rfl) (pd_meth0 T.K_p_Bench_program G_p_Bench_program (hr.mono (by decide)) T.b_p_Bench_program_1 (pd_var 0)))) (pds_cons (pds_if (pdt_w (pdw_or (pdt_cmp (op_neF hr.r.units) opd_ne (pd_hide (pd_view (i := 6) (pd_callB (call_reprD hr) cal_repr rfl T.n_repr (by decide +kernel) (pda_cons (pd_var 6) (pda_nil))))) (pd_hide (pd_callB (call_reprD hr) cal_repr rfl T.n_repr (by decide +kernel) (pda_cons (pd_tup (pda_cons (pd_ix ix_seq opd_ix (pd_var 2) (pd_int)) (pda_cons (pd_ix ix_seq opd_ix (pd_var 2) (pd_int)) (pda_cons (pd_var 3) (pda_nil))))) (pda_nil))))) (pdw_or1 (pdt_not (pdt_val (pd_isi .tuple (by decide) rfl T.n_isinstance rfl T.n_tuple (by decide +kernel) (by decide) (by decide) (pd_var 6))))))) (pds_one (pds_ret (pd_bl))) (pds_nil)) (pds_cons (pds_expr (pd_append (pd_ix ix_seq opd_ix (pd_var 6) (pd_int)) (pda_cons (pd_str) (pda_nil)))) (pds_cons (pds_expr (pd_clear (pd_ix ix_seq opd_ix (pd_var 6) (pd_int)))) (pds_cons (pds_forE (us := [7]) rfl (pd_ix ix_seq opd_ix (pd_var 6) (pd_int)) (pg_name (i := 7) sc_L_shows.nd rfl (.inl rfl)) (tg_name (i := 7) (by decide)) (pds_one (pds_expr (pd_append (pd_ix ix_seq opd_ix (pd_var 7) (pd_int)) (pda_cons (pd_non) (pda_nil)))))) (pds_one (pds_expr (pd_clear (pd_ix ix_seq opd_ix (pd_var 6) (pd_int))))))))))) (pds_one (pds_hide (pds_ret (pd_and (pd_cmp (op_eqF hr.r.units) opd_eq (pd_meth0 T.K_p_Bench_deeds G_p_Bench_deeds (hr.mono (by decide)) T.b_p_Bench_deeds_1 (pd_var 0)) (pd_callB call_len cal_len rfl T.n_len (by decide +kernel) (pda_cons (pd_var 4) (pda_nil)))) (pd_and (pd_cmp (op_eqF hr.r.units) opd_eq (pd_callB (call_lenO G_p_Bench___len__ (hr.mono (by decide)) T.b_p_Bench___len___1) (cal_lenO T.N_Bench) rfl T.n_len (by decide +kernel) (pda_cons (pd_var 0) (pda_nil))) (pd_callB call_len cal_len rfl T.n_len (by decide +kernel) (pda_cons (pd_var 3) (pda_nil)))) (pd_one (pd_cmp (op_eqF hr.r.units) opd_eq (pd_callB (call_reprD hr) cal_repr rfl T.n_repr (by decide +kernel) (pda_cons (pd_meth0 T.K_p_Bench_keeps G_p_Bench_keeps (hr.mono (by decide)) T.b_p_Bench_keeps_1 (pd_var 0)) (pda_nil))) (pd_str))))))))))
    sem_L_shows
def sp_L_put : FS := fun ds ms P => match ds with
  | [.opq (.ref x), s, d] => ∃ (dx pa : Addr) (g : Pg) (gs : List Pg) (B : Nat) (r : Rw) (m : MS), s = seatD g gs ∧ d = rwD r ∧ ms = bnM x dx pa g gs ++ m ∧ x ≠ pa ∧ PgOk B g ∧ B ≤ 1900 ∧ RwOk B g.nm.length g.pm.length r ∧ gs.length < 900 ∧ flatM m ∧
      (g.rs.length = 10 → ∀ J ms', flatM J → ms'.Perm (bnM x dx pa g gs ++ (J ++ m)) → P (seatD g gs) ms') ∧
      (g.rs.length < 10 → ∀ J ms', flatM J → ms'.Perm (bnM x dx pa (rowOn g r) (gs ++ [g]) ++ (J ++ m)) → P (seatD (rowOn g r) (gs ++ [g])) ms')
  | _ => False
theorem len_L_put : ∀ ds ms Q, sp_L_put ds ms Q → ds.length = 3 := fun ds ms Q h => by
  unfold sp_L_put at h
  split at h <;> first | rfl | exact h.elim
def t_L_put_c1 : DTS := dSeq (dHideS (dIfS (dTest (dOp fNe (dHide (dView 6 (dCB cRepr (aCons (dVar 6) (aNil))))) (dHide (dCB cRepr (aCons (dVar 2) (aNil)))))) (dRet (dC .non)) (dNext))) (dSeq (dForE (dOp fIx (dVar 6) (dC (.int 2))) (sTup 2 (sCons (sName 8) (sCons (sName 9) (sNil)))) (dSetIx (dVar 9) (dC (.int 0)) (dOp fAdd (dOp fIx (dVar 9) (dC (.int 0))) (dC (.int 1))))) (dSeq (dDrop (dClear (dOp fIx (dVar 6) (dC (.int 2))))) (dSeq (dIfS (dTest (dOp fEq (dCB cLen (aCons (dVar 4) (aNil))) (dC (.int 10)))) (dRet (dOp fIx (dLst (aCons (dC .non) (aCons (dVar 1) (aNil)))) (dCB cInt1 (aCons (dOp fEq (dVar 7) (dC (.str "full"))) (aNil))))) (dNext)) (dRet (dOp fIx (dLst (aCons (dC .non) (aCons (dLst (aCons (dVar 3) (aCons (dOp fAdd (dVar 4) (dLst (aCons (dVar 2) (aNil)))) (aCons (dOp fAdd (dVar 5) (dLst (aCons (dVar 4) (aNil)))) (aNil))))) (aNil)))) (dCB cInt1 (aCons (dOp fEq (dCB cRepr (aCons (dVar 7) (aNil))) (dCB cRepr (aCons (dCB cLen (aCons (dVar 4) (aNil))) (aNil)))) (aNil))))))))
def t_L_put : DTS := dSeq (dAsg (dVar 1) (sLst 3 (sCons (sName 3) (sCons (sName 4) (sCons (sName 5) (sNil)))))) (dSeq (dAsg (dCall 1 0 [0] sp_L_copy (aCons (dVar 2) (aNil)) (aNil)) (sName 6)) (dSeq (dAsg (dC .non) (sName 7)) (dSeq (dTryO0 ml_0 (dAsgZ (fun Z => dHideZ (fun Z => dMethZ "Bench" "put" 1 0 [0, 1] sx_p_Bench_put (dVar 0) (aCons (dVar 6) (aNil)) (aNil) Z) Z) (sName 7)) (dAsg (dC (.str "full")) (sName 7))) (t_L_put_c1))))
theorem frsh_ms {L ms ms' : MS} (e : ms.map (·.1) = ms'.map (·.1)) (h : Frsh L ms) : Frsh L ms' := by
  obtain ⟨h1, h2⟩ := frsh_iff.mp h
  refine frsh_iff.mpr ⟨h1, fun q hq x hx => ?_⟩
  have : x.1 ∈ ms.map (·.1) := by rw [e]; exact List.mem_map_of_mem hx
  obtain ⟨y, hy, ey⟩ := List.mem_map.mp this
  rw [← ey]
  exact h2 q hq y hy
theorem put_rest {Q : D → MS → Prop} {bn m : MS} {y : LR} {s0 s1 h0 f : D} {rs : List Rw} {ps : List D} {x8 x9 : Option D} {B sz pl : Nat} (ro : RwOk B sz pl y.rw) (hsz : sz ≤ 3) (hpl : pl ≤ 6) (hB : B ≤ 1900) (fr : Frsh (wsM y.a y.bs) (bn ++ m)) (fm : flatM m) (rl : rs.length ≤ 10)
    (h1 : rs.length = 10 → f = .str "full") (h2 : rs.length < 10 → f = .int (rs.length : Int)) (pl2 : ps.length < 1000)
    (h : ∀ M, flatM M → Q (if rs.length = 10 then s1 else .lst [h0, .lst ((rs ++ [y.rw]).map rwD), .lst (ps ++ [.lst (rs.map rwD)])]) (M ++ (bn ++ m))) :
    StG t_L_put_c1 { nx := fun _ m => Q .non m, rt := Q } [some s0, some s1, some (rwD y.rw), some h0, some (.lst (rs.map rwD)), some (.lst ps), some (lrD y), some f, x8, x9] (bn ++ (wsM y.a y.bs ++ m)) := by
  unfold t_L_put_c1
  refine w_seq ?_
  refine StG.out (w_hideS [] (wsM y.a y.bs ++ (bn ++ m)) (pm_swap (wsM y.a y.bs) bn m) ?_)
  have sh : Shw (rwD y.rw) := (gd_rw ro hsz hpl hB).sd.shw
  walk_at "st"
  refine ExG.out (w_hide bn (wsM y.a y.bs ++ m) (pm_swap ..) ?_)
  refine ExG.out (w_view (wsM y.a y.bs) m rfl rfl (vw_lr fun _ h => h) rfl ?_)
  walk_at "st"
  refine ⟨sh, rfl, fm, wsM y.a y.bs ++ (bn ++ m), pm_swap .., ?_⟩
  refine ExG.out (w_hide [] _ (.refl _) ?_)
  walk_at "st"
  refine ⟨sh, _, .refl _, ?_⟩
  walk_at "st"
  refine w_iteF (by simp) ?_
  walk_at "st"
  refine (show dForE _ _ _ _ _ _ from w_forE ?_)
  unfold lrD
  walk_at "st"
  refine w_mForE (m' := wsN y.bs ++ (bn ++ m)) look_new drp_new ?_
  obtain ⟨na, fN⟩ := fr
  refine loop_lV lwD y.bs (fun pre ds m' => ∃ M, m' = M ++ (bn ++ m) ∧ Frsh M (bn ++ m) ∧ flatM M ∧ M.map (·.1) = (wsN y.bs).map (·.1) ∧ (∀ z ∈ y.bs, ∃ (i : Int) (is : List Int), (z.a, D.int i :: is.map D.int) ∈ M) ∧ ∃ x8 x9, ds = [some s0, some s1, some (rwD y.rw), some h0, some (.lst (rs.map rwD)), some (.lst ps), some (.tup [.int y.s, .int y.t, .opq (.ref y.a)]), some f, x8, x9]) y.bs [] _ _ rfl
    ⟨wsN y.bs, rfl, fN, (fun e he => wsM_flat y.a y.bs e (List.mem_cons_of_mem _ he)), rfl, (fun z hz => ⟨z.w.l, z.w.fs, List.mem_reverse.mpr (List.mem_map_of_mem hz)⟩), _, _, rfl⟩ ?_ ?_
  · rintro pre z rest ds m' hsp ⟨M, rfl, fM, flM, ad, rM, x8, x9, rfl⟩ G hG
    have hz : z ∈ y.bs := by rw [← hsp]; simp
    obtain ⟨i, is, hi⟩ := rM z hz
    unfold lwD
    walk_at "st"
    refine w_ix_o (look_in (L := M) fM hi) (d := .int i) (atI_nat (j := 0) rfl) ?_
    walk_at "st"
    refine w_mSetIx (j := 0) (look_in (L := M) fM hi) (ixN_ok (i := 0) (by omega) (by rw [List.length_cons]; omega)) (put_app (M := M) (adr_mem hi)) ?_
    walk_at "st"
    refine hG _ _ ⟨put M z.a (.int (i + 1) :: is.map D.int), rfl, frsh_map (put_adr ..) fM, put_flat flM (flatsI ((i + 1) :: is)), (put_adr ..).trans ad, fun w hw => ?_, _, _, rfl⟩
    obtain ⟨j, js, hj⟩ := rM w hw
    by_cases ez : w.a = z.a
    · rw [ez]; exact ⟨_, _, put_mem_self (adr_mem hi)⟩
    · exact ⟨_, _, put_mem_ne hj ez⟩
  · rintro ds m' ⟨M, rfl, fM, flM, ad, rM, x8, x9, rfl⟩
    unfold EN.parkN
    intro hq
    change NxG (EN.wn _ _) _ _
    walk_at "st"
    rw [List.length_map]
    by_cases e : rs.length = 10
    · refine w_iteT (by rw [e]; rfl) ?_
      rw [h1 e]
      walk_at "st"
      have := h ((y.a, []) :: M) (flatM_cons flM rfl)
      rw [if_pos e] at this
      exact this
    · have e2 : rs.length < 10 := by omega
      refine w_iteF (by simp; omega) ?_
      rw [h2 e2]
      walk_at "st"
      refine ⟨size_ok (by simp; omega), ?_⟩
      walk_at "st"
      refine ⟨size_ok (by simp; omega), ?_⟩
      walk_at "st"
      have si : Shw (.int (rs.length : Int)) := (sm_int (n := 10) (by unfold Bd; omega)).shw
      refine ⟨si, ?_⟩
      walk_at "st"
      rw [List.length_map]
      refine ⟨si, ?_⟩
      walk_at "st"
      rw [show (if (repS (D.int (rs.length : Int)) == repS (D.int (rs.length : Int))) = true then (1 : Int) else 0) = 1 by simp]
      walk_at "st"
      have := h ((y.a, []) :: M) (flatM_cons flM rfl)
      rw [if_neg e, List.map_append] at this
      exact this
theorem sem_L_put : ∀ ds ms Q, sp_L_put ds ms Q → t_L_put { nx := fun _ m => Q .non m, rt := Q } (startD 10 ds) ms := by
  intro ds ms Q h
  unfold sp_L_put at h
  split at h
  · rename_i x s d
    obtain ⟨dx, pa, g, gs, B, r, m, rfl, rfl, rfl, ne, ok, hB, ro, gl, fm, h1, h2⟩ := h
    simp only [startD]
    unfold t_L_put
    rw [show seatD g gs = .lst [.tup [.lst (g.nm.map D.str), .lst (g.pm.map D.str)], .lst (g.rs.map rwD), .lst (gs.map fun h => .lst (h.rs.map rwD))] from rfl]
    walk_at "st"
    refine ⟨r, rfl, Nat.le_trans ro.wl (by decide), fun y e f => ?_⟩
    subst e
    walk_at "st"
    refine ExG.out (w_hideZ [] (bnM x dx pa g gs ++ (wsM y.a y.bs ++ m)) (pm_swap (bnM x dx pa g gs) (wsM y.a y.bs) m) ?_)
    walk_at "st"
    refine ⟨dx, pa, g, gs, B, B, y, m, rfl, rfl, ne, ok, ro, fm, by omega, fun e => ?_, fun e => ?_⟩
    · refine ⟨_, .refl _, ?_⟩
      walk_at "st"
      refine put_rest (sz := g.nm.length) (pl := g.pm.length) ro ok.nm.l2 ok.pm.l2 hB f fm ok.rl (fun _ => rfl) (fun z => absurd e (by omega)) (by rw [List.length_map]; omega) fun M fM => ?_
      rw [if_pos e]
      exact h1 e M _ fM (pm_swap ..)
    · refine ⟨_, .refl _, ?_⟩
      walk_at "st"
      refine put_rest (bn := bnM x dx pa (rowOn g y.rw) (gs ++ [g])) (sz := g.nm.length) (pl := g.pm.length) ro ok.nm.l2 ok.pm.l2 hB (frsh_ms (ms := bnM x dx pa g gs ++ m) (ms' := bnM x dx pa (rowOn g y.rw) (gs ++ [g]) ++ m) rfl f) fm ok.rl (fun z => absurd e (by omega)) (fun _ => rfl) (by rw [List.length_map]; omega) fun M fM => ?_
      rw [if_neg (by omega)]
      have := h2 e M _ fM (pm_swap ..)
      unfold seatD at this
      rw [List.map_append] at this
      exact this
  · exact h.elim
theorem ok_L_put (T : Tx P K mg) : FnG P w K mg base 8 T.f_L_put T.d_L_put ["_law_desk", "_law_seat", "_law_row"] (spD K sp_L_put) := by
  have G_p_Bench_put := ok_p_Bench_put (P := P) (w := w) (base := base) T
  have G_L_copy := ok_L_copy (P := P) (w := w) (base := base) T
  have X_p_Bench_put := okx_p_Bench_put (P := P) (w := w) (base := base) T
  exact fnG_of (k := 7) (t := t_L_put) T.F_L_put sc_L_put len_L_put
    (fun cdv A outer s H hr => pds_cons (pds_asg (vs := [3, 4, 5]) (pd_var 1) (pg_lst rfl (pgs_cons (pg_name (i := 3) sc_L_put.nd rfl (.inl rfl)) (pgs_cons (pg_name (i := 4) sc_L_put.nd rfl (.inl rfl)) (pgs_cons (pg_name (i := 5) sc_L_put.nd rfl (.inl rfl)) (pgs_nil))))) (tg_lst (tgs_cons (tg_name (i := 3) (by decide)) (tgs_cons (tg_name (i := 4) (by decide)) (tgs_cons (tg_name (i := 5) (by decide)) (tgs_nil) (mon_name (i := 5))) (mon_name (i := 4))) (mon_name (i := 3))))) (pds_cons (pds_set (i := 6) sc_L_put.nd rfl (.inl rfl) (pd_call G_L_copy (hr.mono (by decide)) rfl T.g_L_copy T.F_L_copy.kp T.b_L_copy_1 (pda_cons (pd_var 2) (pda_nil)))) (pds_cons (pds_set (i := 7) sc_L_put.nd rfl (.inl rfl) (pd_non)) (pds_cons (pds_tryO ⟨rfl, by decide, .inl T.gx_Full⟩ (mlE_b T.x_NoNumber T.x_Full T.m_NoNumber_Full (mlE_b T.x_NoProgram T.x_Full T.m_NoProgram_Full (mlE_b T.x_NoWishes T.x_Full T.m_NoWishes_Full (mlE_b T.x_NoRow T.x_Full T.m_NoRow_Full (mlE_b T.x_Full T.x_Full T.m_Full_Full (mlE_b T.x_Bare T.x_Full T.m_Bare_Full (mlE_nil))))))) (fun W q xe tk po => px_one (px_setZ (i := 7) sc_L_put.nd rfl (.inl rfl) (fun Z => pdz_hide (fun Z => pdz_meth tk T.K_p_Bench_put X_p_Bench_put (hr.mono (by decide)) T.b_p_Bench_put_2 (pd_var 0) (pda_cons (pd_var 6) (pda_nil)))))) (fun a q => pds_one (pds_set (i := 7) sc_L_put.nd rfl (.inl rfl) (pd_str)))) (pds_cons (pds_hide (pds_if (pdt_cmp (op_neF hr.r.units) opd_ne (pd_hide (pd_view (i := 6) (pd_callB (call_reprD hr) cal_repr rfl T.n_repr (by decide +kernel) (pda_cons (pd_var 6) (pda_nil))))) (pd_hide (pd_callB (call_reprD hr) cal_repr rfl T.n_repr (by decide +kernel) (pda_cons (pd_var 2) (pda_nil))))) (pds_one (pds_ret (pd_non))) (pds_nil))) (pds_cons (pds_forE (us := [8, 9]) rfl (pd_ix ix_seq opd_ix (pd_var 6) (pd_int)) (pg_tup rfl (pgs_cons (pg_name (i := 8) sc_L_put.nd rfl (.inl rfl)) (pgs_cons (pg_name (i := 9) sc_L_put.nd rfl (.inl rfl)) (pgs_nil)))) (tg_tup (tgs_cons (tg_name (i := 8) (by decide)) (tgs_cons (tg_name (i := 9) (by decide)) (tgs_nil) (mon_name (i := 9))) (mon_name (i := 8)))) (pds_one (pds_setIx (pd_op op_addD opd_add (pd_ix ix_seq opd_ix (pd_var 9) (pd_int)) (pd_int)) (pd_var 9) (pd_int)))) (pds_cons (pds_expr (pd_clear (pd_ix ix_seq opd_ix (pd_var 6) (pd_int)))) (pds_cons (pds_if (pdt_cmp (op_eqF hr.r.units) opd_eq (pd_callB call_len cal_len rfl T.n_len (by decide +kernel) (pda_cons (pd_var 4) (pda_nil))) (pd_int)) (pds_one (pds_ret (pd_ix ix_seq opd_ix (pd_lst (pda_cons (pd_non) (pda_cons (pd_var 1) (pda_nil)))) (pd_callTy call_int1 cal_int1 rfl T.n_int (by decide +kernel) (pda_cons (pd_cmp (op_eqF hr.r.units) opd_eq (pd_var 7) (pd_str)) (pda_nil)))))) (pds_nil)) (pds_one (pds_ret (pd_ix ix_seq opd_ix (pd_lst (pda_cons (pd_non) (pda_cons (pd_lst (pda_cons (pd_var 3) (pda_cons (pd_op op_addD opd_add (pd_var 4) (pd_lst (pda_cons (pd_var 2) (pda_nil)))) (pda_cons (pd_op op_addD opd_add (pd_var 5) (pd_lst (pda_cons (pd_var 4) (pda_nil)))) (pda_nil))))) (pda_nil)))) (pd_callTy call_int1 cal_int1 rfl T.n_int (by decide +kernel) (pda_cons (pd_cmp (op_eqF hr.r.units) opd_eq (pd_callB (call_reprD hr) cal_repr rfl T.n_repr (by decide +kernel) (pda_cons (pd_var 7) (pda_nil))) (pd_callB (call_reprD hr) cal_repr rfl T.n_repr (by decide +kernel) (pda_cons (pd_callB call_len cal_len rfl T.n_len (by decide +kernel) (pda_cons (pd_var 4) (pda_nil))) (pda_nil)))) (pda_nil))))))))))))))
    sem_L_put
def sp_L_taken : FS := fun ds ms P => match ds with
  | [.opq (.ref p), .opq (.ref x), s] => ∃ (dx pa : Addr) (g : Pg) (gs : List Pg) (B : Nat) (m : MS), s = seatD g gs ∧ ms = bnM x dx pa g gs ++ m ∧ x ≠ pa ∧ p ≠ x ∧ p ≠ pa ∧ PgOk B g ∧ B ≤ 1900 ∧ gs.length < 900 ∧ flatM m ∧ g.rs ≠ [] ∧ PoolAt m p ∧
      ∀ k J m' ms', k < g.rs.length → PoolAt m' p → Chg m p m' → flatM J → ms'.Perm (bnM x dx pa (rowOff g k) (gs ++ [g]) ++ (J ++ m')) → P (seatD (rowOff g k) (gs ++ [g])) ms'
  | _ => False
theorem len_L_taken : ∀ ds ms Q, sp_L_taken ds ms Q → ds.length = 3 := fun ds ms Q h => by
  unfold sp_L_taken at h
  split at h <;> first | rfl | exact h.elim
def t_L_taken : DTS := dSeq (dAsg (dVar 2) (sLst 3 (sCons (sName 3) (sCons (sName 4) (sCons (sName 5) (sNil)))))) (dSeq (dAsg (dCall 2 0 [0, 1] sp_L_take (aCons (dVar 0) (aCons (dCB cLen (aCons (dVar 4) (aNil))) (aNil))) (aNil)) (sName 6)) (dSeq (dAsg (dMeth "Bench" "take" 0 1 [0, 1] sp_p_Bench_take (dVar 1) (aNil) (aCons (dVar 6) (aNil))) (sName 7)) (dSeq (dIfS (dTest (dOp fNe (dHide (dView 7 (dCB cRepr (aCons (dVar 7) (aNil))))) (dHide (dCB cRepr (aCons (dOp fIx (dVar 4) (dVar 6)) (aNil)))))) (dRet (dC .non)) (dNext)) (dSeq (dDrop (dAppend (dOp fIx (dVar 7) (dC (.int 2))) (aCons (dC .non) (aNil)))) (dRet (dLst (aCons (dVar 3) (aCons (dOp fAdd (dSl (dVar 4) (oNone) (oSome (dVar 6))) (dSl (dVar 4) (oSome (dOp fAdd (dVar 6) (dC (.int 1)))) (oNone))) (aCons (dOp fAdd (dVar 5) (dLst (aCons (dVar 4) (aNil)))) (aNil))))))))))
/-- the pool behind a bench -/
theorem pool_bn {x dx pa p : Addr} {g : Pg} {gs : List Pg} {m : MS} (h : PoolAt m p) (n1 : p ≠ x) (n2 : p ≠ pa) : PoolAt (bnM x dx pa g gs ++ m) p := (h.cons n2).cons n1
theorem chg_bn {x dx pa p : Addr} {g : Pg} {gs : List Pg} {m m1 : MS} (n1 : p ≠ x) (n2 : p ≠ pa) (h : PoolAt m1 p) (c : Chg (bnM x dx pa g gs ++ m) p m1) : ∃ m', m1 = bnM x dx pa g gs ++ m' ∧ PoolAt m' p ∧ Chg m p m' := by
  obtain ⟨m2, rfl, c2⟩ := chg_cons n1 c
  obtain ⟨m3, rfl, c3⟩ := chg_cons n2 c2
  exact ⟨m3, rfl, (h.tail n1).tail n2, c3⟩
theorem sem_L_taken : ∀ ds ms Q, sp_L_taken ds ms Q → t_L_taken { nx := fun _ m => Q .non m, rt := Q } (startD 8 ds) ms := by
  intro ds ms Q h
  unfold sp_L_taken at h
  split at h
  · rename_i p x s
    obtain ⟨dx, pa, g, gs, B, m, rfl, rfl, ne, n1, n2, ok, hB, gl, fm, gn, hp, h⟩ := h
    have rl := ok.rl
    have r0 : 0 < g.rs.length := List.length_pos_iff.mpr gn
    simp only [startD]
    unfold t_L_taken
    rw [show seatD g gs = .lst [.tup [.lst (g.nm.map D.str), .lst (g.pm.map D.str)], .lst (g.rs.map rwD), .lst (gs.map fun h => .lst (h.rs.map rwD))] from rfl]
    walk_at "st"
    rw [List.length_map]
    refine take_step (pool_bn hp n1 n2) (by omega) (by omega) fun i i0 i1 m1 p1 c1 => ?_
    obtain ⟨m', rfl, p', c'⟩ := chg_bn n1 n2 p1 c1
    obtain ⟨k, rfl⟩ : ∃ k : Nat, i = k := ⟨i.toNat, by omega⟩
    have hk : k < g.rs.length := by omega
    have fm' := flatM_chg fm c'
    walk_at "st"
    refine ⟨dx, pa, g, gs, B, k, m', rfl, ne, ok, rfl, hk, by omega, fun q y e f => ?_⟩
    walk_at "st"
    have er : g.rs.getD k ⟨0, 0, []⟩ = g.rs[k] := by rw [List.getD_eq_getElem?_getD, List.getElem?_eq_getElem hk]; rfl
    have ro : RwOk B g.nm.length g.pm.length y.rw := by rw [e, er]; exact ok.ro _ (List.getElem_mem hk)
    have sh : Shw (rwD y.rw) := (gd_rw ro ok.nm.l2 ok.pm.l2 hB).sd.shw
    have inL : ∀ e ∈ wsM y.a y.bs, e ∈ rsM q [y] := fun e he => List.mem_cons_of_mem _ he
    refine ExG.out (w_hide (bnM x dx pa (rowOff g k) (gs ++ [g])) (rsM q [y] ++ m') (pm_swap ..) ?_)
    refine ExG.out (w_view (rsM q [y]) m' rfl rfl (vw_lr inL) rfl ?_)
    walk_at "st"
    refine ⟨sh, rfl, fm', rsM q [y] ++ (bnM x dx pa (rowOff g k) (gs ++ [g]) ++ m'), pm_swap .., ?_⟩
    refine ExG.out (w_hide [] _ (.refl _) ?_)
    walk_at "st"
    refine w_ix_l (d := rwD y.rw) (atI_nat (by rw [List.getElem?_map, List.getElem?_eq_getElem hk, e, er]; rfl)) ?_
    walk_at "st"
    refine ⟨sh, _, .refl _, ?_⟩
    walk_at "st"
    refine w_iteF (by simp) ?_
    rw [show lrD y = .tup [.int y.s, .int y.t, .opq (.ref y.a)] from rfl]
    have mem : (y.a, y.bs.map lwD) ∈ rsM q [y] := inL _ List.mem_cons_self
    walk_at "st"
    refine w_mApp (look_in (L := rsM q [y]) f mem) ?_
    walk_at "st"
    have bl : y.bs.length ≤ 12 := by have := ro.wl; unfold LR.rw at this; rwa [List.length_map] at this
    refine w_mApp2 (look_in (L := rsM q [y]) f mem) (put_app (M := rsM q [y]) (adr_mem mem)) ⟨Nat.lt_of_lt_of_le (show (y.bs.map lwD).length < 20 by rw [List.length_map]; omega) (by decide), ?_⟩
    walk_at "st"
    rw [show ((k : Int) + 1) = ((k + 1 : Nat) : Int) from rfl, cutL_to _ _ (Int.natCast_nonneg k), cutL_from _ _ (Int.natCast_nonneg (k + 1)), Int.toNat_natCast, Int.toNat_natCast]
    refine ⟨size_ok (by rw [List.length_take, List.length_drop, List.length_map]; omega), ?_⟩
    walk_at "st"
    refine ⟨size_ok (by simp; omega), ?_⟩
    walk_at "st"
    have := h k (put (rsM q [y]) y.a (y.bs.map lwD ++ [.non])) m' _ hk p' c' (put_flat (rsM_flat q [y]) (flats_app (flats_all lw_flat y.bs) rfl)) (pm_swap ..)
    unfold seatD at this
    rw [List.map_append] at this
    rw [← List.map_take, ← List.map_drop, ← List.map_append]
    exact this
  · exact h.elim
theorem ok_L_taken (T : Tx P K mg) : FnG P w K mg base 5 T.f_L_taken T.d_L_taken ["_law_pool_here", "_law_desk", "_law_seat"] (spD K sp_L_taken) := by
  have G_p_Bench_take := ok_p_Bench_take (P := P) (w := w) (base := base) T
  have G_L_take := ok_L_take (P := P) (w := w) (base := base) T
  exact fnG_of (k := 4) (t := t_L_taken) T.F_L_taken sc_L_taken len_L_taken
    (fun cdv A outer s H hr => pds_cons (pds_asg (vs := [3, 4, 5]) (pd_var 2) (pg_lst rfl (pgs_cons (pg_name (i := 3) sc_L_taken.nd rfl (.inl rfl)) (pgs_cons (pg_name (i := 4) sc_L_taken.nd rfl (.inl rfl)) (pgs_cons (pg_name (i := 5) sc_L_taken.nd rfl (.inl rfl)) (pgs_nil))))) (tg_lst (tgs_cons (tg_name (i := 3) (by decide)) (tgs_cons (tg_name (i := 4) (by decide)) (tgs_cons (tg_name (i := 5) (by decide)) (tgs_nil) (mon_name (i := 5))) (mon_name (i := 4))) (mon_name (i := 3))))) (pds_cons (pds_set (i := 6) sc_L_taken.nd rfl (.inl rfl) (pd_call G_L_take (hr.mono (by decide)) rfl T.g_L_take T.F_L_take.kp T.b_L_take_2 (pda_cons (pd_var 0) (pda_cons (pd_callB call_len cal_len rfl T.n_len (by decide +kernel) (pda_cons (pd_var 4) (pda_nil))) (pda_nil))))) (pds_cons (pds_set (i := 7) sc_L_taken.nd rfl (.inl rfl) (pd_methK0 T.K_p_Bench_take G_p_Bench_take (hr.mono (by decide)) T.b_p_Bench_take_1_number (pd_var 1) (pdk_cons (pd_var 6) (pdk_nil)))) (pds_cons (pds_if (pdt_cmp (op_neF hr.r.units) opd_ne (pd_hide (pd_view (i := 7) (pd_callB (call_reprD hr) cal_repr rfl T.n_repr (by decide +kernel) (pda_cons (pd_var 7) (pda_nil))))) (pd_hide (pd_callB (call_reprD hr) cal_repr rfl T.n_repr (by decide +kernel) (pda_cons (pd_ix ix_seq opd_ix (pd_var 4) (pd_var 6)) (pda_nil))))) (pds_one (pds_ret (pd_non))) (pds_nil)) (pds_cons (pds_expr (pd_append (pd_ix ix_seq opd_ix (pd_var 7) (pd_int)) (pda_cons (pd_non) (pda_nil)))) (pds_one (pds_ret (pd_lst (pda_cons (pd_var 3) (pda_cons (pd_op op_addD opd_add (pd_slice (pd_var 4) (pdo_none) (pdo_some (pd_var 6))) (pd_slice (pd_var 4) (pdo_some (pd_op op_addD opd_add (pd_var 6) (pd_int))) (pdo_none))) (pda_cons (pd_op op_addD opd_add (pd_var 5) (pd_lst (pda_cons (pd_var 4) (pda_nil)))) (pda_nil))))))))))))
    sem_L_taken
def sp_L_changed : FS := fun ds ms P => match ds with
  | [.opq (.ref p), .opq (.ref x), s] => ∃ (dx pa : Addr) (g : Pg) (gs : List Pg) (B : Nat) (m : MS), s = seatD g gs ∧ ms = bnM x dx pa g gs ++ m ∧ x ≠ pa ∧ p ≠ x ∧ p ≠ pa ∧ PgOk B g ∧ B ≤ 1900 ∧ gs.length < 900 ∧ flatM m ∧ g.rs ≠ [] ∧ PoolAt m p ∧
      ∀ k ws J m' ms', k < g.rs.length → ws.length ≤ 3 → (∀ w ∈ ws, WiOk 2 (2 * g.nm.length) w) → PoolAt m' p → Chg m p m' → flatM J → ms'.Perm (bnM x dx pa (rowNew g k ws) (gs ++ [g]) ++ (J ++ m')) → P (seatD (rowNew g k ws) (gs ++ [g])) ms'
  | _ => False
theorem len_L_changed : ∀ ds ms Q, sp_L_changed ds ms Q → ds.length = 3 := fun ds ms Q h => by
  unfold sp_L_changed at h
  split at h <;> first | rfl | exact h.elim
def t_L_changed : DTS := dSeq (dAsg (dVar 2) (sLst 3 (sCons (sName 3) (sCons (sName 4) (sCons (sName 5) (sNil)))))) (dSeq (dAsg (dCall 2 0 [0, 1] sp_L_take (aCons (dVar 0) (aCons (dCB cLen (aCons (dVar 4) (aNil))) (aNil))) (aNil)) (sName 6)) (dSeq (dAsg (dOp fIx (dCall 3 0 [0, 1, 2] sp_L_free_row (aCons (dVar 0) (aCons (dCB cLen (aCons (dOp fIx (dVar 3) (dC (.int 0))) (aNil))) (aCons (dCB cLen (aCons (dOp fIx (dVar 3) (dC (.int 1))) (aNil))) (aNil)))) (aNil)) (dC (.int 2))) (sName 7)) (dSeq (dAsg (dLcM (iSeq (dVar 7)) (sTup 2 (sCons (sName 8) (sCons (sName 9) (sNil)))) (dYes) (dTup (aCons (dVar 8) (aCons (dCB cListM (aCons (dVar 9) (aNil))) (aNil)))) [8, 9]) (sName 10)) (dSeq (dIfS (dOr (dTest (dOp fNotIs (dHide (dMeth "Bench" "change" 0 2 [0, 2, 1] sp_p_Bench_change (dVar 1) (aNil) (aCons (dVar 10) (aCons (dVar 6) (aNil))))) (dC .non))) (dTest (dOp fNe (dHide (dView 10 (dCB cRepr (aCons (dVar 10) (aNil))))) (dHide (dCB cRepr (aCons (dVar 7) (aNil))))))) (dRet (dC .non)) (dNext)) (dSeq (dDrop (dAppend (dVar 10) (aCons (dC .non) (aNil)))) (dSeq (dFor (iSeq (dSl (dVar 10) (oNone) (oSome (dNeg (dC (.int 1)))))) (sTup 2 (sCons (sName 8) (sCons (sName 9) (sNil)))) (dDrop (dClear (dVar 9)))) (dSeq (dAsg (dOp fIx (dVar 4) (dVar 6)) (sTup 3 (sCons (sName 11) (sCons (sName 12) (sCons (sName 13) (sNil)))))) (dRet (dLst (aCons (dVar 3) (aCons (dOp fAdd (dOp fAdd (dSl (dVar 4) (oNone) (oSome (dVar 6))) (dLst (aCons (dTup (aCons (dVar 11) (aCons (dVar 12) (aCons (dVar 7) (aNil))))) (aNil)))) (dSl (dVar 4) (oSome (dOp fAdd (dVar 6) (dC (.int 1)))) (oNone))) (aCons (dOp fAdd (dVar 5) (dLst (aCons (dVar 4) (aNil)))) (aNil)))))))))))))
theorem cut_last {α : Type} (xs : List α) (z : α) : cutL (xs ++ [z]) none (some (-1)) = xs := by
  unfold cutL
  rw [HT.sIx_none]
  have e : HT.sIx (xs ++ [z]).length (xs ++ [z]).length (some (-1)) = xs.length := by
    rw [List.length_append, List.length_singleton]
    unfold HT.sIx
    simp
    omega
  rw [e, Nat.sub_zero, List.drop_zero, List.take_left]
theorem w_sl_opq {p : Addr} {lo hi : Option Int} {m : MS} {xs : List D} {P : D → MS → Prop} (e : look m p = some xs) (h : P (.lst (cutL xs lo hi)) m) : SlG (.opq (.ref p)) lo hi m P := by
  unfold SlG fSl
  rw [show asL (D.opq (.ref p)) m = some xs from e]
  exact h
theorem sem_L_changed : ∀ ds ms Q, sp_L_changed ds ms Q → t_L_changed { nx := fun _ m => Q .non m, rt := Q } (startD 14 ds) ms := by
  intro ds ms Q h
  unfold sp_L_changed at h
  split at h
  · rename_i p x s
    obtain ⟨dx, pa, g, gs, B, m, rfl, rfl, ne, n1, n2, ok, hB, gl, fm, gn, hp, h⟩ := h
    have rl := ok.rl
    have r0 : 0 < g.rs.length := List.length_pos_iff.mpr gn
    simp only [startD]
    unfold t_L_changed
    rw [show seatD g gs = .lst [.tup [.lst (g.nm.map D.str), .lst (g.pm.map D.str)], .lst (g.rs.map rwD), .lst (gs.map fun h => .lst (h.rs.map rwD))] from rfl]
    walk_at "st"
    rw [List.length_map]
    refine take_step (pool_bn hp n1 n2) (by omega) (by omega) fun i i0 i1 m1 p1 c1 => ?_
    obtain ⟨m', rfl, p', c'⟩ := chg_bn n1 n2 p1 c1
    obtain ⟨k, rfl⟩ : ∃ k : Nat, i = k := ⟨i.toNat, by omega⟩
    have hk : k < g.rs.length := by omega
    walk_at "st"
    rw [List.length_map, List.length_map]
    refine ⟨g.nm.length, g.pm.length, rfl, rfl, pool_bn p' n1 n2, ok.nm.l1, ok.nm.l2, ok.pm.l1, ok.pm.l2, fun r ro rw3 m2 p2 c2 => ?_⟩
    obtain ⟨m3, rfl, p3, c3⟩ := chg_bn n1 n2 p2 c2
    have fm3 := flatM_chg (flatM_chg fm c') c3
    have cc := c'.trans c3
    rw [show rwD r = .tup [.int r.s, .int r.t, .lst (r.ws.map wiD)] from rfl]
    walk_at "st"
    simp only [wipeD, List.set]
    refine (show compD _ _ _ _ _ (([] : List LW).map lwD) _ _ from ?_)
    refine comp_new wiD lwD (fun w b => b.w = w) (fun bs m => m = wsN bs ++ (bnM x dx pa g gs ++ m3) ∧ Frsh (wsN bs) (bnM x dx pa g gs ++ m3)) r.ws [] _ _ (by rw [List.length_nil]; omega) ⟨rfl, trivial⟩ (fun w hw bs m hJ K hK => ?_) ?_
    · obtain ⟨rfl, fr0⟩ := hJ
      unfold wiD
      walk_at "st"
      intro q hq
      walk_at "st"
      exact hK ⟨w, q⟩ _ rfl ⟨by rw [wsN_snoc]; rfl, by rw [wsN_snoc]; exact ⟨hq, fr0⟩⟩
    intro bs m hJ0 hJ
    obtain ⟨rfl, fr0⟩ := hJ
    rw [List.nil_append] at fr0 ⊢
    have eb : bs.map LW.w = r.ws := (fall_map (h := LW.w) (f := id) (fun _ _ e => e) hJ0).trans (List.map_id _)
    intro q hq
    have fr : Frsh (wsM q bs) (bnM x dx pa g gs ++ m3) := ⟨hq, fr0⟩
    have bl : bs.length ≤ 3 := by have := congrArg List.length eb; rw [List.length_map] at this; omega
    have bo : ∀ b ∈ bs, WiOk 2 (2 * g.nm.length) b.w := fun b hb => ro.wo b.w (by rw [← eb]; exact List.mem_map_of_mem hb)
    rw [← eb]
    have sh : Shw (.lst ((bs.map LW.w).map wiD)) := by
      refine (gd_lst (n := 14200) (k := 2) fun z hz => ?_).sd.shw ?_ (by decide)
      · rw [List.map_map] at hz
        obtain ⟨b, hb, rfl⟩ := List.mem_map.mp hz
        exact gd_wi (bo b hb) (by have := ok.nm.l2; omega)
      · rw [List.length_map, List.length_map]
        omega
    walk_at "st"
    refine ExG.out (w_hide [] (bnM x dx pa g gs ++ (wsM q bs ++ m3)) (pm_swap (bnM x dx pa g gs) (wsM q bs) m3) ?_)
    walk_at "st"
    refine ⟨dx, pa, g, gs, B, 2, k, bs, m3, rfl, ne, ok, rfl, hk, bo, by omega, fm3, by omega, ?_⟩
    refine ⟨wsM q bs ++ (bnM x dx pa (rowNew g k (bs.map LW.w)) (gs ++ [g]) ++ m3), pm_swap (bnM x dx pa (rowNew g k (bs.map LW.w)) (gs ++ [g])) (wsM q bs) m3, ?_⟩
    walk_at "st"
    refine ExG.out (w_hide (bnM x dx pa (rowNew g k (bs.map LW.w)) (gs ++ [g])) (wsM q bs ++ m3) (pm_swap ..) ?_)
    refine ExG.out (w_view (wsM q bs) m3 rfl rfl (vw_ws fun _ h => h) rfl ?_)
    walk_at "st"
    refine ⟨sh, rfl, fm3, wsM q bs ++ (bnM x dx pa (rowNew g k (bs.map LW.w)) (gs ++ [g]) ++ m3), pm_swap .., ?_⟩
    refine ExG.out (w_hide [] _ (.refl _) ?_)
    walk_at "st"
    refine ⟨sh, _, .refl _, ?_⟩
    walk_at "st"
    refine w_iteF (by simp) ?_
    walk_at "st"
    refine ⟨Nat.lt_of_lt_of_le (show (bs.map lwD).length < 20 by rw [List.length_map]; omega) (by decide), ?_⟩
    walk_at "st"
    refine w_sl_opq look_new ?_
    rw [cut_last]
    walk_at "st"
    obtain ⟨na, fN⟩ := fr
    have fN2 := frsh_ms (ms := bnM x dx pa g gs ++ m3) (ms' := bnM x dx pa (rowNew g k (bs.map LW.w)) (gs ++ [g]) ++ m3) rfl fN
    have mr : ∀ z ∈ bs, lwM z ∈ wsN bs := fun z hz => List.mem_reverse.mpr (List.mem_map_of_mem hz)
    have naq : ∀ z ∈ bs, q ≠ z.a := fun z hz => fun e => na _ (List.mem_append_left _ (mr z hz)) e.symm
    refine loop_lV lwD bs (fun pre ds m' => ∃ M, m' = (q, bs.map lwD ++ [D.non]) :: (M ++ (bnM x dx pa (rowNew g k (bs.map LW.w)) (gs ++ [g]) ++ m3)) ∧ Frsh M (bnM x dx pa (rowNew g k (bs.map LW.w)) (gs ++ [g]) ++ m3) ∧ flatM M ∧ (∀ z ∈ bs, ∃ ys, (z.a, ys) ∈ M ∧ nofld ys = true) ∧ ∃ x8 x9, ds = [some (.opq (.ref p)), some (.opq (.ref x)), some (seatD g gs), some (.tup [.lst (g.nm.map D.str), .lst (g.pm.map D.str)]), some (.lst (g.rs.map rwD)), some (.lst (gs.map fun h => .lst (h.rs.map rwD))), some (.int k), some (.lst ((bs.map LW.w).map wiD)), x8, x9, some (.opq (.ref q)), none, none, none]) bs [] _ _ rfl
      ⟨wsN bs, rfl, fN2, (fun e he => wsM_flat q bs e (List.mem_cons_of_mem _ he)), (fun z hz => ⟨_, mr z hz, nofld_map _ (fun _ => rfl) _⟩), _, _, rfl⟩ ?_ ?_
    · rintro pre z rest ds m' hsp ⟨M, rfl, fM, flM, rM, x8, x9, rfl⟩ G hG
      have hz : z ∈ bs := by rw [← hsp]; simp
      obtain ⟨ys, hy, ny⟩ := rM z hz
      rw [show lwD z = .tup [wdD z.w.j, .opq (.ref z.a)] from rfl]
      walk_at "st"
      refine w_mClear (xs := ys) (m' := (q, bs.map lwD ++ [D.non]) :: (put M z.a [] ++ (bnM x dx pa (rowNew g k (bs.map LW.w)) (gs ++ [g]) ++ m3))) ?_ ?_ ?_
      · rw [look, if_neg (naq z hz)]; exact look_in (L := M) fM hy ny
      · rw [put, if_neg (naq z hz), put_app (M := M) (adr_mem hy)]
      walk_at "st"
      refine hG _ _ ⟨put M z.a [], rfl, frsh_map (put_adr ..) fM, put_flat flM rfl, fun w hw => ?_, _, _, rfl⟩
      obtain ⟨vs, hv, nv⟩ := rM w hw
      by_cases ez : w.a = z.a
      · rw [ez]; exact ⟨_, put_mem_self (adr_mem hy), rfl⟩
      · exact ⟨_, put_mem_ne hv ez, nv⟩
    · rintro ds m' ⟨M, rfl, fM, flM, rM, x8, x9, rfl⟩
      walk_at "st"
      refine w_ix_l (d := rwD (g.rs.getD k ⟨0, 0, []⟩)) (atI_nat (by rw [List.getElem?_map, List.getD_eq_getElem?_getD, List.getElem?_eq_getElem hk]; rfl)) ?_
      rw [show rwD (g.rs.getD k ⟨0, 0, []⟩) = .tup [.int (g.rs.getD k ⟨0, 0, []⟩).s, .int (g.rs.getD k ⟨0, 0, []⟩).t, .lst ((g.rs.getD k ⟨0, 0, []⟩).ws.map wiD)] from rfl]
      walk_at "st"
      rw [cutL_to _ _ (Int.natCast_nonneg k), Int.toNat_natCast]
      refine ⟨size_ok (by rw [List.length_take, List.length_map, List.length_singleton]; omega), ?_⟩
      walk_at "st"
      rw [show ((k : Int) + 1) = ((k + 1 : Nat) : Int) from rfl, cutL_from _ _ (Int.natCast_nonneg (k + 1)), Int.toNat_natCast]
      refine ⟨size_ok (by rw [List.length_append, List.length_take, List.length_drop, List.length_map, List.length_singleton]; omega), ?_⟩
      walk_at "st"
      refine ⟨size_ok (by simp; omega), ?_⟩
      walk_at "st"
      have := h k (bs.map LW.w) ((q, bs.map lwD ++ [.non]) :: M) m3 _ hk (by rw [List.length_map]; exact bl) (fun w hw => by
        obtain ⟨b, hb, rfl⟩ := List.mem_map.mp hw
        exact bo b hb) p3 cc (flatM_cons flM (flats_app (flats_all lw_flat bs) rfl)) (pm_swap ((q, bs.map lwD ++ [.non]) :: M) (bnM x dx pa (rowNew g k (bs.map LW.w)) (gs ++ [g])) m3)
      unfold seatD at this
      rw [List.map_append] at this
      rw [← List.map_take, ← List.map_drop]
      rw [show (rowNew g k (bs.map LW.w)).rs.map rwD = (g.rs.take k).map rwD ++ [D.tup [.int (g.rs.getD k ⟨0, 0, []⟩).s, .int (g.rs.getD k ⟨0, 0, []⟩).t, .lst ((bs.map LW.w).map wiD)]] ++ (g.rs.drop (k + 1)).map rwD by
        show List.map rwD (_ ++ _ :: _) = _
        rw [List.map_append, List.map_cons, List.append_assoc]; rfl] at this
      exact this
  · exact h.elim
theorem ok_L_changed (T : Tx P K mg) : FnG P w K mg base 7 T.f_L_changed T.d_L_changed ["_law_pool_here", "_law_desk", "_law_seat"] (spD K sp_L_changed) := by
  have G_p_Bench_change := ok_p_Bench_change (P := P) (w := w) (base := base) T
  have G_L_take := ok_L_take (P := P) (w := w) (base := base) T
  have G_L_free_row := ok_L_free_row (P := P) (w := w) (base := base) T
  exact fnG_of (k := 6) (t := t_L_changed) T.F_L_changed sc_L_changed len_L_changed
    (fun cdv A outer s H hr => pds_cons (pds_asg (vs := [3, 4, 5]) (pd_var 2) (pg_lst rfl (pgs_cons (pg_name (i := 3) sc_L_changed.nd rfl (.inl rfl)) (pgs_cons (pg_name (i := 4) sc_L_changed.nd rfl (.inl rfl)) (pgs_cons (pg_name (i := 5) sc_L_changed.nd rfl (.inl rfl)) (pgs_nil))))) (tg_lst (tgs_cons (tg_name (i := 3) (by decide)) (tgs_cons (tg_name (i := 4) (by decide)) (tgs_cons (tg_name (i := 5) (by decide)) (tgs_nil) (mon_name (i := 5))) (mon_name (i := 4))) (mon_name (i := 3))))) (pds_cons (pds_set (i := 6) sc_L_changed.nd rfl (.inl rfl) (pd_call G_L_take (hr.mono (by decide)) rfl T.g_L_take T.F_L_take.kp T.b_L_take_2 (pda_cons (pd_var 0) (pda_cons (pd_callB call_len cal_len rfl T.n_len (by decide +kernel) (pda_cons (pd_var 4) (pda_nil))) (pda_nil))))) (pds_cons (pds_set (i := 7) sc_L_changed.nd rfl (.inl rfl) (pd_ix ix_seq opd_ix (pd_call G_L_free_row (hr.mono (by decide)) rfl T.g_L_free_row T.F_L_free_row.kp T.b_L_free_row_3 (pda_cons (pd_var 0) (pda_cons (pd_callB call_len cal_len rfl T.n_len (by decide +kernel) (pda_cons (pd_ix ix_seq opd_ix (pd_var 3) (pd_int)) (pda_nil))) (pda_cons (pd_callB call_len cal_len rfl T.n_len (by decide +kernel) (pda_cons (pd_ix ix_seq opd_ix (pd_var 3) (pd_int)) (pda_nil))) (pda_nil))))) (pd_int))) (pds_cons (pds_setLcM (i := 10) (own := [("_law_word", 8), ("_law_line", 9)]) rfl sc_L_changed.nd rfl rfl (sw_true rfl rfl rfl (by decide +kernel)) (pdi_list (pd_var 7)) (blkOk_by (own := [("_law_word", 8), ("_law_line", 9)]) (by kernel_rfl)) (fun _ _ _ _ _ => pg_tup rfl (pgs_cons (pg_name (i := 8) sc_L_changed.nd rfl (by first | exact .inl rfl | exact .inr rfl)) (pgs_cons (pg_name (i := 9) sc_L_changed.nd rfl (by first | exact .inl rfl | exact .inr rfl)) (pgs_nil)))) (tg_tup (tgs_cons (tg_name (i := 8) (by decide)) (tgs_cons (tg_name (i := 9) (by decide)) (tgs_nil) (mon_name (i := 9))) (mon_name (i := 8)))) (mon_tup (mon_cons (mon_name (i := 8)) (mon_cons (mon_name (i := 9)) (mon_nil)))) (fun _ _ _ _ _ => pdts_nil) (fun _ _ _ _ _ => pd_tup (pda_cons (pd_var 8) (pda_cons (pd_callTy call_list_of cal_listM rfl T.n_list (by decide +kernel) (pda_cons (pd_var 9) (pda_nil))) (pda_nil))))) (pds_cons (pds_if (pdt_w (pdw_or (pdt_cmp op_notIsD opd_notIs (pd_hide (pd_methK0 T.K_p_Bench_change G_p_Bench_change (hr.mono (by decide)) T.b_p_Bench_change_1_wishes_number (pd_var 1) (pdk_cons (pd_var 10) (pdk_cons (pd_var 6) (pdk_nil))))) (pd_non)) (pdw_or1 (pdt_cmp (op_neF hr.r.units) opd_ne (pd_hide (pd_view (i := 10) (pd_callB (call_reprD hr) cal_repr rfl T.n_repr (by decide +kernel) (pda_cons (pd_var 10) (pda_nil))))) (pd_hide (pd_callB (call_reprD hr) cal_repr rfl T.n_repr (by decide +kernel) (pda_cons (pd_var 7) (pda_nil)))))))) (pds_one (pds_ret (pd_non))) (pds_nil)) (pds_cons (pds_expr (pd_append (pd_var 10) (pda_cons (pd_non) (pda_nil)))) (pds_cons (pds_for (vs := [8, 9]) rfl (pdi_list (pd_slice (pd_var 10) (pdo_none) (pdo_some (pd_neg (pd_int))))) (pg_tup rfl (pgs_cons (pg_name (i := 8) sc_L_changed.nd rfl (.inl rfl)) (pgs_cons (pg_name (i := 9) sc_L_changed.nd rfl (.inl rfl)) (pgs_nil)))) (tg_tup (tgs_cons (tg_name (i := 8) (by decide)) (tgs_cons (tg_name (i := 9) (by decide)) (tgs_nil) (mon_name (i := 9))) (mon_name (i := 8)))) (pds_one (pds_expr (pd_clear (pd_var 9))))) (pds_cons (pds_asg (vs := [11, 12, 13]) (pd_ix ix_seq opd_ix (pd_var 4) (pd_var 6)) (pg_tup rfl (pgs_cons (pg_name (i := 11) sc_L_changed.nd rfl (.inl rfl)) (pgs_cons (pg_name (i := 12) sc_L_changed.nd rfl (.inl rfl)) (pgs_cons (pg_name (i := 13) sc_L_changed.nd rfl (.inl rfl)) (pgs_nil))))) (tg_tup (tgs_cons (tg_name (i := 11) (by decide)) (tgs_cons (tg_name (i := 12) (by decide)) (tgs_cons (tg_name (i := 13) (by decide)) (tgs_nil) (mon_name (i := 13))) (mon_name (i := 12))) (mon_name (i := 11))))) (pds_one (pds_ret (pd_lst (pda_cons (pd_var 3) (pda_cons (pd_op op_addD opd_add (pd_op op_addD opd_add (pd_slice (pd_var 4) (pdo_none) (pdo_some (pd_var 6))) (pd_lst (pda_cons (pd_tup (pda_cons (pd_var 11) (pda_cons (pd_var 12) (pda_cons (pd_var 7) (pda_nil))))) (pda_nil)))) (pd_slice (pd_var 4) (pdo_some (pd_op op_addD opd_add (pd_var 6) (pd_int))) (pdo_none))) (pda_cons (pd_op op_addD opd_add (pd_var 5) (pd_lst (pda_cons (pd_var 4) (pda_nil)))) (pda_nil)))))))))))))))
    sem_L_changed
def sp_L_undone : FS := fun ds ms P => match ds with
  | [.opq (.ref x), s] => ∃ (dx pa : Addr) (g : Pg) (gs : List Pg) (m : MS), s = seatD g gs ∧ ms = bnM x dx pa g gs ++ m ∧ x ≠ pa ∧ gs.length ≤ 900 ∧ (gs = [] → P (seatD g gs) ms) ∧
      ∀ hs h, gs = hs ++ [h] → h.nm = g.nm ∧ h.pm = g.pm ∧ P (seatD h hs) (bnM x dx pa h hs ++ m)
  | _ => False
theorem len_L_undone : ∀ ds ms Q, sp_L_undone ds ms Q → ds.length = 2 := fun ds ms Q h => by
  unfold sp_L_undone at h
  split at h <;> first | rfl | exact h.elim
def t_L_undone : DTS := dSeq (dAsg (dVar 1) (sLst 3 (sCons (sName 2) (sCons (sName 3) (sCons (sName 4) (sNil)))))) (dSeq (dAsg (dC .non) (sName 5)) (dSeq (dTryO0 ml_1 (dAsgZ (fun Z => dMethZ "Bench" "undo" 0 0 [0] sx_p_Bench_undo (dVar 0) (aNil) (aNil) Z) (sName 5)) (dAsg (dC (.str "bare")) (sName 5))) (dSeq (dIfS (dTest (dOp fEq (dVar 4) (dLst (aNil)))) (dRet (dOp fIx (dLst (aCons (dC .non) (aCons (dVar 1) (aNil)))) (dCB cInt1 (aCons (dOp fEq (dVar 5) (dC (.str "bare"))) (aNil))))) (dNext)) (dRet (dOp fIx (dLst (aCons (dC .non) (aCons (dLst (aCons (dVar 2) (aCons (dOp fIx (dVar 4) (dNeg (dC (.int 1)))) (aCons (dSl (dVar 4) (oNone) (oSome (dNeg (dC (.int 1))))) (aNil))))) (aNil)))) (dCB cInt1 (aCons (dOp fIs (dVar 5) (dC .non)) (aNil))))))))
theorem at_last {α : Type} (xs : List α) (x : α) : atI (xs ++ [x]) (-1) = some x := by
  unfold atI ixN
  simp
  rw [if_pos (by omega)]
  have e : (-1 + ((xs.length : Int) + 1)).toNat = xs.length := by omega
  simp [e]
theorem sem_L_undone : ∀ ds ms Q, sp_L_undone ds ms Q → t_L_undone { nx := fun _ m => Q .non m, rt := Q } (startD 6 ds) ms := by
  intro ds ms Q h
  unfold sp_L_undone at h
  split at h
  · rename_i x s
    obtain ⟨dx, pa, g, gs, m, rfl, rfl, ne, gl, h1, h2⟩ := h
    simp only [startD]
    unfold t_L_undone
    rw [show seatD g gs = .lst [.tup [.lst (g.nm.map D.str), .lst (g.pm.map D.str)], .lst (g.rs.map rwD), .lst (gs.map fun h => .lst (h.rs.map rwD))] from rfl]
    walk_at "st"
    refine ⟨dx, pa, g, gs, m, rfl, ne, ?_, ?_⟩
    · rintro rfl
      walk_at "st"
      exact h1 rfl
    · rintro hs h0 rfl
      obtain ⟨en, ep, h3⟩ := h2 hs h0 rfl
      walk_at "st"
      rw [List.map_append, List.map_singleton]
      refine w_iteF (by simp) ?_
      walk_at "st"
      refine w_ix_l (at_last _ _) ?_
      walk_at "st"
      rw [cut_last]
      walk_at "st"
      unfold seatD at h3
      rw [en, ep] at h3
      exact h3
  · exact h.elim
theorem ok_L_undone (T : Tx P K mg) : FnG P w K mg base 2 T.f_L_undone T.d_L_undone ["_law_desk", "_law_seat"] (spD K sp_L_undone) := by
  have G_p_Bench_undo := ok_p_Bench_undo (P := P) (w := w) (base := base) T
  have X_p_Bench_undo := okx_p_Bench_undo (P := P) (w := w) (base := base) T
  exact fnG_of (k := 1) (t := t_L_undone) T.F_L_undone sc_L_undone len_L_undone
    (fun cdv A outer s H hr => pds_cons (pds_asg (vs := [2, 3, 4]) (pd_var 1) (pg_lst rfl (pgs_cons (pg_name (i := 2) sc_L_undone.nd rfl (.inl rfl)) (pgs_cons (pg_name (i := 3) sc_L_undone.nd rfl (.inl rfl)) (pgs_cons (pg_name (i := 4) sc_L_undone.nd rfl (.inl rfl)) (pgs_nil))))) (tg_lst (tgs_cons (tg_name (i := 2) (by decide)) (tgs_cons (tg_name (i := 3) (by decide)) (tgs_cons (tg_name (i := 4) (by decide)) (tgs_nil) (mon_name (i := 4))) (mon_name (i := 3))) (mon_name (i := 2))))) (pds_cons (pds_set (i := 5) sc_L_undone.nd rfl (.inl rfl) (pd_non)) (pds_cons (pds_tryO ⟨rfl, by decide, .inl T.gx_Bare⟩ (mlE_b T.x_NoNumber T.x_Bare T.m_NoNumber_Bare (mlE_b T.x_NoProgram T.x_Bare T.m_NoProgram_Bare (mlE_b T.x_NoWishes T.x_Bare T.m_NoWishes_Bare (mlE_b T.x_NoRow T.x_Bare T.m_NoRow_Bare (mlE_b T.x_Full T.x_Bare T.m_Full_Bare (mlE_b T.x_Bare T.x_Bare T.m_Bare_Bare (mlE_nil))))))) (fun W q xe tk po => px_one (px_setZ (i := 5) sc_L_undone.nd rfl (.inl rfl) (fun Z => pdz_meth0 tk T.K_p_Bench_undo X_p_Bench_undo (hr.mono (by decide)) T.b_p_Bench_undo_1 (pd_var 0)))) (fun a q => pds_one (pds_set (i := 5) sc_L_undone.nd rfl (.inl rfl) (pd_str)))) (pds_cons (pds_if (pdt_cmp (op_eqF hr.r.units) opd_eq (pd_var 4) (pd_lst (pda_nil))) (pds_one (pds_ret (pd_ix ix_seq opd_ix (pd_lst (pda_cons (pd_non) (pda_cons (pd_var 1) (pda_nil)))) (pd_callTy call_int1 cal_int1 rfl T.n_int (by decide +kernel) (pda_cons (pd_cmp (op_eqF hr.r.units) opd_eq (pd_var 5) (pd_str)) (pda_nil)))))) (pds_nil)) (pds_one (pds_ret (pd_ix ix_seq opd_ix (pd_lst (pda_cons (pd_non) (pda_cons (pd_lst (pda_cons (pd_var 2) (pda_cons (pd_ix ix_seq opd_ix (pd_var 4) (pd_neg (pd_int))) (pda_cons (pd_slice (pd_var 4) (pdo_none) (pdo_some (pd_neg (pd_int)))) (pda_nil))))) (pda_nil)))) (pd_callTy call_int1 cal_int1 rfl T.n_int (by decide +kernel) (pda_cons (pd_cmp op_isD opd_is (pd_var 5) (pd_non)) (pda_nil))))))))))
    sem_L_undone
def sp_L_law : FS := fun ds ms P => match ds with
  | [.fro xs] => ∃ ns : List Int, xs = ns.map D.int ∧ flatM ms ∧ ∀ ms', P (.bl true) ms'
  | _ => False
theorem len_L_law : ∀ ds ms Q, sp_L_law ds ms Q → ds.length = 1 := fun ds ms Q h => by
  unfold sp_L_law at h
  split at h <;> first | rfl | exact h.elim
def t_L_law_c7 : DTS := dIfS (dOr (dTest (dOp fIs (dVar 7) (dC .non))) (dNot (dTest (dHide (dCall 2 0 [0, 1] sp_L_shows (aCons (dVar 6) (aCons (dVar 7) (aNil))) (aNil)))))) (dRet (dC (.bl false))) (dNext)
def t_L_law_c6 : DTS := dRet (dAndV (dOp fEq (dHide (dCall 2 0 [0, 1] sp_L_undone (aCons (dVar 6) (aCons (dVar 7) (aNil))) (aNil))) (dVar 7)) (dHide (dCall 2 0 [0, 1] sp_L_shows (aCons (dVar 6) (aCons (dVar 7) (aNil))) (aNil))))
def t_L_law_c5 : DTS := dSeq (dWhile (dTest (dOp fNe (dOp fIx (dVar 7) (dC (.int 2))) (dLst (aNil)))) (dSeq (dAsg (dHide (dCall 2 0 [0, 1] sp_L_undone (aCons (dVar 6) (aCons (dVar 7) (aNil))) (aNil))) (sName 7)) (dIfS (dOr (dTest (dOp fIs (dVar 7) (dC .non))) (dNot (dTest (dHide (dCall 2 0 [0, 1] sp_L_shows (aCons (dVar 6) (aCons (dVar 7) (aNil))) (aNil)))))) (dRet (dC (.bl false))) (dNext)))) (t_L_law_c6)
def t_L_law_c4 : DTS := dSeq (dIfS (dOr (dTest (dOp fNe (dHide (dCall 3 0 [0, 1, 2] sp_L_put (aCons (dVar 6) (aCons (dVar 7) (aCons (dTup (aCons (dC (.int 0)) (aCons (dC (.int 0)) (aCons (dLst (aNil)) (aNil))))) (aNil)))) (aNil))) (dVar 7))) (dNot (dTest (dHide (dCall 2 0 [0, 1] sp_L_shows (aCons (dVar 6) (aCons (dVar 7) (aNil))) (aNil)))))) (dRet (dC (.bl false))) (dNext)) (t_L_law_c5)
def t_L_law_c3 : DTS := dSeq (dFor (iRange1 (aCons (dOp fSub (dC (.int 10)) (dCB cLen (aCons (dOp fIx (dVar 7) (dC (.int 1))) (aNil)))) (aNil))) (sName 3) (dSeq (dAsg (dHide (dCall 3 0 [0, 1, 2] sp_L_put (aCons (dVar 6) (aCons (dVar 7) (aCons (dCall 3 0 [0, 1, 2] sp_L_free_row (aCons (dVar 1) (aCons (dCB cLen (aCons (dOp fIx (dVar 2) (dC (.int 0))) (aNil))) (aCons (dCB cLen (aCons (dOp fIx (dVar 2) (dC (.int 1))) (aNil))) (aNil)))) (aNil)) (aNil)))) (aNil))) (sName 7)) (dIfS (dTest (dOp fIs (dVar 7) (dC .non))) (dRet (dC (.bl false))) (dNext)))) (t_L_law_c4)
def t_L_law_c2 : DTS := dSeq (dFor (iRange2 (aCons (dC (.int 1)) (aCons (dCB cMax2 (aCons (dC (.int 6)) (aCons (dCB cMin2 (aCons (dCB cLen (aCons (dVar 0) (aNil))) (aCons (dC (.int 41)) (aNil)))) (aNil)))) (aNil)))) (sName 8) (dSeq (dAsg (dHide (dCall 2 0 [0, 1] sp_L_pool (aCons (dVar 0) (aCons (dVar 8) (aNil))) (aNil))) (sName 1)) (dSeq (dAsg (dCall 2 0 [0, 1] sp_L_take (aCons (dVar 1) (aCons (dC (.int 10)) (aNil))) (aNil)) (sName 9)) (dSeq (dIfS (dTest (dOp fLt (dVar 9) (dC (.int 4)))) (dAsg (dHide (dCall 3 0 [0, 1, 2] sp_L_put (aCons (dVar 6) (aCons (dVar 7) (aCons (dCall 3 0 [0, 1, 2] sp_L_free_row (aCons (dVar 1) (aCons (dCB cLen (aCons (dOp fIx (dVar 2) (dC (.int 0))) (aNil))) (aCons (dCB cLen (aCons (dOp fIx (dVar 2) (dC (.int 1))) (aNil))) (aNil)))) (aNil)) (aNil)))) (aNil))) (sName 7)) (dIfS (dAnd (dTest (dOp fLt (dVar 9) (dC (.int 6)))) (dTest (dOp fNe (dOp fIx (dVar 7) (dC (.int 1))) (dLst (aNil))))) (dAsg (dHide (dCall 3 0 [0, 1, 2] sp_L_taken (aCons (dVar 1) (aCons (dVar 6) (aCons (dVar 7) (aNil)))) (aNil))) (sName 7)) (dIfS (dAnd (dTest (dOp fLt (dVar 9) (dC (.int 8)))) (dTest (dOp fNe (dOp fIx (dVar 7) (dC (.int 1))) (dLst (aNil))))) (dAsg (dHide (dCall 3 0 [0, 1, 2] sp_L_changed (aCons (dVar 1) (aCons (dVar 6) (aCons (dVar 7) (aNil)))) (aNil))) (sName 7)) (dAsg (dHide (dCall 2 0 [0, 1] sp_L_undone (aCons (dVar 6) (aCons (dVar 7) (aNil))) (aNil))) (sName 7))))) (t_L_law_c7))))) (t_L_law_c3)
def t_L_law_c1 : DTS := dSeq (dIfS (dNot (dTest (dHide (dCall 2 0 [0, 1] sp_L_shows (aCons (dVar 6) (aCons (dVar 7) (aNil))) (aNil))))) (dRet (dC (.bl false))) (dNext)) (t_L_law_c2)
def t_L_law : DTS := dSeq (dAsg (dCall 2 0 [0, 1] sp_L_pool (aCons (dVar 0) (aCons (dC (.int 0)) (aNil))) (aNil)) (sName 1)) (dSeq (dAsg (dTup (aCons (dSl (dLst (aCons (dC (.str "x")) (aCons (dC (.str "y")) (aNil)))) (oNone) (oSome (dOp fAdd (dC (.int 1)) (dCall 2 0 [0, 1] sp_L_take (aCons (dVar 1) (aCons (dC (.int 2)) (aNil))) (aNil))))) (aCons (dSl (dLst (aCons (dC (.str "a")) (aCons (dC (.str "b")) (aCons (dC (.str "c")) (aNil))))) (oNone) (oSome (dOp fAdd (dC (.int 1)) (dCall 2 0 [0, 1] sp_L_take (aCons (dVar 1) (aCons (dC (.int 3)) (aNil))) (aNil))))) (aNil)))) (sName 2)) (dSeq (dAsg (dLc (iRange1 (aCons (dCall 2 0 [0, 1] sp_L_take (aCons (dVar 1) (aCons (dC (.int 4)) (aNil))) (aNil)) (aNil))) (sName 3) (dYes) (dCall 3 0 [0, 1, 2] sp_L_free_row (aCons (dVar 1) (aCons (dCB cLen (aCons (dOp fIx (dVar 2) (dC (.int 0))) (aNil))) (aCons (dCB cLen (aCons (dOp fIx (dVar 2) (dC (.int 1))) (aNil))) (aNil)))) (aNil)) [3]) (sName 4)) (dSeq (dAsg (dTup (aCons (dCB cListM (aCons (dOp fIx (dVar 2) (dC (.int 0))) (aNil))) (aCons (dCB cListM (aCons (dOp fIx (dVar 2) (dC (.int 1))) (aNil))) (aCons (dLcM (iSeq (dVar 4)) (sName 10) (dYes) (dCall 1 0 [0] sp_L_copy (aCons (dVar 10) (aNil)) (aNil)) [10]) (aNil))))) (sName 5)) (dSeq (dAsg (dHide (dMake "Bench" 0 1 [0, 1] sp_p_Bench___init__ (aNil) (aCons (dVar 5) (aNil)))) (sName 6)) (dSeq (dAsg (dLst (aCons (dVar 2) (aCons (dVar 4) (aCons (dLst (aNil)) (aNil))))) (sName 7)) (dSeq (dDrop (dAppend (dOp fIx (dVar 5) (dC (.int 2))) (aCons (dC .non) (aNil)))) (dSeq (dDrop (dClear (dOp fIx (dVar 5) (dC (.int 0))))) (t_L_law_c1))))))))
theorem any_ints {B : Nat} {is : List Int} (h : ∀ i ∈ is, Bd B i) (hl : is.length ≤ 100) : Any false B 100 1 (.lst (is.map D.int)) := .lst (by rw [List.length_map]; exact hl) fun x hx => by
  obtain ⟨i, hi, rfl⟩ := List.mem_map.mp hx
  exact .int (h i hi)
theorem any_nms {B most : Nat} {xs : List Str} (h : NmOk most xs) (hm : most ≤ 6) : Any false B 100 1 (.lst (xs.map D.str)) := .lst (by rw [List.length_map]; have := h.l2; omega) fun x hx => by
  obtain ⟨s, hs, rfl⟩ := List.mem_map.mp hx
  have g := h.ok s hs
  refine .str ?_ (nm_ok g)
  unfold goodNm at g
  rw [Bool.and_eq_true_iff, Bool.and_eq_true_iff] at g
  have := of_decide_eq_true g.1.2
  omega
theorem any_wd {c : Bool} {B k : Nat} (j : Bool) : Any c B 100 k (wdD j) := by
  cases j
  · exact .str (x := Str.ofString "least") (by decide) (by decide +kernel)
  · exact .str (x := Str.ofString "just") (by decide) (by decide +kernel)
theorem any_wi {B n : Nat} {w : Wi} (h : WiOk B n w) (hn : n ≤ 20) : Any false B 100 2 (wiD w) := .tup (by simp) fun x hx => by
  simp only [List.mem_cons, List.not_mem_nil, or_false] at hx
  rcases hx with rfl | rfl
  · exact any_wd w.j
  · have := any_ints (B := B) (is := w.ls) h.bd (by have := h.ln; show w.fs.length + 1 ≤ 100; omega)
    exact this
theorem any_rw {B sz pl : Nat} {r : Rw} (h : RwOk B sz pl r) (hsz : sz ≤ 3) (hpl : pl ≤ 6) (hB : 3 ≤ B) : Any false B 100 4 (rwD r) := .tup (by simp) fun x hx => by
  have hs := h.s1
  have hs0 := h.s0
  have ht := h.t1
  have ht0 := h.t0
  simp only [List.mem_cons, List.not_mem_nil, or_false] at hx
  rcases hx with rfl | rfl | rfl
  · exact .int ((show Bd 3 r.s by unfold Bd; omega).mono hB)
  · exact .int ((show Bd 3 r.t by unfold Bd; omega).mono hB)
  · refine .lst (by rw [List.length_map]; have := h.wl; omega) fun x hx => ?_
    obtain ⟨w, hw, rfl⟩ := List.mem_map.mp hx
    exact any_wi (h.wo w hw) (by omega)
theorem Any.self {B L k : Nat} {d : D} (h : Any false B L k d) : eqD d d = true := by
  obtain ⟨p, a, b, _⟩ := h.py rfl
  unfold eqD
  rw [a]
  exact PySem.SeqAt.eqv_refl p b
theorem RwOk.mono {B B' sz pl : Nat} {r : Rw} (h : RwOk B sz pl r) (hb : B ≤ B') : RwOk B' sz pl r := ⟨h.s0, h.s1, h.t0, h.t1, h.wl, fun w hw => (h.wo w hw).mono hb⟩
/-- a bench's program and those ahead of its deeds -/
structure BnI (g : Pg) (gs : List Pg) : Prop where
  ok : PgOk 3 g
  all : ∀ h ∈ gs, PgOk 3 h ∧ h.nm = g.nm ∧ h.pm = g.pm
theorem BnI.next {g g' : Pg} {gs : List Pg} (h : BnI g gs) (e1 : g'.nm = g.nm) (e2 : g'.pm = g.pm) (l : g'.rs.length ≤ 10) (ro : ∀ r ∈ g'.rs, RwOk 3 g.nm.length g.pm.length r) : BnI g' (gs ++ [g]) :=
  ⟨⟨by rw [e1]; exact h.ok.nm, by rw [e2]; exact h.ok.pm, l, by rw [e1, e2]; exact ro⟩, fun z hz => by
    rw [e1, e2]
    rcases List.mem_append.mp hz with hz | hz
    · exact h.all z hz
    · rw [List.mem_singleton.mp hz]; exact ⟨h.ok, rfl, rfl⟩⟩
theorem BnI.on {g : Pg} {gs : List Pg} {r : Rw} (h : BnI g gs) (ro : RwOk 3 g.nm.length g.pm.length r) (l : g.rs.length < 10) : BnI (rowOn g r) (gs ++ [g]) :=
  h.next rfl rfl (by show (g.rs ++ [r]).length ≤ 10; rw [List.length_append, List.length_singleton]; omega) fun z hz => by
    rcases List.mem_append.mp hz with hz | hz
    · exact h.ok.ro z hz
    · rw [List.mem_singleton.mp hz]; exact ro
theorem BnI.off {g : Pg} {gs : List Pg} {k : Nat} (h : BnI g gs) : BnI (rowOff g k) (gs ++ [g]) :=
  h.next rfl rfl (by show (g.rs.take k ++ g.rs.drop (k + 1)).length ≤ 10; rw [List.length_append, List.length_take, List.length_drop]; have := h.ok.rl; omega) fun z hz => by
    rcases List.mem_append.mp hz with hz | hz
    · exact h.ok.ro z (List.mem_of_mem_take hz)
    · exact h.ok.ro z (List.mem_of_mem_drop hz)
theorem BnI.new {g : Pg} {gs : List Pg} {k : Nat} {ws : List Wi} (h : BnI g gs) (hk : k < g.rs.length) (wl : ws.length ≤ 12) (wo : ∀ w ∈ ws, WiOk 3 (2 * g.nm.length) w) : BnI (rowNew g k ws) (gs ++ [g]) :=
  have er : g.rs.getD k ⟨0, 0, []⟩ = g.rs[k] := by rw [List.getD_eq_getElem?_getD, List.getElem?_eq_getElem hk]; rfl
  have ro := h.ok.ro _ (List.getElem_mem hk)
  h.next rfl rfl (by show (g.rs.take k ++ _ :: g.rs.drop (k + 1)).length ≤ 10; rw [List.length_append, List.length_cons, List.length_take, List.length_drop]; have := h.ok.rl; omega) fun z hz => by
    rcases List.mem_append.mp hz with hz | hz
    · exact h.ok.ro z (List.mem_of_mem_take hz)
    · rcases List.mem_cons.mp hz with rfl | hz
      · rw [er]; exact ⟨ro.s0, ro.s1, ro.t0, ro.t1, wl, wo⟩
      · exact h.ok.ro z (List.mem_of_mem_drop hz)
theorem BnI.undo {g h : Pg} {hs : List Pg} (b : BnI g (hs ++ [h])) : BnI h hs ∧ h.nm = g.nm ∧ h.pm = g.pm := by
  obtain ⟨o, e1, e2⟩ := b.all h (by simp)
  exact ⟨⟨o, fun z hz => by rw [e1, e2]; exact b.all z (List.mem_append_left _ hz)⟩, e1, e2⟩
theorem any_seat {g : Pg} {gs : List Pg} (h : BnI g gs) (gl : gs.length ≤ 900) : Any false 3 1000 7 (seatD g gs) := by
  have rows : ∀ g : Pg, PgOk 3 g → Any false 3 1000 5 (.lst (g.rs.map rwD)) := fun g ok => .lst (by rw [List.length_map]; have := ok.rl; omega) fun x hx => by
    obtain ⟨r, hr, rfl⟩ := List.mem_map.mp hx
    exact (any_rw (ok.ro r hr) ok.nm.l2 ok.pm.l2 (Nat.le_refl _)).mono id (Nat.le_refl _) (by decide) (by decide)
  refine .lst (by simp) fun x hx => ?_
  simp only [List.mem_cons, List.not_mem_nil, or_false] at hx
  rcases hx with rfl | rfl | rfl
  · refine .tup (by simp) fun x hx => ?_
    simp only [List.mem_cons, List.not_mem_nil, or_false] at hx
    rcases hx with rfl | rfl
    · exact (any_nms h.ok.nm (by decide)).mono id (Nat.le_refl _) (by decide) (by decide)
    · exact (any_nms h.ok.pm (by decide)).mono id (Nat.le_refl _) (by decide) (by decide)
  · exact (rows g h.ok).up (by decide)
  · refine .lst (by rw [List.length_map]; omega) fun x hx => ?_
    obtain ⟨z, hz, rfl⟩ := List.mem_map.mp hx
    exact rows z (h.all z hz).1
theorem pm_end {bn J M ms : MS} (h : ms.Perm (bn ++ (J ++ M))) : ms.Perm (bn ++ (M ++ J)) := h.trans (List.perm_append_comm.append_left bn)
theorem look_app {p : Addr} {xs : List D} {J : MS} : ∀ {M : MS}, look M p = some xs → look (M ++ J) p = some xs
  | [], h => by cases h
  | (q, zs) :: r, h => by
    show look ((q, zs) :: (r ++ J)) p = _
    unfold look at h ⊢
    by_cases e : q = p
    · rw [if_pos e] at h ⊢; exact h
    · rw [if_neg e] at h ⊢; exact look_app h
theorem PoolAt.app {M J : MS} {p : Addr} (h : PoolAt M p) : PoolAt (M ++ J) p := by
  obtain ⟨a, b, o, l⟩ := h
  exact ⟨a, b, o, look_app l⟩
section
variable {Q : D → MS → Prop} {x dx pa p : Addr} {xs0 : List D} {x3 x4 x5 x8 x9 x10 : Option D}
theorem law_c6 (hQ : ∀ m, Q (.bl true) m) {g : Pg} {M : MS} {hd : D} (ne : x ≠ pa) (I : BnI g []) (fm : flatM M) :
    StG t_L_law_c6 { nx := fun _ m => Q .non m, rt := Q } [some (.fro xs0), some (.opq (.ref p)), some hd, x3, x4, x5, some (.opq (.ref x)), some (seatD g []), x8, x9, x10] (bnM x dx pa g [] ++ M) := by
  unfold t_L_law_c6
  have a := any_seat I (by simp)
  have sh := a.sh (by decide)
  walk_at "st"
  refine ExG.out (w_hide [] _ (.refl _) ?_)
  walk_at "st"
  refine ⟨dx, pa, g, [], M, rfl, rfl, ne, by simp, fun _ => ?_, fun hs h e => by simp at e⟩
  refine ⟨_, .refl _, ?_⟩
  walk_at "st"
  refine OpG.out (w_eq_lc ⟨sh, sh, ?_⟩)
  have es : eqD (.lst [.tup [.lst (g.nm.map D.str), .lst (g.pm.map D.str)], .lst (g.rs.map rwD), .lst (([] : List Pg).map fun h => .lst (h.rs.map rwD))]) (.lst [.tup [.lst (g.nm.map D.str), .lst (g.pm.map D.str)], .lst (g.rs.map rwD), .lst (([] : List Pg).map fun h => .lst (h.rs.map rwD))]) = true := a.self
  rw [es]
  walk_at "st"
  refine ExG.out (w_hide [] _ (.refl _) ?_)
  walk_at "st"
  refine ⟨dx, pa, g, [], 3, M, rfl, rfl, ne, I.ok, by decide, by simp, fm, fun J ms' fJ pm => ?_⟩
  refine ⟨_, .refl _, ?_⟩
  walk_at "st"
  exact hQ _
theorem law_w (hQ : ∀ m, Q (.bl true) m) {hd : D} (ne : x ≠ pa) : ∀ (n : Nat) (g : Pg) (gs : List Pg) (M : MS), gs.length = n → gs.length ≤ 900 → BnI g gs → flatM M →
    whileD (dTest (dOp fNe (dOp fIx (dVar 7) (dC (.int 2))) (dLst (aNil)))) (dSeq (dAsg (dHide (dCall 2 0 [0, 1] sp_L_undone (aCons (dVar 6) (aCons (dVar 7) (aNil))) (aNil))) (sName 7)) (dIfS (dOr (dTest (dOp fIs (dVar 7) (dC .non))) (dNot (dTest (dHide (dCall 2 0 [0, 1] sp_L_shows (aCons (dVar 6) (aCons (dVar 7) (aNil))) (aNil)))))) (dRet (dC (.bl false))) (dNext)))
      (EN.wn { nx := fun _ m => Q .non m, rt := Q } (StG t_L_law_c6 { nx := fun _ m => Q .non m, rt := Q })) (n + 1) [some (.fro xs0), some (.opq (.ref p)), some hd, x3, x4, x5, some (.opq (.ref x)), some (seatD g gs), x8, x9, x10] (bnM x dx pa g gs ++ M) := by
  intro n
  induction n with
  | zero =>
    intro g gs M hg gl I fm
    obtain rfl := List.eq_nil_of_length_eq_zero hg
    refine w_whS ?_
    rw [show seatD g [] = .lst [.tup [.lst (g.nm.map D.str), .lst (g.pm.map D.str)], .lst (g.rs.map rwD), .lst []] from rfl]
    walk_at "st"
    exact law_c6 hQ ne I fm
  | succ n ih =>
    intro g gs M hg gl I fm
    obtain ⟨hs, h, rfl⟩ : ∃ hs h, gs = hs ++ [h] := by
      rcases List.eq_nil_or_concat gs with rfl | ⟨hs, h, rfl⟩
      · cases hg
      · exact ⟨hs, h, List.concat_eq_append ..⟩
    obtain ⟨I2, e1, e2⟩ := I.undo
    rw [List.length_append, List.length_singleton] at hg gl
    refine w_whS ?_
    rw [show seatD g (hs ++ [h]) = .lst [.tup [.lst (g.nm.map D.str), .lst (g.pm.map D.str)], .lst (g.rs.map rwD), .lst ((hs ++ [h]).map fun h => .lst (h.rs.map rwD))] from rfl]
    walk_at "st"
    rw [List.map_append, List.map_singleton]
    refine w_iteT (by simp) ?_
    walk_at "st"
    refine ExG.out (w_hide [] _ (.refl _) ?_)
    walk_at "st"
    refine ⟨dx, pa, g, hs ++ [h], M, by unfold seatD; rw [List.map_append]; rfl, rfl, ne, by rw [List.length_append, List.length_singleton]; omega, fun z => by simp at z, fun hs2 h2 e => ?_⟩
    have ei := List.append_inj' e rfl
    obtain rfl := ei.1
    obtain rfl : h = h2 := by have := ei.2; injection this
    refine ⟨e1, e2, _, .refl _, ?_⟩
    walk_at "st"
    refine ExG.out (w_hide [] _ (.refl _) ?_)
    walk_at "st"
    refine ⟨dx, pa, h, hs, 3, M, rfl, rfl, ne, I2.ok, by decide, by omega, fm, fun J ms' fJ pm => ?_⟩
    refine ⟨bnM x dx pa h hs ++ (J ++ M), pm, ?_⟩
    walk_at "st"
    exact ih h hs (J ++ M) (by omega) (by omega) I2 (flatM_app fJ fm)
theorem law_c4 (hQ : ∀ m, Q (.bl true) m) {g : Pg} {gs : List Pg} {M : MS} {hd : D} (ne : x ≠ pa) (I : BnI g gs) (h10 : g.rs.length = 10) (gl : gs.length < 900) (fm : flatM M) :
    StG t_L_law_c4 { nx := fun _ m => Q .non m, rt := Q } [some (.fro xs0), some (.opq (.ref p)), some hd, x3, x4, x5, some (.opq (.ref x)), some (seatD g gs), x8, x9, x10] (bnM x dx pa g gs ++ M) := by
  unfold t_L_law_c4
  have a := any_seat I (by omega)
  have sh := a.sh (by decide)
  have es : eqD (.lst [.tup [.lst (g.nm.map D.str), .lst (g.pm.map D.str)], .lst (g.rs.map rwD), .lst (gs.map fun h => .lst (h.rs.map rwD))]) (.lst [.tup [.lst (g.nm.map D.str), .lst (g.pm.map D.str)], .lst (g.rs.map rwD), .lst (gs.map fun h => .lst (h.rs.map rwD))]) = true := a.self
  have p1 := I.ok.pm.l1
  walk_at "st"
  refine ExG.out (w_hide [] _ (.refl _) ?_)
  walk_at "st"
  refine ⟨dx, pa, g, gs, 3, ⟨0, 0, []⟩, M, rfl, rfl, rfl, ne, I.ok, by decide, ⟨by decide, by show (0 : Int) < _; omega, by decide, by show (0 : Int) < _; omega, by simp, fun w hw => by cases hw⟩, gl, fm, fun _ J ms' fJ pm => ?_, fun z => absurd z (by omega)⟩
  refine ⟨bnM x dx pa g gs ++ (J ++ M), pm, ?_⟩
  walk_at "st"
  refine OpG.out (w_ne_lc ⟨sh, sh, ?_⟩)
  rw [es]
  walk_at "st"
  refine ExG.out (w_hide [] _ (.refl _) ?_)
  walk_at "st"
  refine ⟨dx, pa, g, gs, 3, J ++ M, rfl, rfl, ne, I.ok, by decide, by omega, flatM_app fJ fm, fun J2 ms2 fJ2 pm2 => ?_⟩
  refine ⟨bnM x dx pa g gs ++ (J2 ++ (J ++ M)), pm2, ?_⟩
  walk_at "st"
  unfold t_L_law_c5
  refine w_seq ?_
  refine w_whileN (n := gs.length + 1) ?_
  exact law_w hQ ne gs.length g gs (J2 ++ (J ++ M)) rfl (by omega) I (flatM_app fJ2 (flatM_app fJ fm))
theorem law_c3 (hQ : ∀ m, Q (.bl true) m) {g : Pg} {gs : List Pg} {M : MS} (ne : x ≠ pa) (n1 : p ≠ x) (n2 : p ≠ pa) (I : BnI g gs) (gl : gs.length < 800) (fm : flatM M) (hp : PoolAt M p) :
    StG t_L_law_c3 { nx := fun _ m => Q .non m, rt := Q } [some (.fro xs0), some (.opq (.ref p)), some (.tup [.lst (g.nm.map D.str), .lst (g.pm.map D.str)]), x3, x4, x5, some (.opq (.ref x)), some (seatD g gs), x8, x9, x10] (bnM x dx pa g gs ++ M) := by
  unfold t_L_law_c3
  refine w_seq ?_
  rw [show seatD g gs = .lst [.tup [.lst (g.nm.map D.str), .lst (g.pm.map D.str)], .lst (g.rs.map rwD), .lst (gs.map fun h => .lst (h.rs.map rwD))] from rfl]
  have rl := I.ok.rl
  walk_at "st"
  rw [List.length_map]
  refine w_mRng ⟨by omega, by omega⟩ ?_
  refine loop_rn (fun k ds m => ∃ (g2 : Pg) (gs2 : List Pg) (M2 : MS), m = bnM x dx pa g2 gs2 ++ M2 ∧ BnI g2 gs2 ∧ g2.nm = g.nm ∧ g2.pm = g.pm ∧ g2.rs.length = g.rs.length + k ∧ gs2.length < 800 + k ∧ flatM M2 ∧ PoolAt M2 p ∧ ∃ y3, ds = [some (.fro xs0), some (.opq (.ref p)), some (.tup [.lst (g.nm.map D.str), .lst (g.pm.map D.str)]), y3, x4, x5, some (.opq (.ref x)), some (seatD g2 gs2), x8, x9, x10]) _ ⟨g, gs, M, rfl, I, rfl, rfl, rfl, gl, fm, hp, _, rfl⟩ ?_ ?_
  · rintro k ds m hk ⟨g2, gs2, M2, rfl, I2, e1, e2, rl2, gl2, fm2, hp2, y3, rfl⟩ N hN
    have hk : k < 10 - g.rs.length := by omega
    walk_at "st"
    refine ExG.out (w_hide [] _ (.refl _) ?_)
    walk_at "st"
    rw [List.length_map, List.length_map]
    refine ⟨g.nm.length, g.pm.length, rfl, rfl, pool_bn hp2 n1 n2, I.ok.nm.l1, I.ok.nm.l2, I.ok.pm.l1, I.ok.pm.l2, fun r ro rw3 m1 p1 c1 => ?_⟩
    obtain ⟨m2, rfl, p2, c2⟩ := chg_bn n1 n2 p1 c1
    have fm3 := flatM_chg fm2 c2
    have ro3 : RwOk 3 g2.nm.length g2.pm.length r := by rw [e1, e2]; exact ro.mono (by decide)
    walk_at "st"
    refine ⟨dx, pa, g2, gs2, 3, r, m2, rfl, rfl, rfl, ne, I2.ok, by decide, ro3, by omega, fm3, fun z => absurd z (by omega), fun _ J ms' fJ pm => ?_⟩
    refine ⟨bnM x dx pa (rowOn g2 r) (gs2 ++ [g2]) ++ (m2 ++ J), pm_end pm, ?_⟩
    walk_at "st"
    exact hN _ _ ⟨rowOn g2 r, gs2 ++ [g2], m2 ++ J, rfl, I2.on ro3 (by omega), e1, e2, by show (g2.rs ++ [r]).length = _; rw [List.length_append, List.length_singleton]; omega, by rw [List.length_append, List.length_singleton]; omega, flatM_app fm3 fJ, p2.app, _, rfl⟩
  · rintro ds m ⟨g2, gs2, M2, rfl, I2, e1, e2, rl2, gl2, fm2, hp2, y3, rfl⟩
    exact law_c4 hQ ne I2 (by omega) (by omega) fm2
theorem law_c7 {E : EN} {N : DS → MS → Prop} {g : Pg} {gs : List Pg} {M : MS} {hd : D} (ne : x ≠ pa) (I : BnI g gs) (gl : gs.length ≤ 900) (fm : flatM M)
    (hN : ∀ J, flatM J → N [some (.fro xs0), some (.opq (.ref p)), some hd, x3, x4, x5, some (.opq (.ref x)), some (seatD g gs), x8, x9, x10] (bnM x dx pa g gs ++ (M ++ J))) :
    StG t_L_law_c7 (EN.lp E N) [some (.fro xs0), some (.opq (.ref p)), some hd, x3, x4, x5, some (.opq (.ref x)), some (seatD g gs), x8, x9, x10] (bnM x dx pa g gs ++ M) := by
  unfold t_L_law_c7
  rw [show seatD g gs = .lst [.tup [.lst (g.nm.map D.str), .lst (g.pm.map D.str)], .lst (g.rs.map rwD), .lst (gs.map fun h => .lst (h.rs.map rwD))] from rfl]
  walk_at "st"
  refine ExG.out (w_hide [] _ (.refl _) ?_)
  walk_at "st"
  refine ⟨dx, pa, g, gs, 3, M, rfl, rfl, ne, I.ok, by decide, gl, fm, fun J ms' fJ pm => ?_⟩
  refine ⟨bnM x dx pa g gs ++ (M ++ J), pm_end pm, ?_⟩
  walk_at "st"
  exact hN J fJ
theorem cells41 (y : Nat) : 6 ≤ (if (if (41 : Int) < (y : Int) then 41 else (y : Int)) > 6 then if (41 : Int) < (y : Int) then 41 else (y : Int) else 6) ∧ (if (if (41 : Int) < (y : Int) then 41 else (y : Int)) > 6 then if (41 : Int) < (y : Int) then 41 else (y : Int) else 6) ≤ 41 := by
  split
  · split <;> omega
  · omega
theorem law_c2 (hQ : ∀ m, Q (.bl true) m) {ns : List Int} {g : Pg} {gs : List Pg} {M : MS} (ne : x ≠ pa) (n1 : p ≠ x) (n2 : p ≠ pa) (I : BnI g []) (fm : flatM M) (hp : PoolAt M p) :
    StG t_L_law_c2 { nx := fun _ m => Q .non m, rt := Q } [some (.fro (ns.map D.int)), some (.opq (.ref p)), some (.tup [.lst (g.nm.map D.str), .lst (g.pm.map D.str)]), x3, x4, x5, some (.opq (.ref x)), some (seatD g []), x8, x9, x10] (bnM x dx pa g [] ++ M) := by
  unfold t_L_law_c2
  refine w_seq ?_
  walk_at "st"
  refine ItG.out (w_irng2 ?_)
  walk_at "st"
  rw [List.length_map]
  have hj := cells41 ns.length
  generalize (if (if (41 : Int) < (ns.length : Int) then 41 else (ns.length : Int)) > 6 then if (41 : Int) < (ns.length : Int) then 41 else (ns.length : Int) else 6) = j at hj
  refine w_mRng2 ⟨by decide, by decide, by omega, by omega⟩ ?_
  refine loop_n (fun k ds m => ∃ (g2 : Pg) (gs2 : List Pg) (p2 : Addr) (M2 : MS), m = bnM x dx pa g2 gs2 ++ M2 ∧ BnI g2 gs2 ∧ g2.nm = g.nm ∧ g2.pm = g.pm ∧ gs2.length ≤ k ∧ flatM M2 ∧ PoolAt M2 p2 ∧ p2 ≠ x ∧ p2 ≠ pa ∧ ∃ y8 y9 y10, ds = [some (.fro (ns.map D.int)), some (.opq (.ref p2)), some (.tup [.lst (g.nm.map D.str), .lst (g.pm.map D.str)]), x3, x4, x5, some (.opq (.ref x)), some (seatD g2 gs2), y8, y9, y10]) 100 _ 0 _ _ (by rw [rng_len]; omega) ⟨g, [], p, M, rfl, I, rfl, rfl, Nat.le_refl _, fm, hp, n1, n2, _, _, _, rfl⟩ ?_ ?_
  · rintro y hy k ds m hk ⟨g2, gs2, p2, M2, rfl, I2, e1, e2, gl2, fm2, hp2, n3, n4, y8, y9, y10, rfl⟩ N hN
    obtain ⟨i, hi, rfl⟩ := rng_mem hy
    walk_at "st"
    refine ExG.out (w_hide [] _ (.refl _) ?_)
    walk_at "st"
    refine ⟨ns, rfl, by omega, by omega, fun p3 hp3 a b po => ?_⟩
    refine ⟨bnM x dx pa g2 gs2 ++ ((p3, [.int a, .int b]) :: M2), pm_swap [(p3, [.int a, .int b])] (bnM x dx pa g2 gs2) M2, ?_⟩
    have q1 : p3 ≠ x := fun e => hp3 (x, bnO dx g2 pa) List.mem_cons_self e.symm
    have q2 : p3 ≠ pa := fun e => hp3 (pa, gs2.map pgD) (List.mem_cons_of_mem _ List.mem_cons_self) e.symm
    have fm3 : flatM ((p3, [.int a, .int b]) :: M2) := flatM_cons fm2 rfl
    have po3 : PoolAt ((p3, [.int a, .int b]) :: M2) p3 := .new po
    generalize (p3, [D.int a, D.int b]) :: M2 = M3 at fm3 po3
    walk_at "st"
    refine take_step (pool_bn po3 q1 q2) (by decide) (by decide) fun r r0 r1 m1 p1 c1 => ?_
    obtain ⟨M4, rfl, p4, c4⟩ := chg_bn q1 q2 p1 c1
    have fm4 := flatM_chg fm3 c4
    walk_at "st"
    have rl2 := I2.ok.rl
    have hn : ∀ (g5 : Pg) (gs5 : List Pg) (M5 : MS), BnI g5 gs5 → g5.nm = g.nm → g5.pm = g.pm → gs5.length ≤ k + 1 → flatM M5 → PoolAt M5 p3 → StG t_L_law_c7 (EN.lp (EN.wn { nx := fun _ m => Q .non m, rt := Q } (StG t_L_law_c3 { nx := fun _ m => Q .non m, rt := Q })) N) [some (.fro (ns.map D.int)), some (.opq (.ref p3)), some (.tup [.lst (g.nm.map D.str), .lst (g.pm.map D.str)]), x3, x4, x5, some (.opq (.ref x)), some (seatD g5 gs5), some (.int (1 + i)), some (.int r), y10] (bnM x dx pa g5 gs5 ++ M5) :=
      fun g5 gs5 M5 I5 e5 e6 l5 f5 p5 => law_c7 ne I5 (by omega) f5 fun J fJ => hN _ _ ⟨g5, gs5, p3, M5 ++ J, rfl, I5, e5, e6, l5, flatM_app f5 fJ, p5.app, q1, q2, _, _, _, rfl⟩
    have undo : ∀ W, StG (dAsg (dHide (dCall 2 0 [0, 1] sp_L_undone (aCons (dVar 6) (aCons (dVar 7) aNil)) aNil)) (sName 7)) (EN.wn (EN.lp (EN.wn { nx := fun _ m => Q .non m, rt := Q } (StG t_L_law_c3 { nx := fun _ m => Q .non m, rt := Q })) N) (StG t_L_law_c7 (EN.lp (EN.wn { nx := fun _ m => Q .non m, rt := Q } (StG t_L_law_c3 { nx := fun _ m => Q .non m, rt := Q })) N))) [some (.fro (ns.map D.int)), some (.opq (.ref p3)), some (.tup [.lst (g.nm.map D.str), .lst (g.pm.map D.str)]), x3, x4, x5, some (.opq (.ref x)), some W, some (.int (1 + i)), some (.int r), y10] (bnM x dx pa g2 gs2 ++ M4) ∨ W ≠ seatD g2 gs2 := fun W => by
      by_cases eW : W = seatD g2 gs2
      · subst eW
        left
        walk_at "st"
        refine ExG.out (w_hide [] _ (.refl _) ?_)
        walk_at "st"
        refine ⟨dx, pa, g2, gs2, M4, rfl, rfl, ne, by omega, fun z => ?_, fun hs h z => ?_⟩
        · refine ⟨_, .refl _, ?_⟩
          walk_at "st"
          exact hn g2 gs2 M4 I2 e1 e2 (by omega) fm4 p4
        · subst z
          obtain ⟨I3, f1, f2⟩ := I2.undo
          rw [List.length_append, List.length_singleton] at gl2
          refine ⟨f1, f2, _, .refl _, ?_⟩
          walk_at "st"
          exact hn h hs M4 I3 (f1.trans e1) (f2.trans e2) (by omega) fm4 p4
      · right; exact eW
    have undo := (undo _).resolve_right fun z => z rfl
    by_cases h4 : r < 4
    · refine w_iteT (decide_eq_true h4) ?_
      walk_at "st"
      refine ExG.out (w_hide [] _ (.refl _) ?_)
      walk_at "st"
      rw [List.length_map, List.length_map]
      refine ⟨g.nm.length, g.pm.length, rfl, rfl, pool_bn p4 q1 q2, I.ok.nm.l1, I.ok.nm.l2, I.ok.pm.l1, I.ok.pm.l2, fun w ro rw3 m5 p5 c5 => ?_⟩
      obtain ⟨M6, rfl, p6, c6⟩ := chg_bn q1 q2 p5 c5
      have fm6 := flatM_chg fm4 c6
      have ro3 : RwOk 3 g2.nm.length g2.pm.length w := by rw [e1, e2]; exact ro.mono (by decide)
      walk_at "st"
      refine ⟨dx, pa, g2, gs2, 3, w, M6, rfl, rfl, rfl, ne, I2.ok, by decide, ro3, by omega, fm6, fun z J ms' fJ pm => ?_, fun z J ms' fJ pm => ?_⟩
      · refine ⟨bnM x dx pa g2 gs2 ++ (M6 ++ J), pm_end pm, ?_⟩
        walk_at "st"
        exact hn g2 gs2 (M6 ++ J) I2 e1 e2 (by omega) (flatM_app fm6 fJ) p6.app
      · refine ⟨bnM x dx pa (rowOn g2 w) (gs2 ++ [g2]) ++ (M6 ++ J), pm_end pm, ?_⟩
        walk_at "st"
        exact hn (rowOn g2 w) (gs2 ++ [g2]) (M6 ++ J) (I2.on ro3 z) e1 e2 (by rw [List.length_append, List.length_singleton]; omega) (flatM_app fm6 fJ) p6.app
    · refine w_iteF (decide_eq_false h4) ?_
      rw [show seatD g2 gs2 = .lst [.tup [.lst (g2.nm.map D.str), .lst (g2.pm.map D.str)], .lst (g2.rs.map rwD), .lst (gs2.map fun h => .lst (h.rs.map rwD))] from rfl] at undo ⊢
      walk_at "st"
      by_cases hr : g2.rs = []
      · have er : (!(g2.rs.map rwD).isEmpty) = false := by rw [hr]; rfl
        by_cases h6 : r < 6
        · refine w_iteT (decide_eq_true h6) ?_
          walk_at "st"
          refine w_iteF er ?_
          walk_at "st"
          by_cases h8 : r < 8
          · refine w_iteT (decide_eq_true h8) ?_
            walk_at "st"
            refine w_iteF er ?_
            exact undo
          · exact absurd h8 (by omega)
        · refine w_iteF (decide_eq_false h6) ?_
          walk_at "st"
          by_cases h8 : r < 8
          · refine w_iteT (decide_eq_true h8) ?_
            walk_at "st"
            refine w_iteF er ?_
            exact undo
          · refine w_iteF (decide_eq_false h8) ?_
            refine w_iteF rfl ?_
            exact undo
      · have er : (!(g2.rs.map rwD).isEmpty) = true := by
          cases hc : g2.rs with
          | nil => exact absurd hc hr
          | cons a b => rfl
        by_cases h6 : r < 6
        · refine w_iteT (decide_eq_true h6) ?_
          walk_at "st"
          refine w_iteT er ?_
          walk_at "st"
          refine ExG.out (w_hide [] _ (.refl _) ?_)
          walk_at "st"
          refine ⟨dx, pa, g2, gs2, 3, M4, rfl, rfl, ne, q1, q2, I2.ok, by decide, by omega, fm4, hr, p4, fun kk J m' ms' hkk p5 c5 fJ pm => ?_⟩
          refine ⟨bnM x dx pa (rowOff g2 kk) (gs2 ++ [g2]) ++ (m' ++ J), pm_end pm, ?_⟩
          walk_at "st"
          exact hn (rowOff g2 kk) (gs2 ++ [g2]) (m' ++ J) I2.off e1 e2 (by rw [List.length_append, List.length_singleton]; omega) (flatM_app (flatM_chg fm4 c5) fJ) p5.app
        · refine w_iteF (decide_eq_false h6) ?_
          walk_at "st"
          by_cases h8 : r < 8
          · refine w_iteT (decide_eq_true h8) ?_
            walk_at "st"
            refine w_iteT er ?_
            walk_at "st"
            refine ExG.out (w_hide [] _ (.refl _) ?_)
            walk_at "st"
            refine ⟨dx, pa, g2, gs2, 3, M4, rfl, rfl, ne, q1, q2, I2.ok, by decide, by omega, fm4, hr, p4, fun kk ws J m' ms' hkk wl wo p5 c5 fJ pm => ?_⟩
            refine ⟨bnM x dx pa (rowNew g2 kk ws) (gs2 ++ [g2]) ++ (m' ++ J), pm_end pm, ?_⟩
            walk_at "st"
            exact hn (rowNew g2 kk ws) (gs2 ++ [g2]) (m' ++ J) (I2.new hkk (by omega) fun w hw => (wo w hw).mono (by decide)) e1 e2 (by rw [List.length_append, List.length_singleton]; omega) (flatM_app (flatM_chg fm4 c5) fJ) p5.app
          · refine w_iteF (decide_eq_false h8) ?_
            refine w_iteF rfl ?_
            exact undo
  · rintro ds m ⟨g2, gs2, p2, M2, rfl, I2, e1, e2, gl2, fm2, hp2, n3, n4, y8, y9, y10, rfl⟩
    rw [rng_len] at gl2
    rw [← e1, ← e2]
    exact law_c3 hQ ne n3 n4 I2 (by omega) fm2 hp2
theorem law_c1 (hQ : ∀ m, Q (.bl true) m) {ns : List Int} {g : Pg} {M : MS} (ne : x ≠ pa) (n1 : p ≠ x) (n2 : p ≠ pa) (I : BnI g []) (fm : flatM M) (hp : PoolAt M p) :
    StG t_L_law_c1 { nx := fun _ m => Q .non m, rt := Q } [some (.fro (ns.map D.int)), some (.opq (.ref p)), some (.tup [.lst (g.nm.map D.str), .lst (g.pm.map D.str)]), x3, x4, x5, some (.opq (.ref x)), some (seatD g []), x8, x9, x10] (bnM x dx pa g [] ++ M) := by
  unfold t_L_law_c1
  walk_at "st"
  refine ExG.out (w_hide [] _ (.refl _) ?_)
  walk_at "st"
  refine ⟨dx, pa, g, [], 3, M, rfl, rfl, ne, I.ok, by decide, by simp, fm, fun J ms' fJ pm => ?_⟩
  refine ⟨bnM x dx pa g [] ++ (M ++ J), pm_end pm, ?_⟩
  walk_at "st"
  exact law_c2 (gs := []) hQ ne n1 n2 I (flatM_app fm fJ) hp.app
end
theorem look_bn {x dx pa a : Addr} {g : Pg} {gs : List Pg} {m : MS} (h1 : x ≠ a) (h2 : pa ≠ a) : look (bnM x dx pa g gs ++ m) a = look m a := by
  show look ((x, _) :: (pa, _) :: m) a = _
  rw [look, if_neg h1, look, if_neg h2]
theorem put_bn {x dx pa a : Addr} {g : Pg} {gs : List Pg} {m : MS} {ys : List D} (h1 : x ≠ a) (h2 : pa ≠ a) : put (bnM x dx pa g gs ++ m) a ys = bnM x dx pa g gs ++ put m a ys := by
  show put ((x, _) :: (pa, _) :: m) a ys = _
  rw [put, if_neg h1, put, if_neg h2]; rfl
theorem cut_xy {r : Int} (h0 : 0 ≤ r) (h1 : r < 2) : ∃ nm : List Str, cutL [D.str "x", .str "y"] none (some (1 + r)) = nm.map D.str ∧ NmOk 3 nm := by
  have : r = 0 ∨ r = 1 := by omega
  rcases this with rfl | rfl
  · exact ⟨["x"], rfl, by decide, by decide, by decide, by decide +kernel⟩
  · exact ⟨["x", "y"], rfl, by decide, by decide, by decide, by decide +kernel⟩
theorem cut_abc {r : Int} (h0 : 0 ≤ r) (h1 : r < 3) : ∃ nm : List Str, cutL [D.str "a", .str "b", .str "c"] none (some (1 + r)) = nm.map D.str ∧ NmOk 6 nm := by
  have : r = 0 ∨ r = 1 ∨ r = 2 := by omega
  rcases this with rfl | rfl | rfl
  · exact ⟨["a"], rfl, by decide, by decide, by decide, by decide +kernel⟩
  · exact ⟨["a", "b"], rfl, by decide, by decide, by decide, by decide +kernel⟩
  · exact ⟨["a", "b", "c"], rfl, by decide, by decide, by decide, by decide +kernel⟩
theorem sem_L_law : ∀ ds ms Q, sp_L_law ds ms Q → t_L_law { nx := fun _ m => Q .non m, rt := Q } (startD 11 ds) ms := by
  intro ds ms Q h
  unfold sp_L_law at h
  split at h
  · rename_i xs
    obtain ⟨ns, rfl, fm, hQ⟩ := h
    simp only [startD]
    unfold t_L_law
    walk_at "st"
    refine ⟨ns, rfl, by decide, by decide, fun p hp0 a b po => ?_⟩
    have fm0 : flatM ((p, [.int a, .int b]) :: ms) := flatM_cons fm rfl
    have po0 : PoolAt ((p, [.int a, .int b]) :: ms) p := .new po
    generalize (p, [D.int a, D.int b]) :: ms = M0 at fm0 po0
    walk_at "st"
    refine take_step po0 (by decide) (by decide) fun r1 a1 b1 M1 p1 c1 => ?_
    obtain ⟨nm, en, on⟩ := cut_xy a1 b1
    walk_at "st"
    rw [en]
    walk_at "st"
    refine take_step p1 (by decide) (by decide) fun r2 a2 b2 M2 p2 c2 => ?_
    obtain ⟨pm, ep, op⟩ := cut_abc a2 b2
    walk_at "st"
    rw [ep]
    walk_at "st"
    have fm2 := flatM_chg (flatM_chg fm0 c1) c2
    have nl1 := on.l1
    have nl2 := on.l2
    have pl1 := op.l1
    have pl2 := op.l2
    refine take_step p2 (by decide) (by decide) fun r3 a3 b3 M3 p3 c3 => ?_
    walk_at "st"
    refine w_mRng ⟨by omega, by omega⟩ ?_
    simp only [wipeD, List.set]
    refine comp_pool (p := p) (Good := fun d => ∃ r, d = rwD r ∧ RwOk 3 nm.length pm.length r) _ [] _ _ p3 ?_ ?_ ?_
    · rw [rng_len, List.length_nil]; omega
    · intro x hx m1 hm P0 q0
      walk_at "st"
      rw [List.length_map, List.length_map]
      refine ⟨nm.length, pm.length, rfl, rfl, hm, nl1, nl2, pl1, pl2, fun r ro _ m5 p5 c5 => ?_⟩
      exact q0 _ _ ⟨r, rfl, ro.mono (by decide)⟩ p5 c5
    · intro ys M4 yl hg p4 c4
      rw [rng_len] at yl
      obtain ⟨rs, rfl, ro⟩ := maps_of (f := rwD) ys hg
      rw [List.length_map] at yl
      rw [List.nil_append]
      have fm4 := flatM_chg (flatM_chg fm2 c3) c4
      walk_at "st"
      intro n hn
      walk_at "st"
      intro q hq
      walk_at "st"
      simp only [wipeD, List.set]
      have ok : PgOk 3 ⟨nm, pm, rs⟩ := ⟨on, op, by show rs.length ≤ 10; omega, ro⟩
      refine (show compD _ _ _ _ _ (([] : List LR).map lrD) _ _ from ?_)
      refine comp_new rwD lrD (fun r x => x.rw = r) (fun xs m => m = rsN xs ++ ((q, pm.map D.str) :: (n, nm.map D.str) :: M4) ∧ Frsh (rsN xs) ((q, pm.map D.str) :: (n, nm.map D.str) :: M4)) rs [] _ _ (by rw [List.length_nil]; omega) ⟨rfl, trivial⟩ (fun r hr xs m hJ K hK => ?_) ?_
      · obtain ⟨rfl, fr0⟩ := hJ
        walk_at "st"
        refine ⟨r, rfl, Nat.le_trans (ro r hr).wl (by decide), fun y e f => ?_⟩
        exact hK y _ e ⟨by rw [rsN_snoc, List.append_assoc], by rw [rsN_snoc]; exact frsh_app f fr0⟩
      intro xs m at_ hJ
      obtain ⟨rfl, fr0⟩ := hJ
      rw [List.nil_append] at fr0 ⊢
      have ex : xs.map LR.rw = rs := (fall_map (h := LR.rw) (f := id) (fun _ _ e => e) at_).trans (List.map_id _)
      intro w hw
      obtain ⟨pl, fL⟩ := pgl_mk (g := ⟨nm, pm, rs⟩) (q := w) ex ⟨hw, fr0⟩ hq hn
      walk_at "st"
      refine ExG.out (w_hide [] _ (.refl _) ?_)
      walk_at "st"
      intro x dx hx
      refine ⟨dx, ⟨nm, pm, rs⟩, 3, _, n, q, w, xs, M4, ?_, ok, pl, fm4, fun pa hpa => ?_⟩
      · rw [List.append_assoc]; rfl
      refine ⟨rfl, bnM x dx pa ⟨nm, pm, rs⟩ [] ++ ((rsM w xs ++ [(q, pm.map D.str), (n, nm.map D.str)]) ++ M4), List.Perm.swap _ _ _, ?_⟩
      have hx2 : ∀ e ∈ (rsM w xs ++ [(q, pm.map D.str), (n, nm.map D.str)]) ++ M4, e.1 ≠ x := by rw [List.append_assoc]; exact hx
      generalize rsM w xs ++ [(q, pm.map D.str), (n, nm.map D.str)] = L at pl fL hpa hx2 ⊢
      have nx : ∀ e ∈ L, x ≠ e.1 := fun e he z => hx2 e (List.mem_append_left _ he) z.symm
      have npa : ∀ e ∈ L, pa ≠ e.1 := fun e he z => hpa e (List.mem_cons_of_mem _ (List.mem_append_left _ he)) z.symm
      have ne : x ≠ pa := hpa _ List.mem_cons_self
      obtain ⟨ep', hep, eq⟩ := p4.mem
      have n1 : p ≠ x := fun z => hx2 ep' (List.mem_append_right _ hep) (eq.trans z)
      have n2 : p ≠ pa := fun z => hpa ep' (List.mem_cons_of_mem _ (List.mem_append_right _ hep)) (eq.trans z)
      walk_at "st"
      have lkw := (look_bn (dx := dx) (g := ⟨nm, pm, rs⟩) (gs := []) (nx _ pl.mq) (npa _ pl.mq)).trans (look_in (L := L) (ms := M4) fL pl.mq)
      have ptw := (put_bn (dx := dx) (g := ⟨nm, pm, rs⟩) (gs := []) (ys := xs.map lrD ++ [.non]) (nx _ pl.mq) (npa _ pl.mq)).trans (congrArg _ (put_app (M := L) (ms := M4) (adr_mem pl.mq)))
      have xl : xs.length ≤ 10 := by have := congrArg List.length ex; rw [List.length_map] at this; omega
      refine w_mApp lkw ?_
      walk_at "st"
      refine ⟨Nat.lt_of_lt_of_le (show (xs.map lrD).length < 20 by rw [List.length_map]; omega) (by decide), ?_⟩
      refine (show NxG _ _ (put (bnM x dx pa ⟨nm, pm, rs⟩ [] ++ (L ++ M4)) w (xs.map lrD ++ [.non])) from ?_)
      rw [show put (bnM x dx pa ⟨nm, pm, rs⟩ [] ++ (L ++ M4)) w (xs.map lrD ++ [.non]) = _ from ptw]
      have nd := (List.nodup_cons.mp pl.nd).1
      have nw : n ≠ w := fun z => nd (by rw [z]; simp)
      have f2 := frsh_map (put_adr w (xs.map lrD ++ [.non]) L) fL
      have fl2 := put_flat (a := w) pl.fl (ys := xs.map lrD ++ [.non]) (flats_app (flats_all lr_flat xs) rfl)
      have mn2 := put_mem_ne (a := w) (ys := xs.map lrD ++ [.non]) pl.mn nw
      have nxn := nx _ pl.mn
      have npan := npa _ pl.mn
      generalize put L w (xs.map lrD ++ [.non]) = L2 at f2 fl2 mn2 ⊢
      walk_at "st"
      refine w_mClear ((look_bn nxn npan).trans (look_in (L := L2) f2 mn2)) ((put_bn nxn npan).trans (congrArg _ (put_app (M := L2) (adr_mem mn2)))) ?_
      have f3 := frsh_map (put_adr n [] L2) f2
      have fl3 := put_flat (a := n) fl2 (ys := []) rfl
      generalize put L2 n [] = L3 at f3 fl3 ⊢
      walk_at "st"
      have pp : PoolAt (L3 ++ M4) p := by
        obtain ⟨a, b, o, l⟩ := p4
        exact ⟨a, b, o, by rw [look_off fun z hz => (frsh_off f3 z hz ep' hep |> fun h => fun k => h (eq.trans k.symm))]; exact l⟩
      exact law_c1 (g := ⟨nm, pm, rs⟩) hQ ne n1 n2 ⟨ok, fun _ h => by cases h⟩ (flatM_app fl3 fm4) pp
  · exact h.elim
theorem ok_L_law (T : Tx P K mg) : FnG P w K mg base 11 T.f_L_law T.d_L_law ["_law_script"] (spD K sp_L_law) := by
  have G_p_Bench___init__ := ok_p_Bench___init__ (P := P) (w := w) (base := base) T
  have G_L_pool := ok_L_pool (P := P) (w := w) (base := base) T
  have G_L_free_row := ok_L_free_row (P := P) (w := w) (base := base) T
  have G_L_shows := ok_L_shows (P := P) (w := w) (base := base) T
  have G_L_take := ok_L_take (P := P) (w := w) (base := base) T
  have G_L_put := ok_L_put (P := P) (w := w) (base := base) T
  have G_L_undone := ok_L_undone (P := P) (w := w) (base := base) T
  have G_L_copy := ok_L_copy (P := P) (w := w) (base := base) T
  have G_L_taken := ok_L_taken (P := P) (w := w) (base := base) T
  have G_L_changed := ok_L_changed (P := P) (w := w) (base := base) T
  exact fnG_of (k := 10) (t := t_L_law) T.F_L_law sc_L_law len_L_law
    (fun cdv A outer s H hr => pds_cons (pds_set (i := 1) sc_L_law.nd rfl (.inr rfl) (pd_call G_L_pool (hr.mono (by decide)) rfl T.g_L_pool T.F_L_pool.kp T.b_L_pool_2 (pda_cons (pd_var 0) (pda_cons (pd_int) (pda_nil))))) (pds_cons (pds_set (i := 2) sc_L_law.nd rfl (.inr rfl) (pd_tup (pda_cons (pd_slice (pd_lst (pda_cons (pd_str) (pda_cons (pd_str) (pda_nil)))) (pdo_none) (pdo_some (pd_op op_addD opd_add (pd_int) (pd_call G_L_take (hr.mono (by decide)) rfl T.g_L_take T.F_L_take.kp T.b_L_take_2 (pda_cons (pd_var 1) (pda_cons (pd_int) (pda_nil))))))) (pda_cons (pd_slice (pd_lst (pda_cons (pd_str) (pda_cons (pd_str) (pda_cons (pd_str) (pda_nil))))) (pdo_none) (pdo_some (pd_op op_addD opd_add (pd_int) (pd_call G_L_take (hr.mono (by decide)) rfl T.g_L_take T.F_L_take.kp T.b_L_take_2 (pda_cons (pd_var 1) (pda_cons (pd_int) (pda_nil))))))) (pda_nil))))) (pds_cons (pds_setLc (i := 4) (own := [("_law_turn", 3)]) rfl sc_L_law.nd rfl rfl (sw_true rfl rfl rfl (by decide +kernel)) (pdi_range1 rfl T.n_range (pda_cons (pd_call G_L_take (hr.mono (by decide)) rfl T.g_L_take T.F_L_take.kp T.b_L_take_2 (pda_cons (pd_var 1) (pda_cons (pd_int) (pda_nil)))) (pda_nil))) (blkOk_by (own := [("_law_turn", 3)]) (by kernel_rfl)) (fun _ _ _ _ _ => pg_name (i := 3) sc_L_law.nd rfl (by first | exact .inl rfl | exact .inr rfl)) (tg_name (i := 3) (by decide)) (mon_name (i := 3)) (fun _ _ _ _ _ => pdts_nil) (fun _ _ _ _ _ => pd_call G_L_free_row (hr.mono (by decide)) rfl T.g_L_free_row T.F_L_free_row.kp T.b_L_free_row_3 (pda_cons (pd_var 1) (pda_cons (pd_callB call_len cal_len rfl T.n_len (by decide +kernel) (pda_cons (pd_ix ix_seq opd_ix (pd_var 2) (pd_int)) (pda_nil))) (pda_cons (pd_callB call_len cal_len rfl T.n_len (by decide +kernel) (pda_cons (pd_ix ix_seq opd_ix (pd_var 2) (pd_int)) (pda_nil))) (pda_nil)))))) (pds_cons (pds_set (i := 5) sc_L_law.nd rfl (.inl rfl) (pd_tup (pda_cons (pd_callTy call_list_of cal_listM rfl T.n_list (by decide +kernel) (pda_cons (pd_ix ix_seq opd_ix (pd_var 2) (pd_int)) (pda_nil))) (pda_cons (pd_callTy call_list_of cal_listM rfl T.n_list (by decide +kernel) (pda_cons (pd_ix ix_seq opd_ix (pd_var 2) (pd_int)) (pda_nil))) (pda_cons (pd_lcM (own := [("_law_row", 10)]) rfl sc_L_law.nd (pdi_list (pd_var 4)) (blkOk_by (own := [("_law_row", 10)]) (by kernel_rfl)) (fun _ _ _ _ _ => pg_name (i := 10) sc_L_law.nd rfl (by first | exact .inl rfl | exact .inr rfl)) (tg_name (i := 10) (by decide)) (mon_name (i := 10)) (fun _ _ _ _ _ => pdts_nil) (fun _ _ _ _ _ => pd_call G_L_copy (hr.mono (by decide)) rfl T.g_L_copy T.F_L_copy.kp T.b_L_copy_1 (pda_cons (pd_var 10) (pda_nil)))) (pda_nil)))))) (pds_cons (pds_set (i := 6) sc_L_law.nd rfl (.inl rfl) (pd_hide (pd_makeK0 T.M_Bench G_p_Bench___init__ (hr.mono (by decide)) rfl T.gx_Bench T.b_p_Bench___init___1_program (pdk_cons (pd_var 5) (pdk_nil))))) (pds_cons (pds_set (i := 7) sc_L_law.nd rfl (.inl rfl) (pd_lst (pda_cons (pd_var 2) (pda_cons (pd_var 4) (pda_cons (pd_lst (pda_nil)) (pda_nil)))))) (pds_cons (pds_expr (pd_append (pd_ix ix_seq opd_ix (pd_var 5) (pd_int)) (pda_cons (pd_non) (pda_nil)))) (pds_cons (pds_expr (pd_clear (pd_ix ix_seq opd_ix (pd_var 5) (pd_int)))) (pds_cons (pds_if (pdt_not (pdt_val (pd_hide (pd_call G_L_shows (hr.mono (by decide)) rfl T.g_L_shows T.F_L_shows.kp T.b_L_shows_2 (pda_cons (pd_var 6) (pda_cons (pd_var 7) (pda_nil))))))) (pds_one (pds_ret (pd_bl))) (pds_nil)) (pds_cons (pds_for (vs := [8]) rfl (pdi_range2 rfl T.n_range (pda_cons (pd_int) (pda_cons (pd_callB (call_max2 rfl) cal_max2 rfl T.n_max (by decide +kernel) (pda_cons (pd_int) (pda_cons (pd_callB (call_min2 rfl) cal_min2 rfl T.n_min (by decide +kernel) (pda_cons (pd_callB call_len cal_len rfl T.n_len (by decide +kernel) (pda_cons (pd_var 0) (pda_nil))) (pda_cons (pd_int) (pda_nil)))) (pda_nil)))) (pda_nil)))) (pg_name (i := 8) sc_L_law.nd rfl (.inl rfl)) (tg_name (i := 8) (by decide)) (pds_cons (pds_set (i := 1) sc_L_law.nd rfl (.inr rfl) (pd_hide (pd_call G_L_pool (hr.mono (by decide)) rfl T.g_L_pool T.F_L_pool.kp T.b_L_pool_2 (pda_cons (pd_var 0) (pda_cons (pd_var 8) (pda_nil)))))) (pds_cons (pds_set (i := 9) sc_L_law.nd rfl (.inl rfl) (pd_call G_L_take (hr.mono (by decide)) rfl T.g_L_take T.F_L_take.kp T.b_L_take_2 (pda_cons (pd_var 1) (pda_cons (pd_int) (pda_nil))))) (pds_cons (pds_if (pdt_cmp op_lt opd_lt (pd_var 9) (pd_int)) (pds_one (pds_set (i := 7) sc_L_law.nd rfl (.inl rfl) (pd_hide (pd_call G_L_put (hr.mono (by decide)) rfl T.g_L_put T.F_L_put.kp T.b_L_put_3 (pda_cons (pd_var 6) (pda_cons (pd_var 7) (pda_cons (pd_call G_L_free_row (hr.mono (by decide)) rfl T.g_L_free_row T.F_L_free_row.kp T.b_L_free_row_3 (pda_cons (pd_var 1) (pda_cons (pd_callB call_len cal_len rfl T.n_len (by decide +kernel) (pda_cons (pd_ix ix_seq opd_ix (pd_var 2) (pd_int)) (pda_nil))) (pda_cons (pd_callB call_len cal_len rfl T.n_len (by decide +kernel) (pda_cons (pd_ix ix_seq opd_ix (pd_var 2) (pd_int)) (pda_nil))) (pda_nil))))) (pda_nil)))))))) (pds_one (pds_if (pdt_w (pdw_and (pdt_cmp op_lt opd_lt (pd_var 9) (pd_int)) (pdw_and1 (pdt_cmp (op_neF hr.r.units) opd_ne (pd_ix ix_seq opd_ix (pd_var 7) (pd_int)) (pd_lst (pda_nil)))))) (pds_one (pds_set (i := 7) sc_L_law.nd rfl (.inl rfl) (pd_hide (pd_call G_L_taken (hr.mono (by decide)) rfl T.g_L_taken T.F_L_taken.kp T.b_L_taken_3 (pda_cons (pd_var 1) (pda_cons (pd_var 6) (pda_cons (pd_var 7) (pda_nil)))))))) (pds_one (pds_if (pdt_w (pdw_and (pdt_cmp op_lt opd_lt (pd_var 9) (pd_int)) (pdw_and1 (pdt_cmp (op_neF hr.r.units) opd_ne (pd_ix ix_seq opd_ix (pd_var 7) (pd_int)) (pd_lst (pda_nil)))))) (pds_one (pds_set (i := 7) sc_L_law.nd rfl (.inl rfl) (pd_hide (pd_call G_L_changed (hr.mono (by decide)) rfl T.g_L_changed T.F_L_changed.kp T.b_L_changed_3 (pda_cons (pd_var 1) (pda_cons (pd_var 6) (pda_cons (pd_var 7) (pda_nil)))))))) (pds_one (pds_set (i := 7) sc_L_law.nd rfl (.inl rfl) (pd_hide (pd_call G_L_undone (hr.mono (by decide)) rfl T.g_L_undone T.F_L_undone.kp T.b_L_undone_2 (pda_cons (pd_var 6) (pda_cons (pd_var 7) (pda_nil)))))))))))) (pds_one (pds_if (pdt_w (pdw_or (pdt_cmp op_isD opd_is (pd_var 7) (pd_non)) (pdw_or1 (pdt_not (pdt_val (pd_hide (pd_call G_L_shows (hr.mono (by decide)) rfl T.g_L_shows T.F_L_shows.kp T.b_L_shows_2 (pda_cons (pd_var 6) (pda_cons (pd_var 7) (pda_nil)))))))))) (pds_one (pds_ret (pd_bl))) (pds_nil))))))) (pds_cons (pds_for (vs := [3]) rfl (pdi_range1 rfl T.n_range (pda_cons (pd_op op_sub opd_sub (pd_int) (pd_callB call_len cal_len rfl T.n_len (by decide +kernel) (pda_cons (pd_ix ix_seq opd_ix (pd_var 7) (pd_int)) (pda_nil)))) (pda_nil))) (pg_name (i := 3) sc_L_law.nd rfl (.inl rfl)) (tg_name (i := 3) (by decide)) (pds_cons (pds_set (i := 7) sc_L_law.nd rfl (.inl rfl) (pd_hide (pd_call G_L_put (hr.mono (by decide)) rfl T.g_L_put T.F_L_put.kp T.b_L_put_3 (pda_cons (pd_var 6) (pda_cons (pd_var 7) (pda_cons (pd_call G_L_free_row (hr.mono (by decide)) rfl T.g_L_free_row T.F_L_free_row.kp T.b_L_free_row_3 (pda_cons (pd_var 1) (pda_cons (pd_callB call_len cal_len rfl T.n_len (by decide +kernel) (pda_cons (pd_ix ix_seq opd_ix (pd_var 2) (pd_int)) (pda_nil))) (pda_cons (pd_callB call_len cal_len rfl T.n_len (by decide +kernel) (pda_cons (pd_ix ix_seq opd_ix (pd_var 2) (pd_int)) (pda_nil))) (pda_nil))))) (pda_nil))))))) (pds_one (pds_if (pdt_cmp op_isD opd_is (pd_var 7) (pd_non)) (pds_one (pds_ret (pd_bl))) (pds_nil))))) (pds_cons (pds_if (pdt_w (pdw_or (pdt_cmp (op_neF hr.r.units) opd_ne (pd_hide (pd_call G_L_put (hr.mono (by decide)) rfl T.g_L_put T.F_L_put.kp T.b_L_put_3 (pda_cons (pd_var 6) (pda_cons (pd_var 7) (pda_cons (pd_tup (pda_cons (pd_int) (pda_cons (pd_int) (pda_cons (pd_lst (pda_nil)) (pda_nil))))) (pda_nil)))))) (pd_var 7)) (pdw_or1 (pdt_not (pdt_val (pd_hide (pd_call G_L_shows (hr.mono (by decide)) rfl T.g_L_shows T.F_L_shows.kp T.b_L_shows_2 (pda_cons (pd_var 6) (pda_cons (pd_var 7) (pda_nil)))))))))) (pds_one (pds_ret (pd_bl))) (pds_nil)) (pds_cons (pds_while (pdt_cmp (op_neF hr.r.units) opd_ne (pd_ix ix_seq opd_ix (pd_var 7) (pd_int)) (pd_lst (pda_nil))) (pds_cons (pds_set (i := 7) sc_L_law.nd rfl (.inl rfl) (pd_hide (pd_call G_L_undone (hr.mono (by decide)) rfl T.g_L_undone T.F_L_undone.kp T.b_L_undone_2 (pda_cons (pd_var 6) (pda_cons (pd_var 7) (pda_nil)))))) (pds_one (pds_if (pdt_w (pdw_or (pdt_cmp op_isD opd_is (pd_var 7) (pd_non)) (pdw_or1 (pdt_not (pdt_val (pd_hide (pd_call G_L_shows (hr.mono (by decide)) rfl T.g_L_shows T.F_L_shows.kp T.b_L_shows_2 (pda_cons (pd_var 6) (pda_cons (pd_var 7) (pda_nil)))))))))) (pds_one (pds_ret (pd_bl))) (pds_nil))))) (pds_one (pds_ret (pd_and (pd_cmp (op_eqF hr.r.units) opd_eq (pd_hide (pd_call G_L_undone (hr.mono (by decide)) rfl T.g_L_undone T.F_L_undone.kp T.b_L_undone_2 (pda_cons (pd_var 6) (pda_cons (pd_var 7) (pda_nil))))) (pd_var 7)) (pd_one (pd_hide (pd_call G_L_shows (hr.mono (by decide)) rfl T.g_L_shows T.F_L_shows.kp T.b_L_shows_2 (pda_cons (pd_var 6) (pda_cons (pd_var 7) (pda_nil))))))))))))))))))))))
    sem_L_law
end
theorem all_mk {l : PySem.W.OpenLaw} {w : World} {K : PySem.W.Frag} {h : Heap} {mg : Str → Option Value} {fa : Addr} (X : K.In h) (G : h.Ns mainGlobals mg) (hfa : mg "law" = some (.ref fa))
    {f0 : Addr} {od0 an0 : Option Addr} {sl0 : Array (Option Value)} {oc0 kV0 dc0 pm0 cd0 ct0 : Value}
    {f1 : Addr} {od1 an1 : Option Addr} {sl1 : Array (Option Value)} {oc1 kV1 dc1 pm1 cd1 ct1 : Value}
    {f2 : Addr} {od2 an2 : Option Addr} {sl2 : Array (Option Value)} {oc2 kV2 dc2 pm2 cd2 ct2 : Value}
    {f3 : Addr} {od3 an3 : Option Addr} {sl3 : Array (Option Value)} {oc3 kV3 dc3 pm3 cd3 ct3 : Value}
    {f4 : Addr} {od4 an4 : Option Addr} {sl4 : Array (Option Value)} {oc4 kV4 dc4 pm4 cd4 ct4 : Value}
    {f5 : Addr} {od5 an5 : Option Addr} {sl5 : Array (Option Value)} {oc5 kV5 dc5 pm5 cd5 ct5 : Value}
    {f6 : Addr} {od6 an6 : Option Addr} {sl6 : Array (Option Value)} {oc6 kV6 dc6 pm6 cd6 ct6 : Value}
    {f7 : Addr} {od7 an7 : Option Addr} {sl7 : Array (Option Value)} {oc7 kV7 dc7 pm7 cd7 ct7 : Value}
    {f8 : Addr} {od8 an8 : Option Addr} {sl8 : Array (Option Value)} {oc8 kV8 dc8 pm8 cd8 ct8 : Value}
    {f9 : Addr} {od9 an9 : Option Addr} {sl9 : Array (Option Value)} {oc9 kV9 dc9 pm9 cd9 ct9 : Value}
    {f10 : Addr} {od10 an10 : Option Addr} {sl10 : Array (Option Value)} {oc10 kV10 dc10 pm10 cd10 ct10 : Value}
    {f11 : Addr} {od11 an11 : Option Addr} {sl11 : Array (Option Value)} {oc11 kV11 dc11 pm11 cd11 ct11 : Value}
    {f12 : Addr} {od12 an12 : Option Addr} {sl12 : Array (Option Value)} {oc12 kV12 dc12 pm12 cd12 ct12 : Value}
    {f13 : Addr} {od13 an13 : Option Addr} {sl13 : Array (Option Value)} {oc13 kV13 dc13 pm13 cd13 ct13 : Value}
    {f14 : Addr} {od14 an14 : Option Addr} {sl14 : Array (Option Value)} {oc14 kV14 dc14 pm14 cd14 ct14 : Value}
    {f15 : Addr} {od15 an15 : Option Addr} {sl15 : Array (Option Value)} {oc15 kV15 dc15 pm15 cd15 ct15 : Value}
    {f16 : Addr} {od16 an16 : Option Addr} {sl16 : Array (Option Value)} {oc16 kV16 dc16 pm16 cd16 ct16 : Value}
    {f17 : Addr} {od17 an17 : Option Addr} {sl17 : Array (Option Value)} {oc17 kV17 dc17 pm17 cd17 ct17 : Value}
    {f18 : Addr} {od18 an18 : Option Addr} {sl18 : Array (Option Value)} {oc18 kV18 dc18 pm18 cd18 ct18 : Value}
    {f19 : Addr} {od19 an19 : Option Addr} {sl19 : Array (Option Value)} {oc19 kV19 dc19 pm19 cd19 ct19 : Value}
    {f20 : Addr} {od20 an20 : Option Addr} {sl20 : Array (Option Value)} {oc20 kV20 dc20 pm20 cd20 ct20 : Value}
    {f21 : Addr} {od21 an21 : Option Addr} {sl21 : Array (Option Value)} {oc21 kV21 dc21 pm21 cd21 ct21 : Value}
    {f22 : Addr} {od22 an22 : Option Addr} {sl22 : Array (Option Value)} {oc22 kV22 dc22 pm22 cd22 ct22 : Value}
    {f23 : Addr} {od23 an23 : Option Addr} {sl23 : Array (Option Value)} {oc23 kV23 dc23 pm23 cd23 ct23 : Value}
    {f24 : Addr} {od24 an24 : Option Addr} {sl24 : Array (Option Value)} {oc24 kV24 dc24 pm24 cd24 ct24 : Value}
    {f25 : Addr} {od25 an25 : Option Addr} {sl25 : Array (Option Value)} {oc25 kV25 dc25 pm25 cd25 ct25 : Value}
    {f26 : Addr} {od26 an26 : Option Addr} {sl26 : Array (Option Value)} {oc26 kV26 dc26 pm26 cd26 ct26 : Value}
    {f27 : Addr} {od27 an27 : Option Addr} {sl27 : Array (Option Value)} {oc27 kV27 dc27 pm27 cd27 ct27 : Value}
    {f28 : Addr} {od28 an28 : Option Addr} {sl28 : Array (Option Value)} {oc28 kV28 dc28 pm28 cd28 ct28 : Value}
    {f29 : Addr} {od29 an29 : Option Addr} {sl29 : Array (Option Value)} {oc29 kV29 dc29 pm29 cd29 ct29 : Value}
    {f30 : Addr} {od30 an30 : Option Addr} {sl30 : Array (Option Value)} {oc30 kV30 dc30 pm30 cd30 ct30 : Value}
    {f31 : Addr} {od31 an31 : Option Addr} {sl31 : Array (Option Value)} {oc31 kV31 dc31 pm31 cd31 ct31 : Value}
    {f32 : Addr} {od32 an32 : Option Addr} {sl32 : Array (Option Value)} {oc32 kV32 dc32 pm32 cd32 ct32 : Value}
    {f33 : Addr} {od33 an33 : Option Addr} {sl33 : Array (Option Value)} {oc33 kV33 dc33 pm33 cd33 ct33 : Value}
    {f34 : Addr} {od34 an34 : Option Addr} {sl34 : Array (Option Value)} {oc34 kV34 dc34 pm34 cd34 ct34 : Value}
    {f35 : Addr} {od35 an35 : Option Addr} {sl35 : Array (Option Value)} {oc35 kV35 dc35 pm35 cd35 ct35 : Value}
    {tk_JUST : Tok}
    {tk_LEAST : Tok}
    {tk_LEFT : Tok}
    {tk_LETTERS : Tok}
    {tk_LONGEST_NAME : Tok}
    {tk_MOST_NAMES : Tok}
    {tk_MOST_NUMBERS : Tok}
    {tk_MOST_PLACES : Tok}
    {tk_MOST_ROWS : Tok}
    {tk_MOST_WISHES : Tok}
    {ec_Bare : Addr}
    {ec_Full : Addr}
    {ec_NoNumber : Addr}
    {ec_NoProgram : Addr}
    {ec_NoRow : Addr}
    {ec_NoWishes : Addr}
    {ec_Bench : Addr}
    {fi_NoRow icc_NoRow icd_NoRow : Addr} {iod_NoRow ian_NoRow jcd_NoRow kcd_NoRow : Option Addr} {ioc_NoRow ikV_NoRow idc_NoRow ipm_NoRow ict_NoRow jcl_NoRow kcl_NoRow : Value} {isl_NoRow jcs_NoRow kcs_NoRow : Array (Option Value)} {kvs_NoRow : Array Value} {kfl_NoRow : Str} {kft_NoRow : Tok}
    (a0 : PySem.W.nsIn K mainGlobals "is_whole" = some (some (.ref f0)))
    (l0 : K.lookup f0 = some ⟨oc0, od0, .func (PySem.W.fnOf "is_whole" "is_whole" (defArgs s_p_is_whole) (defBody s_p_is_whole) (defScope s_p_is_whole) .none kV0 dc0 pm0 an0 cd0 ct0), sl0⟩)
    (c0 : PySem.W.codeIn K cd0 "is_whole" = true) (k0 : PySem.W.keepIn K (.ref f0) = true)
    (a1 : PySem.W.nsIn K mainGlobals "is_one_of" = some (some (.ref f1)))
    (l1 : K.lookup f1 = some ⟨oc1, od1, .func (PySem.W.fnOf "is_one_of" "is_one_of" (defArgs s_p_is_one_of) (defBody s_p_is_one_of) (defScope s_p_is_one_of) .none kV1 dc1 pm1 an1 cd1 ct1), sl1⟩)
    (c1 : PySem.W.codeIn K cd1 "is_one_of" = true) (k1 : PySem.W.keepIn K (.ref f1) = true)
    (a2 : PySem.W.nsIn K mainGlobals "look_at_many" = some (some (.ref f2)))
    (l2 : K.lookup f2 = some ⟨oc2, od2, .func (PySem.W.fnOf "look_at_many" "look_at_many" (defArgs s_p_look_at_many) (defBody s_p_look_at_many) (defScope s_p_look_at_many) .none kV2 dc2 pm2 an2 cd2 ct2), sl2⟩)
    (c2 : PySem.W.codeIn K cd2 "look_at_many" = true) (k2 : PySem.W.keepIn K (.ref f2) = true)
    (a3 : PySem.W.nsIn K mainGlobals "is_line" = some (some (.ref f3)))
    (l3 : K.lookup f3 = some ⟨oc3, od3, .func (PySem.W.fnOf "is_line" "is_line" (defArgs s_p_is_line) (defBody s_p_is_line) (defScope s_p_is_line) .none kV3 dc3 pm3 an3 cd3 ct3), sl3⟩)
    (c3 : PySem.W.codeIn K cd3 "is_line" = true) (k3 : PySem.W.keepIn K (.ref f3) = true)
    (a4 : PySem.W.nsIn K mainGlobals "is_wish" = some (some (.ref f4)))
    (l4 : K.lookup f4 = some ⟨oc4, od4, .func (PySem.W.fnOf "is_wish" "is_wish" (defArgs s_p_is_wish) (defBody s_p_is_wish) (defScope s_p_is_wish) .none kV4 dc4 pm4 an4 cd4 ct4), sl4⟩)
    (c4 : PySem.W.codeIn K cd4 "is_wish" = true) (k4 : PySem.W.keepIn K (.ref f4) = true)
    (a5 : PySem.W.nsIn K mainGlobals "is_letters" = some (some (.ref f5)))
    (l5 : K.lookup f5 = some ⟨oc5, od5, .func (PySem.W.fnOf "is_letters" "is_letters" (defArgs s_p_is_letters) (defBody s_p_is_letters) (defScope s_p_is_letters) .none kV5 dc5 pm5 an5 cd5 ct5), sl5⟩)
    (c5 : PySem.W.codeIn K cd5 "is_letters" = true) (k5 : PySem.W.keepIn K (.ref f5) = true)
    (a6 : PySem.W.nsIn K mainGlobals "is_name" = some (some (.ref f6)))
    (l6 : K.lookup f6 = some ⟨oc6, od6, .func (PySem.W.fnOf "is_name" "is_name" (defArgs s_p_is_name) (defBody s_p_is_name) (defScope s_p_is_name) .none kV6 dc6 pm6 an6 cd6 ct6), sl6⟩)
    (c6 : PySem.W.codeIn K cd6 "is_name" = true) (k6 : PySem.W.keepIn K (.ref f6) = true)
    (a7 : PySem.W.nsIn K mainGlobals "look_at_names" = some (some (.ref f7)))
    (l7 : K.lookup f7 = some ⟨oc7, od7, .func (PySem.W.fnOf "look_at_names" "look_at_names" (defArgs s_p_look_at_names) (defBody s_p_look_at_names) (defScope s_p_look_at_names) .none kV7 dc7 pm7 an7 cd7 ct7), sl7⟩)
    (c7 : PySem.W.codeIn K cd7 "look_at_names" = true) (k7 : PySem.W.keepIn K (.ref f7) = true)
    (a8 : PySem.W.nsIn K mainGlobals "is_wishes" = some (some (.ref f8)))
    (l8 : K.lookup f8 = some ⟨oc8, od8, .func (PySem.W.fnOf "is_wishes" "is_wishes" (defArgs s_p_is_wishes) (defBody s_p_is_wishes) (defScope s_p_is_wishes) .none kV8 dc8 pm8 an8 cd8 ct8), sl8⟩)
    (c8 : PySem.W.codeIn K cd8 "is_wishes" = true) (k8 : PySem.W.keepIn K (.ref f8) = true)
    (a9 : PySem.W.nsIn K mainGlobals "is_row" = some (some (.ref f9)))
    (l9 : K.lookup f9 = some ⟨oc9, od9, .func (PySem.W.fnOf "is_row" "is_row" (defArgs s_p_is_row) (defBody s_p_is_row) (defScope s_p_is_row) .none kV9 dc9 pm9 an9 cd9 ct9), sl9⟩)
    (c9 : PySem.W.codeIn K cd9 "is_row" = true) (k9 : PySem.W.keepIn K (.ref f9) = true)
    (a10 : PySem.W.nsIn K mainGlobals "look_at_rows" = some (some (.ref f10)))
    (l10 : K.lookup f10 = some ⟨oc10, od10, .func (PySem.W.fnOf "look_at_rows" "look_at_rows" (defArgs s_p_look_at_rows) (defBody s_p_look_at_rows) (defScope s_p_look_at_rows) .none kV10 dc10 pm10 an10 cd10 ct10), sl10⟩)
    (c10 : PySem.W.codeIn K cd10 "look_at_rows" = true) (k10 : PySem.W.keepIn K (.ref f10) = true)
    (a11 : PySem.W.nsIn K mainGlobals "look_at" = some (some (.ref f11)))
    (l11 : K.lookup f11 = some ⟨oc11, od11, .func (PySem.W.fnOf "look_at" "look_at" (defArgs s_p_look_at) (defBody s_p_look_at) (defScope s_p_look_at) .none kV11 dc11 pm11 an11 cd11 ct11), sl11⟩)
    (c11 : PySem.W.codeIn K cd11 "look_at" = true) (k11 : PySem.W.keepIn K (.ref f11) = true)
    (a12 : PySem.W.nsIn K mainGlobals "look_at_number" = some (some (.ref f12)))
    (l12 : K.lookup f12 = some ⟨oc12, od12, .func (PySem.W.fnOf "look_at_number" "look_at_number" (defArgs s_p_look_at_number) (defBody s_p_look_at_number) (defScope s_p_look_at_number) .none kV12 dc12 pm12 an12 cd12 ct12), sl12⟩)
    (c12 : PySem.W.codeIn K cd12 "look_at_number" = true) (k12 : PySem.W.keepIn K (.ref f12) = true)
    (a13 : PySem.W.nsIn K mainGlobals "copied_wishes" = some (some (.ref f13)))
    (l13 : K.lookup f13 = some ⟨oc13, od13, .func (PySem.W.fnOf "copied_wishes" "copied_wishes" (defArgs s_p_copied_wishes) (defBody s_p_copied_wishes) (defScope s_p_copied_wishes) .none kV13 dc13 pm13 an13 cd13 ct13), sl13⟩)
    (c13 : PySem.W.codeIn K cd13 "copied_wishes" = true) (k13 : PySem.W.keepIn K (.ref f13) = true)
    (a14 : PySem.W.nsIn K mainGlobals "copied_rows" = some (some (.ref f14)))
    (l14 : K.lookup f14 = some ⟨oc14, od14, .func (PySem.W.fnOf "copied_rows" "copied_rows" (defArgs s_p_copied_rows) (defBody s_p_copied_rows) (defScope s_p_copied_rows) .none kV14 dc14 pm14 an14 cd14 ct14), sl14⟩)
    (c14 : PySem.W.codeIn K cd14 "copied_rows" = true) (k14 : PySem.W.keepIn K (.ref f14) = true)
    (a15 : PySem.W.nsIn K mainGlobals "copied" = some (some (.ref f15)))
    (l15 : K.lookup f15 = some ⟨oc15, od15, .func (PySem.W.fnOf "copied" "copied" (defArgs s_p_copied) (defBody s_p_copied) (defScope s_p_copied) .none kV15 dc15 pm15 an15 cd15 ct15), sl15⟩)
    (c15 : PySem.W.codeIn K cd15 "copied" = true) (k15 : PySem.W.keepIn K (.ref f15) = true)
    (a16 : PySem.W.findIn K (.ref ec_Bench) "__init__" = some (some (.ref f16)))
    (l16 : K.lookup f16 = some ⟨oc16, od16, .func (PySem.W.fnOf "__init__" "Bench.__init__" (defArgs s_p_Bench___init__) (defBody s_p_Bench___init__) (defScope s_p_Bench___init__) .none kV16 dc16 pm16 an16 cd16 ct16), sl16⟩)
    (c16 : PySem.W.codeIn K cd16 "Bench.__init__" = true) (k16 : PySem.W.keepIn K (.ref f16) = true)
    (fn16 : PySem.W.isFn K (.ref f16) = true)
    (a17 : PySem.W.findIn K (.ref ec_Bench) "set_rows" = some (some (.ref f17)))
    (l17 : K.lookup f17 = some ⟨oc17, od17, .func (PySem.W.fnOf "set_rows" "Bench.set_rows" (defArgs s_p_Bench_set_rows) (defBody s_p_Bench_set_rows) (defScope s_p_Bench_set_rows) .none kV17 dc17 pm17 an17 cd17 ct17), sl17⟩)
    (c17 : PySem.W.codeIn K cd17 "Bench.set_rows" = true) (k17 : PySem.W.keepIn K (.ref f17) = true)
    (fn17 : PySem.W.isFn K (.ref f17) = true)
    (a18 : PySem.W.findIn K (.ref ec_Bench) "put" = some (some (.ref f18)))
    (l18 : K.lookup f18 = some ⟨oc18, od18, .func (PySem.W.fnOf "put" "Bench.put" (defArgs s_p_Bench_put) (defBody s_p_Bench_put) (defScope s_p_Bench_put) .none kV18 dc18 pm18 an18 cd18 ct18), sl18⟩)
    (c18 : PySem.W.codeIn K cd18 "Bench.put" = true) (k18 : PySem.W.keepIn K (.ref f18) = true)
    (fn18 : PySem.W.isFn K (.ref f18) = true)
    (a19 : PySem.W.findIn K (.ref ec_Bench) "take" = some (some (.ref f19)))
    (l19 : K.lookup f19 = some ⟨oc19, od19, .func (PySem.W.fnOf "take" "Bench.take" (defArgs s_p_Bench_take) (defBody s_p_Bench_take) (defScope s_p_Bench_take) .none kV19 dc19 pm19 an19 cd19 ct19), sl19⟩)
    (c19 : PySem.W.codeIn K cd19 "Bench.take" = true) (k19 : PySem.W.keepIn K (.ref f19) = true)
    (fn19 : PySem.W.isFn K (.ref f19) = true)
    (a20 : PySem.W.findIn K (.ref ec_Bench) "change" = some (some (.ref f20)))
    (l20 : K.lookup f20 = some ⟨oc20, od20, .func (PySem.W.fnOf "change" "Bench.change" (defArgs s_p_Bench_change) (defBody s_p_Bench_change) (defScope s_p_Bench_change) .none kV20 dc20 pm20 an20 cd20 ct20), sl20⟩)
    (c20 : PySem.W.codeIn K cd20 "Bench.change" = true) (k20 : PySem.W.keepIn K (.ref f20) = true)
    (fn20 : PySem.W.isFn K (.ref f20) = true)
    (a21 : PySem.W.findIn K (.ref ec_Bench) "undo" = some (some (.ref f21)))
    (l21 : K.lookup f21 = some ⟨oc21, od21, .func (PySem.W.fnOf "undo" "Bench.undo" (defArgs s_p_Bench_undo) (defBody s_p_Bench_undo) (defScope s_p_Bench_undo) .none kV21 dc21 pm21 an21 cd21 ct21), sl21⟩)
    (c21 : PySem.W.codeIn K cd21 "Bench.undo" = true) (k21 : PySem.W.keepIn K (.ref f21) = true)
    (fn21 : PySem.W.isFn K (.ref f21) = true)
    (a22 : PySem.W.findIn K (.ref ec_Bench) "program" = some (some (.ref f22)))
    (l22 : K.lookup f22 = some ⟨oc22, od22, .func (PySem.W.fnOf "program" "Bench.program" (defArgs s_p_Bench_program) (defBody s_p_Bench_program) (defScope s_p_Bench_program) .none kV22 dc22 pm22 an22 cd22 ct22), sl22⟩)
    (c22 : PySem.W.codeIn K cd22 "Bench.program" = true) (k22 : PySem.W.keepIn K (.ref f22) = true)
    (fn22 : PySem.W.isFn K (.ref f22) = true)
    (a23 : PySem.W.findIn K (.ref ec_Bench) "deeds" = some (some (.ref f23)))
    (l23 : K.lookup f23 = some ⟨oc23, od23, .func (PySem.W.fnOf "deeds" "Bench.deeds" (defArgs s_p_Bench_deeds) (defBody s_p_Bench_deeds) (defScope s_p_Bench_deeds) .none kV23 dc23 pm23 an23 cd23 ct23), sl23⟩)
    (c23 : PySem.W.codeIn K cd23 "Bench.deeds" = true) (k23 : PySem.W.keepIn K (.ref f23) = true)
    (fn23 : PySem.W.isFn K (.ref f23) = true)
    (a24 : PySem.W.findIn K (.ref ec_Bench) "keeps" = some (some (.ref f24)))
    (l24 : K.lookup f24 = some ⟨oc24, od24, .func (PySem.W.fnOf "keeps" "Bench.keeps" (defArgs s_p_Bench_keeps) (defBody s_p_Bench_keeps) (defScope s_p_Bench_keeps) .none kV24 dc24 pm24 an24 cd24 ct24), sl24⟩)
    (c24 : PySem.W.codeIn K cd24 "Bench.keeps" = true) (k24 : PySem.W.keepIn K (.ref f24) = true)
    (fn24 : PySem.W.isFn K (.ref f24) = true)
    (a25 : PySem.W.findIn K (.ref ec_Bench) "__len__" = some (some (.ref f25)))
    (l25 : K.lookup f25 = some ⟨oc25, od25, .func (PySem.W.fnOf "__len__" "Bench.__len__" (defArgs s_p_Bench___len__) (defBody s_p_Bench___len__) (defScope s_p_Bench___len__) .none kV25 dc25 pm25 an25 cd25 ct25), sl25⟩)
    (c25 : PySem.W.codeIn K cd25 "Bench.__len__" = true) (k25 : PySem.W.keepIn K (.ref f25) = true)
    (fn25 : PySem.W.isFn K (.ref f25) = true)
    (a26 : PySem.W.nsIn K mainGlobals "_law_pool" = some (some (.ref f26)))
    (l26 : K.lookup f26 = some ⟨oc26, od26, .func (PySem.W.fnOf "_law_pool" "_law_pool" (defArgs s_L_pool) (defBody s_L_pool) (defScope s_L_pool) .none kV26 dc26 pm26 an26 cd26 ct26), sl26⟩)
    (c26 : PySem.W.codeIn K cd26 "_law_pool" = true) (k26 : PySem.W.keepIn K (.ref f26) = true)
    (a27 : PySem.W.nsIn K mainGlobals "_law_take" = some (some (.ref f27)))
    (l27 : K.lookup f27 = some ⟨oc27, od27, .func (PySem.W.fnOf "_law_take" "_law_take" (defArgs s_L_take) (defBody s_L_take) (defScope s_L_take) .none kV27 dc27 pm27 an27 cd27 ct27), sl27⟩)
    (c27 : PySem.W.codeIn K cd27 "_law_take" = true) (k27 : PySem.W.keepIn K (.ref f27) = true)
    (a28 : PySem.W.nsIn K mainGlobals "_law_free_row" = some (some (.ref f28)))
    (l28 : K.lookup f28 = some ⟨oc28, od28, .func (PySem.W.fnOf "_law_free_row" "_law_free_row" (defArgs s_L_free_row) (defBody s_L_free_row) (defScope s_L_free_row) .none kV28 dc28 pm28 an28 cd28 ct28), sl28⟩)
    (c28 : PySem.W.codeIn K cd28 "_law_free_row" = true) (k28 : PySem.W.keepIn K (.ref f28) = true)
    (a29 : PySem.W.nsIn K mainGlobals "_law_copy" = some (some (.ref f29)))
    (l29 : K.lookup f29 = some ⟨oc29, od29, .func (PySem.W.fnOf "_law_copy" "_law_copy" (defArgs s_L_copy) (defBody s_L_copy) (defScope s_L_copy) .none kV29 dc29 pm29 an29 cd29 ct29), sl29⟩)
    (c29 : PySem.W.codeIn K cd29 "_law_copy" = true) (k29 : PySem.W.keepIn K (.ref f29) = true)
    (a30 : PySem.W.nsIn K mainGlobals "_law_shows" = some (some (.ref f30)))
    (l30 : K.lookup f30 = some ⟨oc30, od30, .func (PySem.W.fnOf "_law_shows" "_law_shows" (defArgs s_L_shows) (defBody s_L_shows) (defScope s_L_shows) .none kV30 dc30 pm30 an30 cd30 ct30), sl30⟩)
    (c30 : PySem.W.codeIn K cd30 "_law_shows" = true) (k30 : PySem.W.keepIn K (.ref f30) = true)
    (a31 : PySem.W.nsIn K mainGlobals "_law_put" = some (some (.ref f31)))
    (l31 : K.lookup f31 = some ⟨oc31, od31, .func (PySem.W.fnOf "_law_put" "_law_put" (defArgs s_L_put) (defBody s_L_put) (defScope s_L_put) .none kV31 dc31 pm31 an31 cd31 ct31), sl31⟩)
    (c31 : PySem.W.codeIn K cd31 "_law_put" = true) (k31 : PySem.W.keepIn K (.ref f31) = true)
    (a32 : PySem.W.nsIn K mainGlobals "_law_taken" = some (some (.ref f32)))
    (l32 : K.lookup f32 = some ⟨oc32, od32, .func (PySem.W.fnOf "_law_taken" "_law_taken" (defArgs s_L_taken) (defBody s_L_taken) (defScope s_L_taken) .none kV32 dc32 pm32 an32 cd32 ct32), sl32⟩)
    (c32 : PySem.W.codeIn K cd32 "_law_taken" = true) (k32 : PySem.W.keepIn K (.ref f32) = true)
    (a33 : PySem.W.nsIn K mainGlobals "_law_changed" = some (some (.ref f33)))
    (l33 : K.lookup f33 = some ⟨oc33, od33, .func (PySem.W.fnOf "_law_changed" "_law_changed" (defArgs s_L_changed) (defBody s_L_changed) (defScope s_L_changed) .none kV33 dc33 pm33 an33 cd33 ct33), sl33⟩)
    (c33 : PySem.W.codeIn K cd33 "_law_changed" = true) (k33 : PySem.W.keepIn K (.ref f33) = true)
    (a34 : PySem.W.nsIn K mainGlobals "_law_undone" = some (some (.ref f34)))
    (l34 : K.lookup f34 = some ⟨oc34, od34, .func (PySem.W.fnOf "_law_undone" "_law_undone" (defArgs s_L_undone) (defBody s_L_undone) (defScope s_L_undone) .none kV34 dc34 pm34 an34 cd34 ct34), sl34⟩)
    (c34 : PySem.W.codeIn K cd34 "_law_undone" = true) (k34 : PySem.W.keepIn K (.ref f34) = true)
    (a35 : PySem.W.nsIn K mainGlobals "law" = some (some (.ref f35)))
    (l35 : K.lookup f35 = some ⟨oc35, od35, .func (PySem.W.fnOf "law" "law" (defArgs s_L_law) (defBody s_L_law) (defScope s_L_law) .none kV35 dc35 pm35 an35 cd35 ct35), sl35⟩)
    (c35 : PySem.W.codeIn K cd35 "law" = true) (k35 : PySem.W.keepIn K (.ref f35) = true)
    (z_all : PySem.W.nsIn K mainGlobals "all" = some none)
    (z_bool : PySem.W.nsIn K mainGlobals "bool" = some none)
    (z_enumerate : PySem.W.nsIn K mainGlobals "enumerate" = some none)
    (z_int : PySem.W.nsIn K mainGlobals "int" = some none)
    (z_isinstance : PySem.W.nsIn K mainGlobals "isinstance" = some none)
    (z_len : PySem.W.nsIn K mainGlobals "len" = some none)
    (z_list : PySem.W.nsIn K mainGlobals "list" = some none)
    (z_max : PySem.W.nsIn K mainGlobals "max" = some none)
    (z_min : PySem.W.nsIn K mainGlobals "min" = some none)
    (z_range : PySem.W.nsIn K mainGlobals "range" = some none)
    (z_repr : PySem.W.nsIn K mainGlobals "repr" = some none)
    (z_str : PySem.W.nsIn K mainGlobals "str" = some none)
    (z_tuple : PySem.W.nsIn K mainGlobals "tuple" = some none)
    (x_JUST : PySem.W.nsIn K mainGlobals "JUST" = some (some (.str "just" tk_JUST)))
    (x_LEAST : PySem.W.nsIn K mainGlobals "LEAST" = some (some (.str "least" tk_LEAST)))
    (x_LEFT : PySem.W.nsIn K mainGlobals "LEFT" = some (some (.str "left" tk_LEFT)))
    (x_LETTERS : PySem.W.nsIn K mainGlobals "LETTERS" = some (some (.str "abcdefghijklmnopqrstuvwxyz" tk_LETTERS)))
    (x_LONGEST_NAME : PySem.W.nsIn K mainGlobals "LONGEST_NAME" = some (some (.int (6) tk_LONGEST_NAME)))
    (x_MOST_NAMES : PySem.W.nsIn K mainGlobals "MOST_NAMES" = some (some (.int (3) tk_MOST_NAMES)))
    (x_MOST_NUMBERS : PySem.W.nsIn K mainGlobals "MOST_NUMBERS" = some (some (.int (8) tk_MOST_NUMBERS)))
    (x_MOST_PLACES : PySem.W.nsIn K mainGlobals "MOST_PLACES" = some (some (.int (6) tk_MOST_PLACES)))
    (x_MOST_ROWS : PySem.W.nsIn K mainGlobals "MOST_ROWS" = some (some (.int (10) tk_MOST_ROWS)))
    (x_MOST_WISHES : PySem.W.nsIn K mainGlobals "MOST_WISHES" = some (some (.int (12) tk_MOST_WISHES)))
    (bc_Bench : PySem.W.nsIn K mainGlobals "Bench" = some (some (.ref ec_Bench)))
    (cg_Bench : PySem.W.plainGet K ec_Bench Str.empty = true)
    (ch_Bench : PySem.W.hasDictIn K ec_Bench = true)
    (cp_Bench : PySem.W.plainOver K ec_Bench = true)
    (cs_Bench : PySem.W.findIn K (.ref ec_Bench) "__setattr__" = some (some (.builtin "object.__setattr__")))
    (cm_Bench : PySem.W.makesIn K ec_Bench = true)
    (ck_Bench : PySem.W.keepIn K (.ref ec_Bench) = true)
    (na_Bench_paper : PySem.W.findIn K (.ref ec_Bench) "paper" = some none)
    (na_Bench_past : PySem.W.findIn K (.ref ec_Bench) "past" = some none)
    (na_Bench_plan : PySem.W.findIn K (.ref ec_Bench) "plan" = some none)
    (hx_Bare : PySem.W.nsIn K mainGlobals "Bare" = some (some (.ref ec_Bare)))
    (hk_Bare : PySem.W.keepIn K (.ref ec_Bare) = true)
    (hs_Bare : PySem.W.subIn K (.ref ec_Bare) (.type "BaseException") = some true)
    (ht_Bare : PySem.W.typeIn K (.ref ec_Bare) = some (.type "type"))
    (y0_Bare : PySem.W.findIn K (.ref ec_Bare) "__getattribute__" = some (some (.builtin "BaseException.__getattribute__")))
    (y1_Bare : PySem.W.findIn K (.ref ec_Bare) "__getattr__" = some none)
    (y2_Bare : PySem.W.hasDictIn K ec_Bare = true)
    (y3_Bare : PySem.W.findIn K (.ref ec_Bare) "__class__" = some (some (.builtin "object.__class__")))
    (y4_Bare : PySem.W.specialIn K (.builtin "object.__class__") "__get__" = some (some (.builtin "getset_descriptor.__get__")))
    (y5_Bare : PySem.W.takesIn K (.builtin "object.__class__") = some true)
    (y6_Bare : PySem.W.mroIn K ec_Bare (.type "object") = some true)
    (hq_Bare : PySem.W.excIn K ec_Bare bm_RuntimeError "RuntimeError.__new__" = true)
    (hx_Full : PySem.W.nsIn K mainGlobals "Full" = some (some (.ref ec_Full)))
    (hk_Full : PySem.W.keepIn K (.ref ec_Full) = true)
    (hs_Full : PySem.W.subIn K (.ref ec_Full) (.type "BaseException") = some true)
    (ht_Full : PySem.W.typeIn K (.ref ec_Full) = some (.type "type"))
    (y0_Full : PySem.W.findIn K (.ref ec_Full) "__getattribute__" = some (some (.builtin "BaseException.__getattribute__")))
    (y1_Full : PySem.W.findIn K (.ref ec_Full) "__getattr__" = some none)
    (y2_Full : PySem.W.hasDictIn K ec_Full = true)
    (y3_Full : PySem.W.findIn K (.ref ec_Full) "__class__" = some (some (.builtin "object.__class__")))
    (y4_Full : PySem.W.specialIn K (.builtin "object.__class__") "__get__" = some (some (.builtin "getset_descriptor.__get__")))
    (y5_Full : PySem.W.takesIn K (.builtin "object.__class__") = some true)
    (y6_Full : PySem.W.mroIn K ec_Full (.type "object") = some true)
    (hq_Full : PySem.W.excIn K ec_Full bm_OverflowError "OverflowError.__new__" = true)
    (hx_NoNumber : PySem.W.nsIn K mainGlobals "NoNumber" = some (some (.ref ec_NoNumber)))
    (hk_NoNumber : PySem.W.keepIn K (.ref ec_NoNumber) = true)
    (hs_NoNumber : PySem.W.subIn K (.ref ec_NoNumber) (.type "BaseException") = some true)
    (ht_NoNumber : PySem.W.typeIn K (.ref ec_NoNumber) = some (.type "type"))
    (y0_NoNumber : PySem.W.findIn K (.ref ec_NoNumber) "__getattribute__" = some (some (.builtin "BaseException.__getattribute__")))
    (y1_NoNumber : PySem.W.findIn K (.ref ec_NoNumber) "__getattr__" = some none)
    (y2_NoNumber : PySem.W.hasDictIn K ec_NoNumber = true)
    (y3_NoNumber : PySem.W.findIn K (.ref ec_NoNumber) "__class__" = some (some (.builtin "object.__class__")))
    (y4_NoNumber : PySem.W.specialIn K (.builtin "object.__class__") "__get__" = some (some (.builtin "getset_descriptor.__get__")))
    (y5_NoNumber : PySem.W.takesIn K (.builtin "object.__class__") = some true)
    (y6_NoNumber : PySem.W.mroIn K ec_NoNumber (.type "object") = some true)
    (hx_NoProgram : PySem.W.nsIn K mainGlobals "NoProgram" = some (some (.ref ec_NoProgram)))
    (hk_NoProgram : PySem.W.keepIn K (.ref ec_NoProgram) = true)
    (hs_NoProgram : PySem.W.subIn K (.ref ec_NoProgram) (.type "BaseException") = some true)
    (ht_NoProgram : PySem.W.typeIn K (.ref ec_NoProgram) = some (.type "type"))
    (y0_NoProgram : PySem.W.findIn K (.ref ec_NoProgram) "__getattribute__" = some (some (.builtin "BaseException.__getattribute__")))
    (y1_NoProgram : PySem.W.findIn K (.ref ec_NoProgram) "__getattr__" = some none)
    (y2_NoProgram : PySem.W.hasDictIn K ec_NoProgram = true)
    (y3_NoProgram : PySem.W.findIn K (.ref ec_NoProgram) "__class__" = some (some (.builtin "object.__class__")))
    (y4_NoProgram : PySem.W.specialIn K (.builtin "object.__class__") "__get__" = some (some (.builtin "getset_descriptor.__get__")))
    (y5_NoProgram : PySem.W.takesIn K (.builtin "object.__class__") = some true)
    (y6_NoProgram : PySem.W.mroIn K ec_NoProgram (.type "object") = some true)
    (hx_NoRow : PySem.W.nsIn K mainGlobals "NoRow" = some (some (.ref ec_NoRow)))
    (hk_NoRow : PySem.W.keepIn K (.ref ec_NoRow) = true)
    (hs_NoRow : PySem.W.subIn K (.ref ec_NoRow) (.type "BaseException") = some true)
    (ht_NoRow : PySem.W.typeIn K (.ref ec_NoRow) = some (.type "type"))
    (y0_NoRow : PySem.W.findIn K (.ref ec_NoRow) "__getattribute__" = some (some (.builtin "BaseException.__getattribute__")))
    (y1_NoRow : PySem.W.findIn K (.ref ec_NoRow) "__getattr__" = some none)
    (y2_NoRow : PySem.W.hasDictIn K ec_NoRow = true)
    (y3_NoRow : PySem.W.findIn K (.ref ec_NoRow) "__class__" = some (some (.builtin "object.__class__")))
    (y4_NoRow : PySem.W.specialIn K (.builtin "object.__class__") "__get__" = some (some (.builtin "getset_descriptor.__get__")))
    (y5_NoRow : PySem.W.takesIn K (.builtin "object.__class__") = some true)
    (y6_NoRow : PySem.W.mroIn K ec_NoRow (.type "object") = some true)
    (i0_NoRow : PySem.W.findIn K (.ref ec_NoRow) "__init__" = some (some (.ref fi_NoRow)))
    (i1_NoRow : K.lookup fi_NoRow = some ⟨ioc_NoRow, iod_NoRow, .func (PySem.W.ksFn "__init__" "NoRow.__init__" (defArgs (clsInit s_NoRow)) (defBody (clsInit s_NoRow)) (defScope (clsInit s_NoRow)) .none ikV_NoRow idc_NoRow ipm_NoRow ian_NoRow (.ref icd_NoRow) ict_NoRow icc_NoRow), isl_NoRow⟩)
    (i2_NoRow : PySem.W.codeIn K (.ref icd_NoRow) "NoRow.__init__" = true)
    (i3_NoRow : PySem.W.isFn K (.ref fi_NoRow) = true)
    (i4_NoRow : PySem.W.excInitIn K ec_NoRow bm_IndexError "IndexError.__new__" = true)
    (i5_NoRow : PySem.W.excOver K ec_NoRow bm_IndexError = true)
    (i6_NoRow : PySem.W.findIn K (.ref ec_NoRow) "__setattr__" = some (some (.builtin "object.__setattr__")))
    (i7_NoRow : PySem.W.ks_superIn K ec_NoRow ec_NoRow "__init__" = some (some (.builtin "IndexError.__init__")))
    (i8_NoRow : PySem.W.mroIn K ec_NoRow (.ref ec_NoRow) = some true)
    (i9_NoRow : PySem.W.subIn K (.ref ec_NoRow) (.type "IndexError") = some true)
    (ia_NoRow : K.lookup icc_NoRow = some ⟨jcl_NoRow, jcd_NoRow, .cell (some (.ref ec_NoRow)), jcs_NoRow⟩)
    (ib_NoRow : K.lookup icd_NoRow = some ⟨kcl_NoRow, kcd_NoRow, .fields kvs_NoRow, kcs_NoRow⟩)
    (ic_NoRow : kvs_NoRow[2]? = some (.str kfl_NoRow kft_NoRow))
    (id_NoRow : ((l.prog.main.file : Str) == kfl_NoRow) = true)
    (ie_NoRow_row : PySem.W.takerIn K ec_NoRow "row" = some none)
    (hx_NoWishes : PySem.W.nsIn K mainGlobals "NoWishes" = some (some (.ref ec_NoWishes)))
    (hk_NoWishes : PySem.W.keepIn K (.ref ec_NoWishes) = true)
    (hs_NoWishes : PySem.W.subIn K (.ref ec_NoWishes) (.type "BaseException") = some true)
    (ht_NoWishes : PySem.W.typeIn K (.ref ec_NoWishes) = some (.type "type"))
    (y0_NoWishes : PySem.W.findIn K (.ref ec_NoWishes) "__getattribute__" = some (some (.builtin "BaseException.__getattribute__")))
    (y1_NoWishes : PySem.W.findIn K (.ref ec_NoWishes) "__getattr__" = some none)
    (y2_NoWishes : PySem.W.hasDictIn K ec_NoWishes = true)
    (y3_NoWishes : PySem.W.findIn K (.ref ec_NoWishes) "__class__" = some (some (.builtin "object.__class__")))
    (y4_NoWishes : PySem.W.specialIn K (.builtin "object.__class__") "__get__" = some (some (.builtin "getset_descriptor.__get__")))
    (y5_NoWishes : PySem.W.takesIn K (.builtin "object.__class__") = some true)
    (y6_NoWishes : PySem.W.mroIn K ec_NoWishes (.type "object") = some true)
    (z_super : PySem.W.nsIn K mainGlobals "super" = some none)
    (zz_any : PySem.W.nsIn K cStatics "thirdparty.any" = some none)
    (z_top : (l.prog.main.scope.names.lookup ("super" : Str)).isSome = false)
    (ms_Bare_Bare : PySem.W.subIn K (.ref ec_Bare) (.ref ec_Bare) = some true)
    (ms_Bare_Full : PySem.W.subIn K (.ref ec_Bare) (.ref ec_Full) = some false)
    (ms_Full_Bare : PySem.W.subIn K (.ref ec_Full) (.ref ec_Bare) = some false)
    (ms_Full_Full : PySem.W.subIn K (.ref ec_Full) (.ref ec_Full) = some true)
    (ms_NoNumber_Bare : PySem.W.subIn K (.ref ec_NoNumber) (.ref ec_Bare) = some false)
    (ms_NoNumber_Full : PySem.W.subIn K (.ref ec_NoNumber) (.ref ec_Full) = some false)
    (ms_NoProgram_Bare : PySem.W.subIn K (.ref ec_NoProgram) (.ref ec_Bare) = some false)
    (ms_NoProgram_Full : PySem.W.subIn K (.ref ec_NoProgram) (.ref ec_Full) = some false)
    (ms_NoRow_Bare : PySem.W.subIn K (.ref ec_NoRow) (.ref ec_Bare) = some false)
    (ms_NoRow_Full : PySem.W.subIn K (.ref ec_NoRow) (.ref ec_Full) = some false)
    (ms_NoWishes_Bare : PySem.W.subIn K (.ref ec_NoWishes) (.ref ec_Bare) = some false)
    (ms_NoWishes_Full : PySem.W.subIn K (.ref ec_NoWishes) (.ref ec_Full) = some false)
    : ∃ fd : FuncData, (∀ (s : Shared) (v : Value), BindsTo s fd ⟨[v], []⟩ [("_law_script", v)]) ∧
      ∀ base : Heap, K.In base → base.Ns mainGlobals mg → FnG l.prog w K mg base 11 fa fd ["_law_script"] (spD K sp_L_law) := by
  have e := hfa.symm.trans (PySem.W.mg_of X G a35)
  cases e
  have F0 := fun_mk (st := s_p_is_whole) l0 c0 k0
  have F1 := fun_mk (st := s_p_is_one_of) l1 c1 k1
  have F2 := fun_mk (st := s_p_look_at_many) l2 c2 k2
  have F3 := fun_mk (st := s_p_is_line) l3 c3 k3
  have F4 := fun_mk (st := s_p_is_wish) l4 c4 k4
  have F5 := fun_mk (st := s_p_is_letters) l5 c5 k5
  have F6 := fun_mk (st := s_p_is_name) l6 c6 k6
  have F7 := fun_mk (st := s_p_look_at_names) l7 c7 k7
  have F8 := fun_mk (st := s_p_is_wishes) l8 c8 k8
  have F9 := fun_mk (st := s_p_is_row) l9 c9 k9
  have F10 := fun_mk (st := s_p_look_at_rows) l10 c10 k10
  have F11 := fun_mk (st := s_p_look_at) l11 c11 k11
  have F12 := fun_mk (st := s_p_look_at_number) l12 c12 k12
  have F13 := fun_mk (st := s_p_copied_wishes) l13 c13 k13
  have F14 := fun_mk (st := s_p_copied_rows) l14 c14 k14
  have F15 := fun_mk (st := s_p_copied) l15 c15 k15
  have F16 := fun_mk (st := s_p_Bench___init__) l16 c16 k16
  have F17 := fun_mk (st := s_p_Bench_set_rows) l17 c17 k17
  have F18 := fun_mk (st := s_p_Bench_put) l18 c18 k18
  have F19 := fun_mk (st := s_p_Bench_take) l19 c19 k19
  have F20 := fun_mk (st := s_p_Bench_change) l20 c20 k20
  have F21 := fun_mk (st := s_p_Bench_undo) l21 c21 k21
  have F22 := fun_mk (st := s_p_Bench_program) l22 c22 k22
  have F23 := fun_mk (st := s_p_Bench_deeds) l23 c23 k23
  have F24 := fun_mk (st := s_p_Bench_keeps) l24 c24 k24
  have F25 := fun_mk (st := s_p_Bench___len__) l25 c25 k25
  have F26 := fun_mk (st := s_L_pool) l26 c26 k26
  have F27 := fun_mk (st := s_L_take) l27 c27 k27
  have F28 := fun_mk (st := s_L_free_row) l28 c28 k28
  have F29 := fun_mk (st := s_L_copy) l29 c29 k29
  have F30 := fun_mk (st := s_L_shows) l30 c30 k30
  have F31 := fun_mk (st := s_L_put) l31 c31 k31
  have F32 := fun_mk (st := s_L_taken) l32 c32 k32
  have F33 := fun_mk (st := s_L_changed) l33 c33 k33
  have F34 := fun_mk (st := s_L_undone) l34 c34 k34
  have F35 := fun_mk (st := s_L_law) l35 c35 k35
  have xb_Bare : ExB K "Bare" ec_Bare := ⟨hx_Bare, hk_Bare, hs_Bare, ht_Bare, ⟨y0_Bare, y1_Bare, hs_Bare, y2_Bare, y3_Bare, y4_Bare, y5_Bare, y6_Bare⟩⟩
  have xb_Full : ExB K "Full" ec_Full := ⟨hx_Full, hk_Full, hs_Full, ht_Full, ⟨y0_Full, y1_Full, hs_Full, y2_Full, y3_Full, y4_Full, y5_Full, y6_Full⟩⟩
  have xb_NoNumber : ExB K "NoNumber" ec_NoNumber := ⟨hx_NoNumber, hk_NoNumber, hs_NoNumber, ht_NoNumber, ⟨y0_NoNumber, y1_NoNumber, hs_NoNumber, y2_NoNumber, y3_NoNumber, y4_NoNumber, y5_NoNumber, y6_NoNumber⟩⟩
  have xb_NoProgram : ExB K "NoProgram" ec_NoProgram := ⟨hx_NoProgram, hk_NoProgram, hs_NoProgram, ht_NoProgram, ⟨y0_NoProgram, y1_NoProgram, hs_NoProgram, y2_NoProgram, y3_NoProgram, y4_NoProgram, y5_NoProgram, y6_NoProgram⟩⟩
  have xb_NoRow : ExB K "NoRow" ec_NoRow := ⟨hx_NoRow, hk_NoRow, hs_NoRow, ht_NoRow, ⟨y0_NoRow, y1_NoRow, hs_NoRow, y2_NoRow, y3_NoRow, y4_NoRow, y5_NoRow, y6_NoRow⟩⟩
  have xb_NoWishes : ExB K "NoWishes" ec_NoWishes := ⟨hx_NoWishes, hk_NoWishes, hs_NoWishes, ht_NoWishes, ⟨y0_NoWishes, y1_NoWishes, hs_NoWishes, y2_NoWishes, y3_NoWishes, y4_NoWishes, y5_NoWishes, y6_NoWishes⟩⟩
  let T : Tx l.prog K mg := {
    n_all := PySem.W.mg_none_of X G z_all
    n_bool := PySem.W.mg_none_of X G z_bool
    n_enumerate := PySem.W.mg_none_of X G z_enumerate
    n_int := PySem.W.mg_none_of X G z_int
    n_isinstance := PySem.W.mg_none_of X G z_isinstance
    n_len := PySem.W.mg_none_of X G z_len
    n_list := PySem.W.mg_none_of X G z_list
    n_max := PySem.W.mg_none_of X G z_max
    n_min := PySem.W.mg_none_of X G z_min
    n_range := PySem.W.mg_none_of X G z_range
    n_repr := PySem.W.mg_none_of X G z_repr
    n_str := PySem.W.mg_none_of X G z_str
    n_tuple := PySem.W.mg_none_of X G z_tuple
    u_JUST := tk_JUST
    c_JUST := PySem.W.mg_of X G x_JUST
    u_LEAST := tk_LEAST
    c_LEAST := PySem.W.mg_of X G x_LEAST
    u_LEFT := tk_LEFT
    c_LEFT := PySem.W.mg_of X G x_LEFT
    u_LETTERS := tk_LETTERS
    c_LETTERS := PySem.W.mg_of X G x_LETTERS
    u_LONGEST_NAME := tk_LONGEST_NAME
    c_LONGEST_NAME := PySem.W.mg_of X G x_LONGEST_NAME
    u_MOST_NAMES := tk_MOST_NAMES
    c_MOST_NAMES := PySem.W.mg_of X G x_MOST_NAMES
    u_MOST_NUMBERS := tk_MOST_NUMBERS
    c_MOST_NUMBERS := PySem.W.mg_of X G x_MOST_NUMBERS
    u_MOST_PLACES := tk_MOST_PLACES
    c_MOST_PLACES := PySem.W.mg_of X G x_MOST_PLACES
    u_MOST_ROWS := tk_MOST_ROWS
    c_MOST_ROWS := PySem.W.mg_of X G x_MOST_ROWS
    u_MOST_WISHES := tk_MOST_WISHES
    c_MOST_WISHES := PySem.W.mg_of X G x_MOST_WISHES
    e_Bare := ec_Bare
    gx_Bare := PySem.W.mg_of X G hx_Bare
    x_Bare := xb_Bare
    q_Bare := ⟨hx_Bare, hq_Bare, hk_Bare, hs_Bare, ht_Bare, ⟨y0_Bare, y1_Bare, hs_Bare, y2_Bare, y3_Bare, y4_Bare, y5_Bare, y6_Bare⟩⟩
    e_Full := ec_Full
    gx_Full := PySem.W.mg_of X G hx_Full
    x_Full := xb_Full
    q_Full := ⟨hx_Full, hq_Full, hk_Full, hs_Full, ht_Full, ⟨y0_Full, y1_Full, hs_Full, y2_Full, y3_Full, y4_Full, y5_Full, y6_Full⟩⟩
    e_NoNumber := ec_NoNumber
    gx_NoNumber := PySem.W.mg_of X G hx_NoNumber
    x_NoNumber := xb_NoNumber
    e_NoProgram := ec_NoProgram
    gx_NoProgram := PySem.W.mg_of X G hx_NoProgram
    x_NoProgram := xb_NoProgram
    e_NoRow := ec_NoRow
    gx_NoRow := PySem.W.mg_of X G hx_NoRow
    x_NoRow := xb_NoRow
    fi_NoRow := fi_NoRow
    cc_NoRow := icc_NoRow
    cd_NoRow := icd_NoRow
    fd_NoRow := _
    i_NoRow := ⟨hx_NoRow, hk_NoRow, hs_NoRow, i9_NoRow, ht_NoRow, i0_NoRow, i3_NoRow, i4_NoRow, i5_NoRow, i6_NoRow, y2_NoRow, i7_NoRow, i8_NoRow, fun f hf => by simp only [List.mem_cons, List.not_mem_nil, or_false] at hf; subst hf; exact ie_NoRow_row, ⟨_, _, _, ia_NoRow⟩, ⟨_, _, _, _, _, _, ib_NoRow, ic_NoRow, id_NoRow⟩, z_super, zz_any, z_top⟩
    j_NoRow := initF_mk it_NoRow i1_NoRow i2_NoRow
    e_NoWishes := ec_NoWishes
    gx_NoWishes := PySem.W.mg_of X G hx_NoWishes
    x_NoWishes := xb_NoWishes
    m_Bare_Bare := ms_Bare_Bare
    m_Bare_Full := ms_Bare_Full
    m_Full_Bare := ms_Full_Bare
    m_Full_Full := ms_Full_Full
    m_NoNumber_Bare := ms_NoNumber_Bare
    m_NoNumber_Full := ms_NoNumber_Full
    m_NoProgram_Bare := ms_NoProgram_Bare
    m_NoProgram_Full := ms_NoProgram_Full
    m_NoRow_Bare := ms_NoRow_Bare
    m_NoRow_Full := ms_NoRow_Full
    m_NoWishes_Bare := ms_NoWishes_Bare
    m_NoWishes_Full := ms_NoWishes_Full
    f_p_is_whole := f0
    d_p_is_whole := _
    F_p_is_whole := F0
    g_p_is_whole := PySem.W.mg_of X G a0
    f_p_is_one_of := f1
    d_p_is_one_of := _
    F_p_is_one_of := F1
    g_p_is_one_of := PySem.W.mg_of X G a1
    f_p_look_at_many := f2
    d_p_look_at_many := _
    F_p_look_at_many := F2
    g_p_look_at_many := PySem.W.mg_of X G a2
    f_p_is_line := f3
    d_p_is_line := _
    F_p_is_line := F3
    g_p_is_line := PySem.W.mg_of X G a3
    f_p_is_wish := f4
    d_p_is_wish := _
    F_p_is_wish := F4
    g_p_is_wish := PySem.W.mg_of X G a4
    f_p_is_letters := f5
    d_p_is_letters := _
    F_p_is_letters := F5
    g_p_is_letters := PySem.W.mg_of X G a5
    f_p_is_name := f6
    d_p_is_name := _
    F_p_is_name := F6
    g_p_is_name := PySem.W.mg_of X G a6
    f_p_look_at_names := f7
    d_p_look_at_names := _
    F_p_look_at_names := F7
    g_p_look_at_names := PySem.W.mg_of X G a7
    f_p_is_wishes := f8
    d_p_is_wishes := _
    F_p_is_wishes := F8
    g_p_is_wishes := PySem.W.mg_of X G a8
    f_p_is_row := f9
    d_p_is_row := _
    F_p_is_row := F9
    g_p_is_row := PySem.W.mg_of X G a9
    f_p_look_at_rows := f10
    d_p_look_at_rows := _
    F_p_look_at_rows := F10
    g_p_look_at_rows := PySem.W.mg_of X G a10
    f_p_look_at := f11
    d_p_look_at := _
    F_p_look_at := F11
    g_p_look_at := PySem.W.mg_of X G a11
    f_p_look_at_number := f12
    d_p_look_at_number := _
    F_p_look_at_number := F12
    g_p_look_at_number := PySem.W.mg_of X G a12
    f_p_copied_wishes := f13
    d_p_copied_wishes := _
    F_p_copied_wishes := F13
    g_p_copied_wishes := PySem.W.mg_of X G a13
    f_p_copied_rows := f14
    d_p_copied_rows := _
    F_p_copied_rows := F14
    g_p_copied_rows := PySem.W.mg_of X G a14
    f_p_copied := f15
    d_p_copied := _
    F_p_copied := F15
    g_p_copied := PySem.W.mg_of X G a15
    f_p_Bench___init__ := f16
    d_p_Bench___init__ := _
    F_p_Bench___init__ := F16
    f_p_Bench_set_rows := f17
    d_p_Bench_set_rows := _
    F_p_Bench_set_rows := F17
    f_p_Bench_put := f18
    d_p_Bench_put := _
    F_p_Bench_put := F18
    f_p_Bench_take := f19
    d_p_Bench_take := _
    F_p_Bench_take := F19
    f_p_Bench_change := f20
    d_p_Bench_change := _
    F_p_Bench_change := F20
    f_p_Bench_undo := f21
    d_p_Bench_undo := _
    F_p_Bench_undo := F21
    f_p_Bench_program := f22
    d_p_Bench_program := _
    F_p_Bench_program := F22
    f_p_Bench_deeds := f23
    d_p_Bench_deeds := _
    F_p_Bench_deeds := F23
    f_p_Bench_keeps := f24
    d_p_Bench_keeps := _
    F_p_Bench_keeps := F24
    f_p_Bench___len__ := f25
    d_p_Bench___len__ := _
    F_p_Bench___len__ := F25
    f_L_pool := f26
    d_L_pool := _
    F_L_pool := F26
    g_L_pool := PySem.W.mg_of X G a26
    f_L_take := f27
    d_L_take := _
    F_L_take := F27
    g_L_take := PySem.W.mg_of X G a27
    f_L_free_row := f28
    d_L_free_row := _
    F_L_free_row := F28
    g_L_free_row := PySem.W.mg_of X G a28
    f_L_copy := f29
    d_L_copy := _
    F_L_copy := F29
    g_L_copy := PySem.W.mg_of X G a29
    f_L_shows := f30
    d_L_shows := _
    F_L_shows := F30
    g_L_shows := PySem.W.mg_of X G a30
    f_L_put := f31
    d_L_put := _
    F_L_put := F31
    g_L_put := PySem.W.mg_of X G a31
    f_L_taken := f32
    d_L_taken := _
    F_L_taken := F32
    g_L_taken := PySem.W.mg_of X G a32
    f_L_changed := f33
    d_L_changed := _
    F_L_changed := F33
    g_L_changed := PySem.W.mg_of X G a33
    f_L_undone := f34
    d_L_undone := _
    F_L_undone := F34
    g_L_undone := PySem.W.mg_of X G a34
    f_L_law := fa
    d_L_law := _
    F_L_law := F35
    g_L_law := PySem.W.mg_of X G a35
    e_Bench := ec_Bench
    gx_Bench := PySem.W.mg_of X G bc_Bench
    M_Bench := ⟨bc_Bench, ⟨cm_Bench, a16, fn16, ck_Bench⟩⟩
    C_Bench_paper := fun C h => by cases bc_Bench.symm.trans h; exact ⟨⟨cg_Bench, ch_Bench, cp_Bench, cs_Bench⟩, na_Bench_paper⟩
    C_Bench_past := fun C h => by cases bc_Bench.symm.trans h; exact ⟨⟨cg_Bench, ch_Bench, cp_Bench, cs_Bench⟩, na_Bench_past⟩
    C_Bench_plan := fun C h => by cases bc_Bench.symm.trans h; exact ⟨⟨cg_Bench, ch_Bench, cp_Bench, cs_Bench⟩, na_Bench_plan⟩
    N_Bench := fun C h => by cases bc_Bench.symm.trans h; exact ⟨a25, fn25⟩
    K_p_Bench_change := fun C h => by cases bc_Bench.symm.trans h; exact ⟨⟨cg_Bench, ch_Bench, cp_Bench, cs_Bench⟩, ⟨a20, fn20, k20⟩⟩
    K_p_Bench_deeds := fun C h => by cases bc_Bench.symm.trans h; exact ⟨⟨cg_Bench, ch_Bench, cp_Bench, cs_Bench⟩, ⟨a23, fn23, k23⟩⟩
    K_p_Bench_keeps := fun C h => by cases bc_Bench.symm.trans h; exact ⟨⟨cg_Bench, ch_Bench, cp_Bench, cs_Bench⟩, ⟨a24, fn24, k24⟩⟩
    K_p_Bench_program := fun C h => by cases bc_Bench.symm.trans h; exact ⟨⟨cg_Bench, ch_Bench, cp_Bench, cs_Bench⟩, ⟨a22, fn22, k22⟩⟩
    K_p_Bench_put := fun C h => by cases bc_Bench.symm.trans h; exact ⟨⟨cg_Bench, ch_Bench, cp_Bench, cs_Bench⟩, ⟨a18, fn18, k18⟩⟩
    K_p_Bench_set_rows := fun C h => by cases bc_Bench.symm.trans h; exact ⟨⟨cg_Bench, ch_Bench, cp_Bench, cs_Bench⟩, ⟨a17, fn17, k17⟩⟩
    K_p_Bench_take := fun C h => by cases bc_Bench.symm.trans h; exact ⟨⟨cg_Bench, ch_Bench, cp_Bench, cs_Bench⟩, ⟨a19, fn19, k19⟩⟩
    K_p_Bench_undo := fun C h => by cases bc_Bench.symm.trans h; exact ⟨⟨cg_Bench, ch_Bench, cp_Bench, cs_Bench⟩, ⟨a21, fn21, k21⟩⟩
    b_p_Bench___init___1_program := bnd_of F16 fun _ _ _ _ _ _ us ws h1 h2 => match us, ws, h1, h2 with | [_], [_], _, _ => rfl
    b_p_Bench___len___1 := bnd_of F25 fun _ _ _ _ _ _ us ws h1 h2 => match us, ws, h1, h2 with | [_], [], _, _ => rfl
    b_p_Bench_change_1_wishes_number := bnd_of F20 fun _ _ _ _ _ _ us ws h1 h2 => match us, ws, h1, h2 with | [_], [_, _], _, _ => rfl
    b_p_Bench_deeds_1 := bnd_of F23 fun _ _ _ _ _ _ us ws h1 h2 => match us, ws, h1, h2 with | [_], [], _, _ => rfl
    b_p_Bench_keeps_1 := bnd_of F24 fun _ _ _ _ _ _ us ws h1 h2 => match us, ws, h1, h2 with | [_], [], _, _ => rfl
    b_p_Bench_program_1 := bnd_of F22 fun _ _ _ _ _ _ us ws h1 h2 => match us, ws, h1, h2 with | [_], [], _, _ => rfl
    b_p_Bench_put_2 := bnd_of F18 fun _ _ _ _ _ _ us ws h1 h2 => match us, ws, h1, h2 with | [_, _], [], _, _ => rfl
    b_p_Bench_set_rows_3 := bnd_of F17 fun _ _ _ _ _ _ us ws h1 h2 => match us, ws, h1, h2 with | [_, _, _], [], _, _ => rfl
    b_p_Bench_take_1_number := bnd_of F19 fun _ _ _ _ _ _ us ws h1 h2 => match us, ws, h1, h2 with | [_], [_], _, _ => rfl
    b_p_Bench_undo_1 := bnd_of F21 fun _ _ _ _ _ _ us ws h1 h2 => match us, ws, h1, h2 with | [_], [], _, _ => rfl
    b_L_changed_3 := bnd_of F33 fun _ _ _ _ _ _ us ws h1 h2 => match us, ws, h1, h2 with | [_, _, _], [], _, _ => rfl
    b_L_copy_1 := bnd_of F29 fun _ _ _ _ _ _ us ws h1 h2 => match us, ws, h1, h2 with | [_], [], _, _ => rfl
    b_L_free_row_3 := bnd_of F28 fun _ _ _ _ _ _ us ws h1 h2 => match us, ws, h1, h2 with | [_, _, _], [], _, _ => rfl
    b_L_pool_2 := bnd_of F26 fun _ _ _ _ _ _ us ws h1 h2 => match us, ws, h1, h2 with | [_, _], [], _, _ => rfl
    b_L_put_3 := bnd_of F31 fun _ _ _ _ _ _ us ws h1 h2 => match us, ws, h1, h2 with | [_, _, _], [], _, _ => rfl
    b_L_shows_2 := bnd_of F30 fun _ _ _ _ _ _ us ws h1 h2 => match us, ws, h1, h2 with | [_, _], [], _, _ => rfl
    b_L_take_2 := bnd_of F27 fun _ _ _ _ _ _ us ws h1 h2 => match us, ws, h1, h2 with | [_, _], [], _, _ => rfl
    b_L_taken_3 := bnd_of F32 fun _ _ _ _ _ _ us ws h1 h2 => match us, ws, h1, h2 with | [_, _, _], [], _, _ => rfl
    b_L_undone_2 := bnd_of F34 fun _ _ _ _ _ _ us ws h1 h2 => match us, ws, h1, h2 with | [_, _], [], _, _ => rfl
    b_p_copied_1 := bnd_of F15 fun _ _ _ _ _ _ us ws h1 h2 => match us, ws, h1, h2 with | [_], [], _, _ => rfl
    b_p_copied_rows_1 := bnd_of F14 fun _ _ _ _ _ _ us ws h1 h2 => match us, ws, h1, h2 with | [_], [], _, _ => rfl
    b_p_copied_wishes_1 := bnd_of F13 fun _ _ _ _ _ _ us ws h1 h2 => match us, ws, h1, h2 with | [_], [], _, _ => rfl
    b_p_is_letters_2 := bnd_of F5 fun _ _ _ _ _ _ us ws h1 h2 => match us, ws, h1, h2 with | [_, _], [], _, _ => rfl
    b_p_is_line_2 := bnd_of F3 fun _ _ _ _ _ _ us ws h1 h2 => match us, ws, h1, h2 with | [_, _], [], _, _ => rfl
    b_p_is_name_1 := bnd_of F6 fun _ _ _ _ _ _ us ws h1 h2 => match us, ws, h1, h2 with | [_], [], _, _ => rfl
    b_p_is_one_of_2 := bnd_of F1 fun _ _ _ _ _ _ us ws h1 h2 => match us, ws, h1, h2 with | [_, _], [], _, _ => rfl
    b_p_is_row_3 := bnd_of F9 fun _ _ _ _ _ _ us ws h1 h2 => match us, ws, h1, h2 with | [_, _, _], [], _, _ => rfl
    b_p_is_whole_1 := bnd_of F0 fun _ _ _ _ _ _ us ws h1 h2 => match us, ws, h1, h2 with | [_], [], _, _ => rfl
    b_p_is_wish_2 := bnd_of F4 fun _ _ _ _ _ _ us ws h1 h2 => match us, ws, h1, h2 with | [_, _], [], _, _ => rfl
    b_p_is_wishes_2 := bnd_of F8 fun _ _ _ _ _ _ us ws h1 h2 => match us, ws, h1, h2 with | [_, _], [], _, _ => rfl
    b_p_look_at_1 := bnd_of F11 fun _ _ _ _ _ _ us ws h1 h2 => match us, ws, h1, h2 with | [_], [], _, _ => rfl
    b_p_look_at_many_1 := bnd_of F2 fun _ _ _ _ _ _ us ws h1 h2 => match us, ws, h1, h2 with | [_], [], _, _ => rfl
    b_p_look_at_names_3 := bnd_of F7 fun _ _ _ _ _ _ us ws h1 h2 => match us, ws, h1, h2 with | [_, _, _], [], _, _ => rfl
    b_p_look_at_number_2 := bnd_of F12 fun _ _ _ _ _ _ us ws h1 h2 => match us, ws, h1, h2 with | [_, _], [], _, _ => rfl
    b_p_look_at_rows_3 := bnd_of F10 fun _ _ _ _ _ _ us ws h1 h2 => match us, ws, h1, h2 with | [_, _, _], [], _, _ => rfl }
  exact ⟨_, fun s v => .of_eq rfl, fun base _ _ => ok_L_law (base := base) T⟩
end Pf
open PySem PySem.W PyProof.Rows
set_option maxHeartbeats 0 in
theorem PySem.Challenge.cw_downweigh_k73_deeds_at_a_bench_holds : PySem.Challenge.rw_downweigh_k73_deeds_at_a_bench.Holds := by
  w_on; o_law; k_head; (case hw => w_witness2)
  k_fill
  refine DL.walkG (l := PySem.Challenge.rw_downweigh_k73_deeds_at_a_bench) (n := 63) (k := 11) (x := "_law_script") (fs := Pf.sp_L_law) rfl (by decide) rfl ⟨rfl, by decide, by decide⟩ (by rfl) (fun _ => by kernel_rfl) (fun w h Y => PySem.W.kIn_of Y) ?F (fun ns _ => ⟨ns, rfl, (fun _ h => by cases h), fun _ => rfl⟩)
  case F =>
    intro w mg fa h KX G hmg
    refine' Pf.all_mk KX G hmg ?a0 ?l0 ?c0 ?k0 ?a1 ?l1 ?c1 ?k1 ?a2 ?l2 ?c2 ?k2 ?a3 ?l3 ?c3 ?k3 ?a4 ?l4 ?c4 ?k4 ?a5 ?l5 ?c5 ?k5 ?a6 ?l6 ?c6 ?k6 ?a7 ?l7 ?c7 ?k7 ?a8 ?l8 ?c8 ?k8 ?a9 ?l9 ?c9 ?k9 ?a10 ?l10 ?c10 ?k10 ?a11 ?l11 ?c11 ?k11 ?a12 ?l12 ?c12 ?k12 ?a13 ?l13 ?c13 ?k13 ?a14 ?l14 ?c14 ?k14 ?a15 ?l15 ?c15 ?k15 ?a16 ?l16 ?c16 ?k16 ?fn16 ?a17 ?l17 ?c17 ?k17 ?fn17 ?a18 ?l18 ?c18 ?k18 ?fn18 ?a19 ?l19 ?c19 ?k19 ?fn19 ?a20 ?l20 ?c20 ?k20 ?fn20 ?a21 ?l21 ?c21 ?k21 ?fn21 ?a22 ?l22 ?c22 ?k22 ?fn22 ?a23 ?l23 ?c23 ?k23 ?fn23 ?a24 ?l24 ?c24 ?k24 ?fn24 ?a25 ?l25 ?c25 ?k25 ?fn25 ?a26 ?l26 ?c26 ?k26 ?a27 ?l27 ?c27 ?k27 ?a28 ?l28 ?c28 ?k28 ?a29 ?l29 ?c29 ?k29 ?a30 ?l30 ?c30 ?k30 ?a31 ?l31 ?c31 ?k31 ?a32 ?l32 ?c32 ?k32 ?a33 ?l33 ?c33 ?k33 ?a34 ?l34 ?c34 ?k34 ?a35 ?l35 ?c35 ?k35 ?z_all ?z_bool ?z_enumerate ?z_int ?z_isinstance ?z_len ?z_list ?z_max ?z_min ?z_range ?z_repr ?z_str ?z_tuple ?x_JUST ?x_LEAST ?x_LEFT ?x_LETTERS ?x_LONGEST_NAME ?x_MOST_NAMES ?x_MOST_NUMBERS ?x_MOST_PLACES ?x_MOST_ROWS ?x_MOST_WISHES ?bc_Bench ?cg_Bench ?ch_Bench ?cp_Bench ?cs_Bench ?cm_Bench ?ck_Bench ?na_Bench_paper ?na_Bench_past ?na_Bench_plan ?hx_Bare ?hk_Bare ?hs_Bare ?ht_Bare ?y0_Bare ?y1_Bare ?y2_Bare ?y3_Bare ?y4_Bare ?y5_Bare ?y6_Bare ?hq_Bare ?hx_Full ?hk_Full ?hs_Full ?ht_Full ?y0_Full ?y1_Full ?y2_Full ?y3_Full ?y4_Full ?y5_Full ?y6_Full ?hq_Full ?hx_NoNumber ?hk_NoNumber ?hs_NoNumber ?ht_NoNumber ?y0_NoNumber ?y1_NoNumber ?y2_NoNumber ?y3_NoNumber ?y4_NoNumber ?y5_NoNumber ?y6_NoNumber ?hx_NoProgram ?hk_NoProgram ?hs_NoProgram ?ht_NoProgram ?y0_NoProgram ?y1_NoProgram ?y2_NoProgram ?y3_NoProgram ?y4_NoProgram ?y5_NoProgram ?y6_NoProgram ?hx_NoRow ?hk_NoRow ?hs_NoRow ?ht_NoRow ?y0_NoRow ?y1_NoRow ?y2_NoRow ?y3_NoRow ?y4_NoRow ?y5_NoRow ?y6_NoRow ?i0_NoRow ?i1_NoRow ?i2_NoRow ?i3_NoRow ?i4_NoRow ?i5_NoRow ?i6_NoRow ?i7_NoRow ?i8_NoRow ?i9_NoRow ?ia_NoRow ?ib_NoRow ?ic_NoRow ?id_NoRow ?ie_NoRow_row ?hx_NoWishes ?hk_NoWishes ?hs_NoWishes ?ht_NoWishes ?y0_NoWishes ?y1_NoWishes ?y2_NoWishes ?y3_NoWishes ?y4_NoWishes ?y5_NoWishes ?y6_NoWishes ?z_super ?zz_any ?z_top ?ms_Bare_Bare ?ms_Bare_Full ?ms_Full_Bare ?ms_Full_Full ?ms_NoNumber_Bare ?ms_NoNumber_Full ?ms_NoProgram_Bare ?ms_NoProgram_Full ?ms_NoRow_Bare ?ms_NoRow_Full ?ms_NoWishes_Bare ?ms_NoWishes_Full
    (case bc_Bench => k_is); (case a0 => k_is); (case l0 => k_is); (case c0 => k_is); (case k0 => k_is); (case a1 => k_is); (case l1 => k_is); (case c1 => k_is); (case k1 => k_is); (case a2 => k_is); (case l2 => k_is); (case c2 => k_is); (case k2 => k_is); (case a3 => k_is); (case l3 => k_is); (case c3 => k_is); (case k3 => k_is); (case a4 => k_is); (case l4 => k_is); (case c4 => k_is); (case k4 => k_is); (case a5 => k_is); (case l5 => k_is); (case c5 => k_is); (case k5 => k_is); (case a6 => k_is); (case l6 => k_is); (case c6 => k_is); (case k6 => k_is); (case a7 => k_is); (case l7 => k_is); (case c7 => k_is); (case k7 => k_is); (case a8 => k_is); (case l8 => k_is); (case c8 => k_is); (case k8 => k_is); (case a9 => k_is); (case l9 => k_is); (case c9 => k_is); (case k9 => k_is); (case a10 => k_is); (case l10 => k_is); (case c10 => k_is); (case k10 => k_is); (case a11 => k_is); (case l11 => k_is); (case c11 => k_is); (case k11 => k_is); (case a12 => k_is); (case l12 => k_is); (case c12 => k_is); (case k12 => k_is); (case a13 => k_is); (case l13 => k_is); (case c13 => k_is); (case k13 => k_is); (case a14 => k_is); (case l14 => k_is); (case c14 => k_is); (case k14 => k_is); (case a15 => k_is); (case l15 => k_is); (case c15 => k_is); (case k15 => k_is); (case a16 => k_is); (case l16 => k_is); (case c16 => k_is); (case k16 => k_is); (case fn16 => k_is); (case a17 => k_is); (case l17 => k_is); (case c17 => k_is); (case k17 => k_is); (case fn17 => k_is); (case a18 => k_is); (case l18 => k_is); (case c18 => k_is); (case k18 => k_is); (case fn18 => k_is); (case a19 => k_is); (case l19 => k_is); (case c19 => k_is); (case k19 => k_is); (case fn19 => k_is); (case a20 => k_is); (case l20 => k_is); (case c20 => k_is); (case k20 => k_is); (case fn20 => k_is); (case a21 => k_is); (case l21 => k_is); (case c21 => k_is); (case k21 => k_is); (case fn21 => k_is); (case a22 => k_is); (case l22 => k_is); (case c22 => k_is); (case k22 => k_is); (case fn22 => k_is); (case a23 => k_is); (case l23 => k_is); (case c23 => k_is); (case k23 => k_is); (case fn23 => k_is); (case a24 => k_is); (case l24 => k_is); (case c24 => k_is); (case k24 => k_is); (case fn24 => k_is); (case a25 => k_is); (case l25 => k_is); (case c25 => k_is); (case k25 => k_is); (case fn25 => k_is); (case a26 => k_is); (case l26 => k_is); (case c26 => k_is); (case k26 => k_is); (case a27 => k_is); (case l27 => k_is); (case c27 => k_is); (case k27 => k_is); (case a28 => k_is); (case l28 => k_is); (case c28 => k_is); (case k28 => k_is); (case a29 => k_is); (case l29 => k_is); (case c29 => k_is); (case k29 => k_is); (case a30 => k_is); (case l30 => k_is); (case c30 => k_is); (case k30 => k_is); (case a31 => k_is); (case l31 => k_is); (case c31 => k_is); (case k31 => k_is); (case a32 => k_is); (case l32 => k_is); (case c32 => k_is); (case k32 => k_is); (case a33 => k_is); (case l33 => k_is); (case c33 => k_is); (case k33 => k_is); (case a34 => k_is); (case l34 => k_is); (case c34 => k_is); (case k34 => k_is); (case a35 => k_is); (case l35 => k_is); (case c35 => k_is); (case k35 => k_is); (case z_all => k_is); (case z_bool => k_is); (case z_enumerate => k_is); (case z_int => k_is); (case z_isinstance => k_is); (case z_len => k_is); (case z_list => k_is); (case z_max => k_is); (case z_min => k_is); (case z_range => k_is); (case z_repr => k_is); (case z_str => k_is); (case z_tuple => k_is); (case x_JUST => k_is); (case x_LEAST => k_is); (case x_LEFT => k_is); (case x_LETTERS => k_is); (case x_LONGEST_NAME => k_is); (case x_MOST_NAMES => k_is); (case x_MOST_NUMBERS => k_is); (case x_MOST_PLACES => k_is); (case x_MOST_ROWS => k_is); (case x_MOST_WISHES => k_is); (case cg_Bench => k_is); (case ch_Bench => k_is); (case cp_Bench => k_is); (case cs_Bench => k_is); (case cm_Bench => k_is); (case ck_Bench => k_is); (case na_Bench_paper => k_is); (case na_Bench_past => k_is); (case na_Bench_plan => k_is); (case hx_Bare => k_is); (case hk_Bare => k_is); (case hs_Bare => k_is); (case ht_Bare => k_is); (case y0_Bare => k_is); (case y1_Bare => k_is); (case y2_Bare => k_is); (case y3_Bare => k_is); (case y4_Bare => k_is); (case y5_Bare => k_is); (case y6_Bare => k_is); (case hq_Bare => kernel_rfl); (case hx_Full => k_is); (case hk_Full => k_is); (case hs_Full => k_is); (case ht_Full => k_is); (case y0_Full => k_is); (case y1_Full => k_is); (case y2_Full => k_is); (case y3_Full => k_is); (case y4_Full => k_is); (case y5_Full => k_is); (case y6_Full => k_is); (case hq_Full => kernel_rfl); (case hx_NoNumber => k_is); (case hk_NoNumber => k_is); (case hs_NoNumber => k_is); (case ht_NoNumber => k_is); (case y0_NoNumber => k_is); (case y1_NoNumber => k_is); (case y2_NoNumber => k_is); (case y3_NoNumber => k_is); (case y4_NoNumber => k_is); (case y5_NoNumber => k_is); (case y6_NoNumber => k_is); (case hx_NoProgram => k_is); (case hk_NoProgram => k_is); (case hs_NoProgram => k_is); (case ht_NoProgram => k_is); (case y0_NoProgram => k_is); (case y1_NoProgram => k_is); (case y2_NoProgram => k_is); (case y3_NoProgram => k_is); (case y4_NoProgram => k_is); (case y5_NoProgram => k_is); (case y6_NoProgram => k_is); (case hx_NoRow => k_is); (case hk_NoRow => k_is); (case hs_NoRow => k_is); (case ht_NoRow => k_is); (case y0_NoRow => k_is); (case y1_NoRow => k_is); (case y2_NoRow => k_is); (case y3_NoRow => k_is); (case y4_NoRow => k_is); (case y5_NoRow => k_is); (case y6_NoRow => k_is); (case i0_NoRow => k_is); (case i1_NoRow => k_is); (case i2_NoRow => k_is); (case i3_NoRow => kernel_rfl); (case i4_NoRow => kernel_rfl); (case i5_NoRow => kernel_rfl); (case i6_NoRow => k_is); (case i7_NoRow => kernel_rfl); (case i8_NoRow => k_is); (case i9_NoRow => k_is); (case ia_NoRow => k_is); (case ib_NoRow => k_is); (case ic_NoRow => rfl); (case id_NoRow => kernel_rfl); (case ie_NoRow_row => kernel_rfl); (case hx_NoWishes => k_is); (case hk_NoWishes => k_is); (case hs_NoWishes => k_is); (case ht_NoWishes => k_is); (case y0_NoWishes => k_is); (case y1_NoWishes => k_is); (case y2_NoWishes => k_is); (case y3_NoWishes => k_is); (case y4_NoWishes => k_is); (case y5_NoWishes => k_is); (case y6_NoWishes => k_is); (case z_super => k_is); (case zz_any => k_is); (case z_top => kernel_rfl); (case ms_Bare_Bare => k_is); (case ms_Bare_Full => k_is); (case ms_Full_Bare => k_is); (case ms_Full_Full => k_is); (case ms_NoNumber_Bare => k_is); (case ms_NoNumber_Full => k_is); (case ms_NoProgram_Bare => k_is); (case ms_NoProgram_Full => k_is); (case ms_NoRow_Bare => k_is); (case ms_NoRow_Full => k_is); (case ms_NoWishes_Bare => k_is); (case ms_NoWishes_Full => k_is)
