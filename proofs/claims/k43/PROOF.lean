import PyProof.Rows.All
import Wide.All
import OpenK.AllK
import Wide.FinOn
import HandS.ForMost
import HandS.Wide
import HandS.Walk
import HandS.Zip
import HandS.IsInst
import HandS.Defaults
import HandS.Style
import HandS.Deep
import HandS.FStrTup
import Flt.Len
import PyProof.ReprRoads
import PyProof.NoPylong
import HandS.ExcOwn
import HandS.ExcIs
import HandS.ExcValue
import HandS.WordsExc
import KE.KExcIs
import HandS.TupLe
import PyProof.P3In
import HandS.ExcInit
import KE.KExcSuper
import HandS.Star
import HandS.Small
import KE.DataFind
import HandS.StrMore
import HandS.FStr
import HandS.WideBits
import HandS.RevTup
import HandS.Rev
import HandS.SortKw
import KE.DataMinMax
import HandS.Codes
import KE.IntTextLaws
import HandS.TryOnly
import HandS.DictComp
import HandS.Conv
import HandS.SetFor
import HandS.Strs
import PyProof.Rows.ListMulR
import HandS.TupAny
import KE.KTryMore
import PyProof.ExcBaseAll.LookupError
import PyProof.ExcBaseAll.ZeroDivisionError
import PySem.Challenge.RW_downweigh_k43_ranks_looked_at
set_option Elab.async false
set_option linter.all false
set_option maxRecDepth 100000
set_option maxHeartbeats 4000000
namespace DL
open PySem PySem.Spec PyProof.Rows L2
def dctK (kvs : List (Str × Int)) : List (Key × V) := kvs.map fun kv => (.inr kv.1, .int kv.2)
inductive D where
  | non
  | bl (b : Bool)
  | int (i : Int)
  | str (x : Str)
  | lst (xs : List D)
  | tup (xs : List D)
  | fro (xs : List D)
  | edic
  | dct (kvs : List (Str × Int))
  | opq (v : V)
  | exc (c : Str) (ns : List Str) (xs : List D)
def Sub (H H' : Hp) : Prop := ∀ b o, H b = some o → H' b = some o
theorem Sub.refl (H : Hp) : Sub H H := fun _ _ h => h
theorem Sub.trans {H H1 H2 : Hp} (a : Sub H H1) (b : Sub H1 H2) : Sub H H2 := fun c o h => b c o (a c o h)
theorem Sub.new {H : Hp} {p : Addr} {o : HO} (h : H p = none) : Sub H (upd H p o) := fun b u e => by
  rw [upd_ne (ne_of_none e h)]; exact e
theorem Sub.none {H H' : Hp} (s : Sub H H') {p : Addr} (h : H' p = none) : H p = none := by
  cases e : H p with
  | none => rfl
  | some o => rw [s p o e] at h; cases h
theorem Sub.sqL {K : PySem.W.Frag} {H H' : Hp} {a : Addr} {xs : List V} (e : Sub H H') (h : SqL K H a xs) : SqL K H' a xs := by
  rcases h with (h | ⟨o, h⟩) | h
  · exact .inl (.inl (e _ _ h))
  · exact .inl (.inr ⟨o, e _ _ h⟩)
  · exact .inr h
theorem Sub.sqT {K : PySem.W.Frag} {H H' : Hp} {a : Addr} {xs : List V} (e : Sub H H') (h : SqT K H a xs) : SqT K H' a xs := by
  rcases h with (h | ⟨o, h⟩) | h
  · exact .inl (.inl (e _ _ h))
  · exact .inl (.inr ⟨o, e _ _ h⟩)
  · exact .inr h
/-- an exception's object at a: its class, its dict -/
def ExH (cv : Value) (d : Option Addr) (a : Addr) : HO := .ext fun h => ∃ (oe : Obj) (fv : Array Value), h.get? a = some oe ∧ Zc cv d oe ∧ oe.data = .fields fv
/-- what its dict holds -/
def XD (F : Hp) (d : Option Addr) (ns : List Str) (vs : List V) : Prop := (d = none ∧ ns = [] ∧ vs = []) ∨ ∃ dx, d = some dx ∧ F dx = some (.xd (ns.zip vs)) ∧ ns.length = vs.length ∧ ns ≠ []
theorem XD.mono {F F' : Hp} {d : Option Addr} {ns : List Str} {vs : List V} (e : Sub F F') (h : XD F d ns vs) : XD F' d ns vs := by
  rcases h with h | ⟨dx, h1, h2, h3⟩
  · exact .inl h
  · exact .inr ⟨dx, h1, e _ _ h2, h3⟩
mutual
inductive DR (K : PySem.W.Frag) (F : Hp) : V → D → Prop
  | non : DR K F .non .non
  | bl (b : Bool) : DR K F (.bl b) (.bl b)
  | int (i : Int) : DR K F (.int i) (.int i)
  | str (x : Str) : DR K F (.str x) (.str x)
  | lst {a : Addr} {xs : List V} {ds : List D} : F a = some (.lst xs) → DRs K F xs ds → DR K F (.ref a) (.lst ds)
  | tup {a : Addr} {xs : List V} {ds : List D} : SqT K F a xs → DRs K F xs ds → DR K F (.ref a) (.tup ds)
  | fro {a : Addr} {xs : List V} {ds : List D} : SqL K F a xs → DRs K F xs ds → DR K F (.ref a) (.fro ds)
  | edic {a : Addr} : F a = some (.dK []) → DR K F (.ref a) .edic
  | dct {a : Addr} {kvs : List (Str × Int)} : F a = some (.dK (dctK kvs)) → DR K F (.ref a) (.dct kvs)
  | opq (v : V) : DR K F v (.opq v)
  | exc {a : Addr} {c : Str} {cv : Value} {d : Option Addr} {ns : List Str} {vs : List V} {ds : List D} : PySem.W.nsIn K mainGlobals c = some (some cv) → F a = some (ExH cv d a) → XD F d ns vs → DRs K F vs ds → DR K F (.ref a) (.exc c ns ds)
inductive DRs (K : PySem.W.Frag) (F : Hp) : List V → List D → Prop
  | nil : DRs K F [] []
  | cons {v : V} {vs : List V} {d : D} {ds : List D} : DR K F v d → DRs K F vs ds → DRs K F (v :: vs) (d :: ds)
end
section
variable {K : PySem.W.Frag} {F F' H H' : Hp} {v : V} {d : D} {vs : List V} {ds : List D}
mutual
theorem DR.mono (e : Sub F F') : ∀ {v : V} {d : D}, DR K F v d → DR K F' v d
  | _, _, .non => .non
  | _, _, .bl b => .bl b
  | _, _, .int i => .int i
  | _, _, .str x => .str x
  | _, _, .lst h hs => .lst (e _ _ h) (DRs.mono e hs)
  | _, _, .tup h hs => .tup (e.sqT h) (DRs.mono e hs)
  | _, _, .fro h hs => .fro (e.sqL h) (DRs.mono e hs)
  | _, _, .edic h => .edic (e _ _ h)
  | _, _, .dct h => .dct (e _ _ h)
  | _, _, .opq v => .opq v
  | _, _, .exc h0 h hx hs => .exc h0 (e _ _ h) (hx.mono e) (DRs.mono e hs)
theorem DRs.mono (e : Sub F F') : ∀ {vs : List V} {ds : List D}, DRs K F vs ds → DRs K F' vs ds
  | _, _, .nil => .nil
  | _, _, .cons h hs => .cons (DR.mono e h) (DRs.mono e hs)
end
theorem DRs.length : ∀ {vs : List V} {ds : List D}, DRs K F vs ds → vs.length = ds.length
  | _, _, .nil => rfl
  | _, _, .cons _ h => by simp [DRs.length h]
theorem DRs.get : ∀ {vs : List V} {ds : List D} {i : Nat} {d : D}, DRs K F vs ds → ds[i]? = some d → ∃ v, vs[i]? = some v ∧ DR K F v d
  | _, _, _, _, .nil, e => by simp at e
  | _, _, 0, _, .cons r _, e => by simp at e; subst e; exact ⟨_, rfl, r⟩
  | _, _, i + 1, d, .cons _ t, e => by
    obtain ⟨u, h1, h2⟩ := DRs.get (i := i) (d := d) t (by simpa using e)
    exact ⟨u, by simpa using h1, h2⟩
theorem DRs.getV : ∀ {vs : List V} {ds : List D} {i : Nat} {v : V}, DRs K F vs ds → vs[i]? = some v → ∃ d, ds[i]? = some d ∧ DR K F v d
  | _, _, _, _, .nil, e => by simp at e
  | _, _, 0, _, .cons r _, e => by simp at e; subst e; exact ⟨_, rfl, r⟩
  | _, _, i + 1, d, .cons _ t, e => by
    obtain ⟨u, h1, h2⟩ := DRs.getV (i := i) (v := d) t (by simpa using e)
    exact ⟨u, by simpa using h1, h2⟩
theorem DRs.append : ∀ {xs ys : List V} {ds es : List D}, DRs K F xs ds → DRs K F ys es → DRs K F (xs ++ ys) (ds ++ es)
  | _, _, _, _, .nil, s => s
  | _, _, _, _, .cons r t, s => .cons r (DRs.append t s)
theorem DRs.take : ∀ {xs : List V} {ds : List D} (n : Nat), DRs K F xs ds → DRs K F (xs.take n) (ds.take n)
  | _, _, 0, _ => by simp; exact .nil
  | _, _, _ + 1, .nil => .nil
  | _, _, n + 1, .cons r t => .cons r (DRs.take n t)
theorem DRs.drop : ∀ {xs : List V} {ds : List D} (n : Nat), DRs K F xs ds → DRs K F (xs.drop n) (ds.drop n)
  | _, _, 0, r => r
  | _, _, _ + 1, .nil => .nil
  | _, _, n + 1, .cons _ t => DRs.drop n t
theorem DRs.set {x : V} {u : D} (r : DR K F x u) : ∀ {xs : List V} {us : List D} (i : Nat), DRs K F xs us → DRs K F (xs.set i x) (us.set i u)
  | _, _, _, .nil => .nil
  | _, _, 0, .cons _ t => .cons r t
  | _, _, i + 1, .cons q t => .cons q (DRs.set r i t)
theorem DRs.ints : ∀ (ns : List Int), DRs K F (ns.map V.int) (ns.map D.int)
  | [] => .nil
  | n :: r => .cons (.int n) (DRs.ints r)
end
abbrev DS := List (Option D)
abbrev MS := List (Addr × List D)
/-- address 1 (the modules) is tracked from the start: nothing of ours lies there -/
def OneR (K : PySem.W.Frag) (F : Hp) : Prop := K.lookup sysModules = none ∧ ∃ o φ, F sysModules = some (.frz o (.ext φ))
theorem OneR.mono {K : PySem.W.Frag} {F F' : Hp} (h : OneR K F) (s : Sub F F') : OneR K F' := let ⟨a, o, φ, b⟩ := h; ⟨a, o, φ, s _ _ b⟩
structure Rel (K : PySem.W.Frag) (F H : Hp) (ms : MS) : Prop where
  sub : Sub F H
  mu : ∀ p ∈ ms, F p.1 = none ∧ ∃ vs, H p.1 = some (.lst vs) ∧ DRs K F vs p.2
  nd : (ms.map (·.1)).Nodup
  one : OneR K F
inductive Sl (K : PySem.W.Frag) (F : Hp) : L2.St → DS → Prop
  | nil : Sl K F [] []
  | sm {v : V} {d : D} {σ : L2.St} {ds : DS} : DR K F v d → Sl K F σ ds → Sl K F (some v :: σ) (some d :: ds)
  | nn {o : Option V} {σ : L2.St} {ds : DS} : Sl K F σ ds → Sl K F (o :: σ) (none :: ds)
def slot : DS → Nat → Option D
  | [], _ => none
  | o :: _, 0 => o
  | _ :: r, n + 1 => slot r n
def setSlot : DS → Nat → D → DS
  | [], _, _ => []
  | _ :: r, 0, d => some d :: r
  | o :: r, n + 1, d => o :: setSlot r n d
section
variable {K : PySem.W.Frag} {F F' H H' : Hp} {ms : MS} {σ : L2.St} {ds : DS}
theorem Sl.mono (e : Sub F F') : ∀ {σ : L2.St} {ds : DS}, Sl K F σ ds → Sl K F' σ ds
  | _, _, .nil => .nil
  | _, _, .sm h r => .sm (h.mono e) (Sl.mono e r)
  | _, _, .nn r => .nn (Sl.mono e r)
theorem Sl.get : ∀ {σ : L2.St} {ds : DS} {i : Nat} {d : D}, Sl K F σ ds → slot ds i = some d → ∃ v, σ[i]? = some (some v) ∧ DR K F v d
  | _, _, i, _, .nil, e => by cases i <;> cases e
  | _, _, 0, _, .sm h r, e => by cases e; exact ⟨_, rfl, h⟩
  | _, _, 0, _, .nn r, e => by cases e
  | _, _, i + 1, _, .sm h r, e => Sl.get (i := i) r e
  | _, _, i + 1, _, .nn r, e => Sl.get (i := i) r e
theorem Sl.set {v : V} {d : D} (h : DR K F v d) : ∀ {σ : L2.St} {ds : DS} (i : Nat), Sl K F σ ds → Sl K F (σ.set i (some v)) (setSlot ds i d)
  | _, _, i, .nil => by cases i <;> exact .nil
  | _, _, 0, .sm _ r => .sm h r
  | _, _, 0, .nn r => .sm h r
  | _, _, i + 1, .sm q r => .sm q (Sl.set h i r)
  | _, _, i + 1, .nn r => .nn (Sl.set h i r)
theorem Sl.len : ∀ {σ : L2.St} {ds : DS}, Sl K F σ ds → σ.length = ds.length
  | _, _, .nil => rfl
  | _, _, .sm _ r => by simp [Sl.len r]
  | _, _, .nn r => by simp [Sl.len r]
theorem Rel.new {p : Addr} {o : HO} (R : Rel K F H ms) (hp : H p = none) : Rel K (upd F p o) (upd H p o) ms := by
  refine ⟨fun b u e => ?_, fun q hq => ?_, R.nd, R.one.mono (Sub.new (R.sub.none hp))⟩
  · by_cases hb : b = p
    · subst hb; rw [upd_same] at e ⊢; exact e
    · rw [upd_ne hb] at e ⊢; exact R.sub b u e
  · obtain ⟨h1, vs, h2, h3⟩ := R.mu q hq
    have hne : q.1 ≠ p := ne_of_none h2 hp
    exact ⟨by rw [upd_ne hne]; exact h1, vs, by rw [upd_ne hne]; exact h2, h3.mono (Sub.new (R.sub.none hp))⟩
theorem Rel.ext (R : Rel K F H ms) (s : Sub H H') : Rel K F H' ms :=
  ⟨R.sub.trans s, fun q hq => let ⟨h1, vs, h2, h3⟩ := R.mu q hq; ⟨h1, vs, s _ _ h2, h3⟩, R.nd, R.one⟩
theorem Rel.lay {p : Addr} {o : HO} (R : Rel K F H ms) (hp : H p = none) : Rel K F (upd H p o) ms := R.ext (Sub.new hp)
end
/-- one step: what was known stays, what is not ours is left as it was -/
structure Stp (F H : Hp) (ms : MS) (F' H' : Hp) (ms' : MS) : Prop where
  sub : Sub F F'
  keep : ∀ a o, H a = some o → F a = none → (∀ p ∈ ms, p.1 ≠ a) → H' a = some o
  newF : ∀ a o, F' a = some o → F a = some o ∨ H a = none ∨ ∃ p ∈ ms, p.1 = a
  newM : ∀ p ∈ ms', (∃ q ∈ ms, q.1 = p.1) ∨ H p.1 = none ∨ ∃ o, F p.1 = some o
section
variable {K : PySem.W.Frag} {F F1 F2 H H1 H2 : Hp} {ms m1 m2 : MS}
theorem Stp.refl : Stp F H ms F H ms := ⟨Sub.refl F, fun _ _ h _ _ => h, fun _ _ h => .inl h, fun p hp => .inl ⟨p, hp, rfl⟩⟩
theorem Stp.trans (a : Stp F H ms F1 H1 m1) (b : Stp F1 H1 m1 F2 H2 m2) : Stp F H ms F2 H2 m2 := by
  have kp : ∀ c o, H c = some o → F c = none → (∀ p ∈ ms, p.1 ≠ c) → H1 c = some o ∧ F1 c = none ∧ ∀ p ∈ m1, p.1 ≠ c := fun c o h1 h2 h3 => by
    refine ⟨a.keep c o h1 h2 h3, ?_, fun p hp e => ?_⟩
    · cases e : F1 c with
      | none => rfl
      | some u =>
        rcases a.newF c u e with z | z | ⟨p, hp, z⟩
        · rw [h2] at z; cases z
        · rw [h1] at z; cases z
        · exact absurd z (h3 p hp)
    · rcases a.newM p hp with ⟨q, hq, z⟩ | z | ⟨u, z⟩
      · exact h3 q hq (z.trans e)
      · rw [e, h1] at z; cases z
      · rw [e, h2] at z; cases z
  have bk : ∀ c, H1 c = none → F c = none → H c = none ∨ ∃ p ∈ ms, p.1 = c := fun c h1 h2 => by
    cases e : H c with
    | none => exact .inl rfl
    | some u =>
      by_cases hq : ∃ p ∈ ms, p.1 = c
      · exact .inr hq
      · have z := a.keep c u e h2 fun p hp z => hq ⟨p, hp, z⟩
        rw [h1] at z; cases z
  refine ⟨a.sub.trans b.sub, fun c o h1 h2 h3 => ?_, fun c o h => ?_, fun p hp => ?_⟩
  · obtain ⟨x, y, z⟩ := kp c o h1 h2 h3
    exact b.keep c o x y z
  · cases ef : F c with
    | some u =>
      have z := b.sub c u (a.sub c u ef)
      rw [h] at z
      exact .inl z.symm
    | none =>
      refine .inr ?_
      rcases b.newF c o h with z | z | ⟨p, hp, z⟩
      · rcases a.newF c o z with y | y | y
        · rw [ef] at y; cases y
        · exact .inl y
        · exact .inr y
      · exact bk c z ef
      · rcases a.newM p hp with ⟨q, hq, y⟩ | y | ⟨u, y⟩
        · exact .inr ⟨q, hq, y.trans z⟩
        · exact .inl (z ▸ y)
        · rw [z, ef] at y; cases y
  · cases ef : F p.1 with
    | some u => exact .inr (.inr ⟨u, rfl⟩)
    | none =>
      rcases b.newM p hp with ⟨q, hq, z⟩ | z | ⟨u, z⟩
      · rcases a.newM q hq with ⟨q2, hq2, z2⟩ | z2 | ⟨u, z2⟩
        · exact .inl ⟨q2, hq2, z2.trans z⟩
        · exact .inr (.inl (z ▸ z2))
        · rw [z, ef] at z2; cases z2
      · rcases bk p.1 z ef with y | y
        · exact .inr (.inl y)
        · exact .inl y
      · rcases a.newF p.1 u z with y | y | y
        · rw [ef] at y; cases y
        · exact .inr (.inl y)
        · exact .inl y
theorem Stp.new {p : Addr} {o : HO} (R : Rel K F H ms) (hp : H p = none) : Stp F H ms (upd F p o) (upd H p o) ms := by
  refine ⟨Sub.new (R.sub.none hp), fun a u h1 h2 h3 => ?_, fun a u h => ?_, fun q hq => .inl ⟨q, hq, rfl⟩⟩
  · rw [upd_ne (ne_of_none h1 hp)]; exact h1
  · by_cases e : a = p
    · subst e; exact .inr (.inl hp)
    · rw [upd_ne e] at h; exact .inl h
end
abbrev DE := DS → MS → (D → MS → Prop) → Prop
abbrev DA := DS → MS → (List D → MS → Prop) → Prop
abbrev DT := DS → MS → (Bool → MS → Prop) → Prop
def lift (K : PySem.W.Frag) (de : DE) : TE := fun σ H Q => ∃ F ds ms P, Rel K F H ms ∧ Sl K F σ ds ∧ de ds ms P ∧
  ∀ d ms' v F' H', P d ms' → Rel K F' H' ms' → Stp F H ms F' H' ms' → DR K F' v d → Q v H'
def liftA (K : PySem.W.Frag) (de : DA) : TA := fun σ H Q => ∃ F ds ms P, Rel K F H ms ∧ Sl K F σ ds ∧ de ds ms P ∧
  ∀ xs ms' vs F' H', P xs ms' → Rel K F' H' ms' → Stp F H ms F' H' ms' → DRs K F' vs xs → Q vs H'
def liftT (K : PySem.W.Frag) (de : DT) : TT := fun σ H Q => ∃ F ds ms P, Rel K F H ms ∧ Sl K F σ ds ∧ de ds ms P ∧
  ∀ b ms' F' H', P b ms' → Rel K F' H' ms' → Stp F H ms F' H' ms' → Q b H'
abbrev PD (X : Cx) (e : Expr) (de : DE) : Prop := PE X e (lift X.K de)
abbrev PDA (X : Cx) (es : List Expr) (de : DA) : Prop := PA X es (liftA X.K de)
abbrev PDT (X : Cx) (e : Expr) (de : DT) : Prop := PT X e (liftT X.K de)
theorem peImp {X : Cx} {e : Expr} {t t' : TE} (h : PE X e t) (hi : ∀ σ H Q, t' σ H Q → t σ H Q) : PE X e t' := ⟨fun pins s σ H Q I hq => h.run pins s σ H Q I (hi σ H Q hq)⟩
theorem paImp {X : Cx} {e : List Expr} {t t' : TA} (h : PA X e t) (hi : ∀ σ H Q, t' σ H Q → t σ H Q) : PA X e t' := ⟨fun pos pins s σ H Q I hq => h.run pos pins s σ H Q I (hi σ H Q hq)⟩
theorem ptImp {X : Cx} {e : Expr} {t t' : TT} (h : PT X e t) (hi : ∀ σ H Q, t' σ H Q → t σ H Q) : PT X e t' := ⟨fun pins s σ H Q I hq => h.run pins s σ H Q I (hi σ H Q hq)⟩
theorem pwImp {X : Cx} {e : Expr} {t t' : TT} (h : PW X e t) (hi : ∀ σ H Q, t' σ H Q → t σ H Q) : PW X e t' := ⟨fun wh pins s σ H Q I hq => h.run wh pins s σ H Q I (hi σ H Q hq)⟩
theorem psImp {X : Cx} {e : Stmt} {t t' : TS} (h : PS X e t) (hi : ∀ D σ H, t' D σ H → t D σ H) : PS X e t' := ⟨fun pins s σ H D I hq => h.run pins s σ H D I (hi D σ H hq)⟩
theorem pssImp {X : Cx} {e : List Stmt} {t t' : TS} (h : PSs X e t) (hi : ∀ D σ H, t' D σ H → t D σ H) : PSs X e t' := ⟨fun pins s σ H D I hq => h.run pins s σ H D I (hi D σ H hq)⟩
def dC (d : D) : DE := fun _ ms P => P d ms
def dVar (i : Nat) : DE := fun ds ms P => match slot ds i with
  | some d => P d ms
  | none => False
section
variable {X : Cx} {K : PySem.W.Frag}
theorem lift_c {v : V} {d : D} (h : ∀ F, DR K F v d) : ∀ σ H Q, lift K (dC d) σ H Q → tC v σ H Q := fun σ H Q ⟨F, ds, ms, P, R, S, h1, h2⟩ =>
  h2 d ms v F H h1 R Stp.refl (h F)
theorem pd_int {i j pos} : PD X (.Constant (.int i) j pos) (dC (.int i)) := peImp pe_int (lift_c fun _ => .int i)
theorem pd_bl {b j pos} : PD X (.Constant (.bool b) j pos) (dC (.bl b)) := peImp pe_bl (lift_c fun _ => .bl b)
theorem pd_non {j pos} : PD X (.Constant .none j pos) (dC .non) := peImp pe_non (lift_c fun _ => .non)
theorem pd_str {x j pos} : PD X (.Constant (.str x) j pos) (dC (.str x)) := peImp pe_str (lift_c fun _ => .str x)
theorem pd_glob {x : Str} {v : V} {d : D} {u : Value} {pos : Pos} (hg : Gl X x) (hm : X.mg x = some u) (r : RelV v u) (h : ∀ F, DR X.K F v d) (hd : (x == ("__debug__" : Str)) = false := by decide) : PD X (.Name x pos) (dC d) :=
  peImp (pe_glob hg hm r hd) (lift_c h)
theorem pd_var (i : Nat) {x : Str} {pos : Pos} (hN : X.N[i]? = some x := by rfl) (hv : Vis X.env.scope x := by first | exact Or.inl rfl | exact Or.inr (Or.inl rfl) | exact Or.inr (Or.inr rfl)) (hd : (x == ("__debug__" : Str)) = false := by decide)
    (hcd : (x == ("__classdict__" : Str)) = false := by decide) : PD X (.Name x pos) (dVar i) :=
  peImp (pe_var hN hv hd hcd) fun σ H Q ⟨F, ds, ms, P, R, S, h1, h2⟩ => by
    unfold dVar at h1
    cases e : slot ds i with
    | none => rw [e] at h1; exact h1.elim
    | some d =>
      rw [e] at h1
      obtain ⟨v, hv, hr⟩ := S.get e
      exact ⟨v, hv, h2 d ms v F H h1 R Stp.refl hr⟩
end
abbrev OF := D → D → MS → (D → MS → Prop) → Prop
def OpD (K : PySem.W.Frag) (r : R2) (f : OF) : Prop := ∀ (F H : Hp) (ms : MS) (x y : V) (dx dy : D) (P : D → MS → Prop) (Q : VK), Rel K F H ms → DR K F x dx → DR K F y dy → f dx dy ms P →
  (∀ d ms' v F' H', P d ms' → Rel K F' H' ms' → Stp F H ms F' H' ms' → DR K F' v d → Q v H') → r x y H Q
def dOp (f : OF) (da db : DE) : DE := fun ds ms P => da ds ms fun x m1 => db ds m1 fun y m2 => f x y m2 P
section
variable {X : Cx} {K : PySem.W.Frag} {da db dc : DE} {a b c : Expr} {pos : Pos}
theorem lift_op {r : R2} {f : OF} (hf : OpD K r f) : ∀ σ H Q, lift K (dOp f da db) σ H Q → tOp r (lift K da) (lift K db) σ H Q := fun σ H Q ⟨F, ds, ms, P, R, S, h1, h2⟩ =>
  ⟨F, ds, ms, _, R, S, h1, fun dx m1 x F1 H1 p1 R1 s1 r1 => ⟨F1, ds, m1, _, R1, S.mono s1.sub, p1, fun dy m2 y F2 H2 p2 R2 s2 r2 =>
    hf F2 H2 m2 x y dx dy P Q R2 (r1.mono s2.sub) r2 p2 fun d m3 v F3 H3 p3 R3 s3 r3 => h2 d m3 v F3 H3 p3 R3 (s1.trans (s2.trans s3)) r3⟩⟩
theorem pd_op {op : Operator} {r : R2} {f : OF} (ho : OpR X (binaryOp op) r) (hf : OpD X.K r f) (ha : PD X a da) (hb : PD X b db) : PD X (.BinOp a op b pos) (dOp f da db) :=
  peImp (pe_op ho ha hb) (lift_op hf)
theorem pd_cmp {op : CmpOp} {r : R2} {f : OF} (ho : OpR X (compareOp op) r) (hf : OpD X.K r f) (ha : PD X a da) (hb : PD X b db) (hm : behindInMarks op b = false := by first | exact nomark _ | rfl) : PD X (.Compare a [op] [b] pos) (dOp f da db) :=
  peImp (pe_cmpR ho ha hb hm) (lift_op hf)
theorem pd_ix {r : R2} {f : OF} (hr : IxR X r) (hf : OpD X.K r f) (ha : PD X a da) (hb : PD X b db) (hs : PlainIx b := by exact fun _ _ => rfl) : PD X (.Subscript a b pos) (dOp f da db) :=
  peImp (pe_ix hr ha hb hs) (lift_op hf)
end
/-- ints in, a value out, under a condition -/
def fI (C : Int → Int → Prop) (g : Int → Int → D) : OF := fun x y ms P => match x, y with
  | .int i, .int j => C i j ∧ P (g i j) ms
  | _, _ => False
theorem opd_I {K : PySem.W.Frag} {C C' : Int → Int → Prop} {g : Int → Int → V} {g' : Int → Int → D} (hC : ∀ i j, C i j → C' i j) (hg : ∀ F i j, DR K F (g i j) (g' i j)) : OpD K (rI C' g) (fI C g') := by
  intro F H ms x y dx dy P Q R rx ry h q
  cases rx <;> cases ry <;> try exact h.elim
  exact ⟨_, _, rfl, rfl, hC _ _ h.1, q _ _ _ F H h.2 R Stp.refl (hg F _ _)⟩
theorem opd_I0 {K : PySem.W.Frag} {g : Int → Int → V} {g' : Int → Int → D} (hg : ∀ F i j, DR K F (g i j) (g' i j)) : OpD K (rI0 g) (fI (fun _ _ => True) g') := by
  intro F H ms x y dx dy P Q R rx ry h q
  cases rx <;> cases ry <;> try exact h.elim
  exact ⟨_, _, rfl, rfl, q _ _ _ F H h.2 R Stp.refl (hg F _ _)⟩
end DL
namespace DL
open PySem PySem.Spec PyProof.Rows L2
def aNil : DA := fun _ ms P => P [] ms
def aCons (de : DE) (da : DA) : DA := fun ds ms P => de ds ms fun x m1 => da ds m1 fun xs m2 => P (x :: xs) m2
section
variable {X : Cx} {K : PySem.W.Frag} {da db dc : DE} {a b c e : Expr} {es : List Expr} {pos : Pos} {aa : DA}
theorem pda_nil : PDA X [] aNil := paImp pa_nil fun σ H Q ⟨F, ds, ms, P, R, S, h1, h2⟩ => h2 [] ms [] F H h1 R Stp.refl .nil
theorem pda_cons (ha : PD X e da) (hr : PDA X es aa) (hs : starEach (e :: es) X.env = (false, eval e X.env) :: starEach es X.env := by rfl) : PDA X (e :: es) (aCons da aa) :=
  paImp (pa_cons ha hr hs) fun σ H Q ⟨F, ds, ms, P, R, S, h1, h2⟩ =>
    ⟨F, ds, ms, _, R, S, h1, fun dx m1 x F1 H1 p1 R1 s1 r1 => ⟨F1, ds, m1, _, R1, S.mono s1.sub, p1, fun xs m2 vs F2 H2 p2 R2 s2 r2 =>
      h2 _ m2 (x :: vs) F2 H2 p2 R2 (s1.trans s2) (.cons (r1.mono s2.sub) r2)⟩⟩
def dTup (da : DA) : DE := fun ds ms P => da ds ms fun xs m => xs.length ≤ sizeLine ∧ P (.tup xs) m
def dLst (da : DA) : DE := fun ds ms P => da ds ms fun xs m => xs.length ≤ sizeLine ∧ P (.lst xs) m
/-- a list that is to be changed -/
def dLstM (da : DA) : DE := fun ds ms P => da ds ms fun xs m => xs.length ≤ sizeLine ∧ ∀ p, (∀ q ∈ m, q.1 ≠ p) → P (.opq (.ref p)) ((p, xs) :: m)
theorem Rel.newTup {F H : Hp} {ms : MS} {p : Addr} {vs : List V} {xs : List D} (R : Rel K F H ms) (hp : H p = none) (r : DRs K F vs xs) : DR K (upd F p (.tup vs)) (.ref p) (.tup xs) :=
  .tup (SqT.of upd_same) (r.mono (Sub.new (R.sub.none hp)))
theorem Rel.newLst {F H : Hp} {ms : MS} {p : Addr} {vs : List V} {xs : List D} (R : Rel K F H ms) (hp : H p = none) (r : DRs K F vs xs) : DR K (upd F p (.lst vs)) (.ref p) (.lst xs) :=
  .lst upd_same (r.mono (Sub.new (R.sub.none hp)))
theorem Rel.newMut {F H : Hp} {ms : MS} {p : Addr} {vs : List V} {xs : List D} (R : Rel K F H ms) (hp : H p = none) (r : DRs K F vs xs) : (∀ q ∈ ms, q.1 ≠ p) ∧ Rel K F (upd H p (.lst vs)) ((p, xs) :: ms) := by
  have hne : ∀ q ∈ ms, q.1 ≠ p := fun q hq => by
    obtain ⟨h1, ws, h2, h3⟩ := R.mu q hq
    exact ne_of_none h2 hp
  refine ⟨hne, R.sub.trans (Sub.new hp), fun q hq => ?_, ?_, R.one⟩
  · rcases List.mem_cons.mp hq with rfl | hq
    · exact ⟨R.sub.none hp, vs, upd_same, r⟩
    · obtain ⟨h1, ws, h2, h3⟩ := R.mu q hq
      exact ⟨h1, ws, by rw [upd_ne (hne q hq)]; exact h2, h3⟩
  · rw [List.map_cons, List.nodup_cons]
    refine ⟨fun hm => ?_, R.nd⟩
    obtain ⟨q, hq, e⟩ := List.mem_map.mp hm
    exact hne q hq e
theorem Stp.newMut {F H : Hp} {ms : MS} {p : Addr} {vs : List V} {xs : List D} (hp : H p = none) : Stp F H ms F (upd H p (.lst vs)) ((p, xs) :: ms) :=
  ⟨Sub.refl F, fun a u h1 _ _ => by rw [upd_ne (ne_of_none h1 hp)]; exact h1, fun _ _ h => .inl h, fun q hq => by
    rcases List.mem_cons.mp hq with rfl | hq
    · exact .inr (.inl hp)
    · exact .inl ⟨q, hq, rfl⟩⟩
theorem pd_tup {x1} (h : PDA X es aa) : PD X (.Tuple es x1 pos) (dTup aa) := peImp (pe_tup h) fun σ H Q ⟨F, ds, ms, P, R, S, h1, h2⟩ =>
  ⟨F, ds, ms, _, R, S, h1, fun xs m vs F1 H1 p1 R1 s1 r1 => ⟨by rw [r1.length]; exact p1.1, fun p hp =>
    h2 _ m _ (upd F1 p (.tup vs)) _ p1.2 (R1.new hp) (s1.trans (Stp.new R1 hp)) (R1.newTup hp r1)⟩⟩
theorem pd_lst (h : PDA X es aa) : PD X (.List es pos) (dLst aa) := peImp (pe_lst h) fun σ H Q ⟨F, ds, ms, P, R, S, h1, h2⟩ =>
  ⟨F, ds, ms, _, R, S, h1, fun xs m vs F1 H1 p1 R1 s1 r1 => ⟨by rw [r1.length]; exact p1.1, fun p hp =>
    h2 _ m _ (upd F1 p (.lst vs)) _ p1.2 (R1.new hp) (s1.trans (Stp.new R1 hp)) (R1.newLst hp r1)⟩⟩
theorem pd_lstM (h : PDA X es aa) : PD X (.List es pos) (dLstM aa) := peImp (pe_lst h) fun σ H Q ⟨F, ds, ms, P, R, S, h1, h2⟩ =>
  ⟨F, ds, ms, _, R, S, h1, fun xs m vs F1 H1 p1 R1 s1 r1 => ⟨by rw [r1.length]; exact p1.1, fun p hp =>
    h2 _ ((p, xs) :: m) _ F1 _ (p1.2 p (R1.newMut hp r1).1) (R1.newMut hp r1).2 (s1.trans (Stp.newMut hp)) (.opq _)⟩⟩
def dTest (da : DE) : DT := fun ds ms P => da ds ms fun x m => match x with
  | .bl b => P b m
  | _ => False
theorem pdt_val (h : PD X e da) (he : ∀ whole, isTrue e X.env whole = (do let v ← whole; standAt e.pos; holding [v] (truthy v)) := by intro _; rfl) : PDT X e (dTest da) :=
  ptImp (pt_val h he) fun σ H Q ⟨F, ds, ms, P, R, S, h1, h2⟩ =>
    ⟨F, ds, ms, _, R, S, h1, fun d m v F1 H1 p1 R1 s1 r1 => by
      cases d with
      | bl b => cases r1; exact ⟨b, rfl, h2 b m F1 H1 p1 R1 s1⟩
      | _ => exact p1.elim⟩
theorem pdt_cmp {op : CmpOp} {r : R2} {f : OF} (ho : OpR X (compareOp op) r) (hf : OpD X.K r f) (ha : PD X a da) (hb : PD X b db) (hm : behindInMarks op b = false := by first | exact nomark _ | rfl) : PDT X (.Compare a [op] [b] pos) (dTest (dOp f da db)) :=
  ptImp (pt_cmpR ho ha hb hm) fun σ H Q ⟨F, ds, ms, P, R, S, h1, h2⟩ =>
    lift_op hf σ H _ ⟨F, ds, ms, _, R, S, h1, fun d m v F1 H1 p1 R1 s1 r1 => by
      cases d with
      | bl b => cases r1; exact ⟨b, rfl, h2 b m F1 H1 p1 R1 s1⟩
      | _ => exact p1.elim⟩
/-- a value's truth -/
def truD : D → MS → (Bool → Prop) → Prop := fun x ms P => match x with
  | .non => P false
  | .bl b => P b
  | .int i => P (i != 0)
  | .str y => y.length ≤ sizeLine ∧ P ((y.length : Int) != 0)
  | .lst xs => P (!xs.isEmpty)
  | .fro xs => P (!xs.isEmpty)
  | .tup xs => P (!xs.isEmpty)
  | _ => False
def dTru (da : DE) : DT := fun ds ms P => da ds ms fun x m => truD x m fun b => P b m
theorem isEmpty_of' {F : Hp} {vs : List V} {xs : List D} (r : DRs K F vs xs) : (!xs.isEmpty) = !vs.isEmpty := by cases r <;> rfl
theorem pdt_tru (h : PD X e da) (he : ∀ whole, isTrue e X.env whole = (do let v ← whole; standAt e.pos; holding [v] (truthy v)) := by intro _; rfl) : PDT X e (dTru da) :=
  ptImp (pt_truth h he) fun σ H Q ⟨F, ds, ms, P, R, S, h1, h2⟩ =>
    ⟨F, ds, ms, _, R, S, h1, fun d m v F1 H1 p1 R1 s1 r1 => by
      cases r1 with
      | non => exact ⟨_, rfl, h2 _ m F1 H1 p1 R1 s1⟩
      | bl b => exact ⟨_, rfl, h2 _ m F1 H1 p1 R1 s1⟩
      | int i => exact ⟨_, rfl, h2 _ m F1 H1 p1 R1 s1⟩
      | str x => exact ⟨_, ⟨p1.1, rfl⟩, h2 _ m F1 H1 p1.2 R1 s1⟩
      | lst h hs => exact ⟨_, .inl ⟨_, SqL.of (R1.sub _ _ h), isEmpty_of' hs⟩, h2 _ m F1 H1 p1 R1 s1⟩
      | tup h hs => exact ⟨_, .inr (.inl ⟨_, R1.sub.sqT h, isEmpty_of' hs⟩), h2 _ m F1 H1 p1 R1 s1⟩
      | fro h hs => exact ⟨_, .inl ⟨_, R1.sub.sqL h, isEmpty_of' hs⟩, h2 _ m F1 H1 p1 R1 s1⟩
      | edic h => exact p1.elim
      | dct h => exact p1.elim
      | opq v => exact p1.elim
      | exc _ _ _ _ => exact p1.elim⟩
def dNot (dt : DT) : DT := fun ds ms P => dt ds ms fun b m => P (!b) m
def dAnd (dt du : DT) : DT := fun ds ms P => dt ds ms fun b m => if b = true then du ds m P else P false m
def dOr (dt du : DT) : DT := fun ds ms P => dt ds ms fun b m => if b = true then P true m else du ds m P
variable {dt du : DT} {rest : List Expr}
theorem pdt_not (h : PDT X e dt) : PDT X (.UnaryOp .Not e pos) (dNot dt) := ptImp (pt_not h) fun σ H Q ⟨F, ds, ms, P, R, S, h1, h2⟩ =>
  ⟨F, ds, ms, _, R, S, h1, fun b m F1 H1 p1 R1 s1 => h2 _ m F1 H1 p1 R1 s1⟩
abbrev PDW (X : Cx) (e : Expr) (dt : DT) : Prop := PW X e (liftT X.K dt)
theorem pdw_and1 (h : PDT X e dt) : PDW X (.BoolOp .And [e] pos) dt := pw_and1 h
theorem pdw_or1 (h : PDT X e dt) : PDW X (.BoolOp .Or [e] pos) dt := pw_or1 h
theorem pdw_and (h : PDT X a dt) (hb : PDW X (.BoolOp .And (b :: rest) pos) du) : PDW X (.BoolOp .And (a :: b :: rest) pos) (dAnd dt du) := pwImp (pw_and h hb) fun σ H Q ⟨F, ds, ms, P, R, S, h1, h2⟩ =>
  ⟨F, ds, ms, _, R, S, h1, fun k m F1 H1 p1 R1 s1 => by
    cases k with
    | true =>
      rw [if_pos rfl] at p1 ⊢
      exact ⟨F1, ds, m, P, R1, S.mono s1.sub, p1, fun k2 m2 F2 H2 p2 R2 s2 => h2 k2 m2 F2 H2 p2 R2 (s1.trans s2)⟩
    | false =>
      rw [if_neg Bool.false_ne_true] at p1 ⊢
      exact h2 _ m F1 H1 p1 R1 s1⟩
theorem pdw_or (h : PDT X a dt) (hb : PDW X (.BoolOp .Or (b :: rest) pos) du) : PDW X (.BoolOp .Or (a :: b :: rest) pos) (dOr dt du) := pwImp (pw_or h hb) fun σ H Q ⟨F, ds, ms, P, R, S, h1, h2⟩ =>
  ⟨F, ds, ms, _, R, S, h1, fun k m F1 H1 p1 R1 s1 => by
    cases k with
    | false =>
      rw [if_neg Bool.false_ne_true] at p1 ⊢
      exact ⟨F1, ds, m, P, R1, S.mono s1.sub, p1, fun k2 m2 F2 H2 p2 R2 s2 => h2 k2 m2 F2 H2 p2 R2 (s1.trans s2)⟩
    | true =>
      rw [if_pos rfl] at p1 ⊢
      exact h2 _ m F1 H1 p1 R1 s1⟩
theorem pdt_w (h : PDW X e dt) : PDT X e dt := h.pt
def dAndV (da db : DE) : DE := fun ds ms P => da ds ms fun x m => match x with
  | .bl b => if b = true then db ds m P else P (.bl false) m
  | _ => False
def dOrV (da db : DE) : DE := fun ds ms P => da ds ms fun x m => match x with
  | .bl b => if b = true then P (.bl true) m else db ds m P
  | _ => False
def dNotV (da : DE) : DE := fun ds ms P => da ds ms fun x m => match x with
  | .bl b => P (.bl (!b)) m
  | _ => False
theorem pd_one {op} (h : PD X e da) : PD X (.BoolOp op [e] pos) da := pe_one h
theorem pd_and (h : PD X a da) (hb : PD X (.BoolOp .And (b :: rest) pos) db) : PD X (.BoolOp .And (a :: b :: rest) pos) (dAndV da db) := peImp (pe_and h hb) fun σ H Q ⟨F, ds, ms, P, R, S, h1, h2⟩ =>
  ⟨F, ds, ms, _, R, S, h1, fun k m v F1 H1 p1 R1 s1 r1 => by
    cases k with
    | bl k =>
      cases r1
      refine ⟨k, rfl, ?_⟩
      cases k with
      | true =>
        simp only [if_true] at p1 ⊢
        exact ⟨F1, ds, m, P, R1, S.mono s1.sub, p1, fun k2 m2 v2 F2 H2 p2 R2 s2 r2 => h2 k2 m2 v2 F2 H2 p2 R2 (s1.trans s2) r2⟩
      | false =>
        simp only [if_neg Bool.false_ne_true] at p1 ⊢
        exact h2 _ m _ F1 H1 p1 R1 s1 (.bl false)
    | _ => exact p1.elim⟩
theorem pd_or (h : PD X a da) (hb : PD X (.BoolOp .Or (b :: rest) pos) db) : PD X (.BoolOp .Or (a :: b :: rest) pos) (dOrV da db) := peImp (pe_or h hb) fun σ H Q ⟨F, ds, ms, P, R, S, h1, h2⟩ =>
  ⟨F, ds, ms, _, R, S, h1, fun k m v F1 H1 p1 R1 s1 r1 => by
    cases k with
    | bl k =>
      cases r1
      refine ⟨k, rfl, ?_⟩
      cases k with
      | false =>
        simp only [if_neg Bool.false_ne_true] at p1 ⊢
        exact ⟨F1, ds, m, P, R1, S.mono s1.sub, p1, fun k2 m2 v2 F2 H2 p2 R2 s2 r2 => h2 k2 m2 v2 F2 H2 p2 R2 (s1.trans s2) r2⟩
      | true =>
        simp only [if_true] at p1 ⊢
        exact h2 _ m _ F1 H1 p1 R1 s1 (.bl true)
    | _ => exact p1.elim⟩
theorem pd_not (h : PD X e da) : PD X (.UnaryOp .Not e pos) (dNotV da) := peImp (pe_not h) fun σ H Q ⟨F, ds, ms, P, R, S, h1, h2⟩ =>
  ⟨F, ds, ms, _, R, S, h1, fun k m v F1 H1 p1 R1 s1 r1 => by
    cases k with
    | bl k => cases r1; exact ⟨k, rfl, h2 _ m _ F1 H1 p1 R1 s1 (.bl _)⟩
    | _ => exact p1.elim⟩
def dIf (dt : DT) (da db : DE) : DE := fun ds ms P => dt ds ms fun b m => if b = true then da ds m P else db ds m P
theorem pd_ifExp (hc : PDT X c dt) (ha : PD X a da) (hb : PD X b db) : PD X (.IfExp c a b pos) (dIf dt da db) := peImp (pe_ifExp hc ha hb) fun σ H Q ⟨F, ds, ms, P, R, S, h1, h2⟩ =>
  ⟨F, ds, ms, _, R, S, h1, fun k m F1 H1 p1 R1 s1 => by
    cases k with
    | true =>
      rw [if_pos rfl] at p1 ⊢
      exact ⟨F1, ds, m, P, R1, S.mono s1.sub, p1, fun k2 m2 v2 F2 H2 p2 R2 s2 r2 => h2 k2 m2 v2 F2 H2 p2 R2 (s1.trans s2) r2⟩
    | false =>
      rw [if_neg Bool.false_ne_true] at p1 ⊢
      exact ⟨F1, ds, m, P, R1, S.mono s1.sub, p1, fun k2 m2 v2 F2 H2 p2 R2 s2 r2 => h2 k2 m2 v2 F2 H2 p2 R2 (s1.trans s2) r2⟩⟩
def dNeg (da : DE) : DE := fun ds ms P => da ds ms fun x m => match x with
  | .int i => P (.int (-i)) m
  | _ => False
theorem pd_neg (h : PD X e da) : PD X (.UnaryOp .USub e pos) (dNeg da) := peImp (pe_un un_neg h) fun σ H Q ⟨F, ds, ms, P, R, S, h1, h2⟩ =>
  ⟨F, ds, ms, _, R, S, h1, fun k m v F1 H1 p1 R1 s1 r1 => by
    cases k with
    | int k => cases r1; exact ⟨k, rfl, h2 _ m _ F1 H1 p1 R1 s1 (.int _)⟩
    | _ => exact p1.elim⟩
end
structure EN where
  nx : DS → MS → Prop
  rt : D → MS → Prop
  bk : DS → MS → Prop := fun _ _ => False
  ct : DS → MS → Prop := fun _ _ => False
  ex : Str → List Str → List D → DS → MS → Prop := fun _ _ _ _ _ => False
abbrev DTS := EN → DS → MS → Prop
def liftS (K : PySem.W.Frag) (t : DTS) : TS := fun D σ H => ∃ F ds ms E, Rel K F H ms ∧ Sl K F σ ds ∧ t E ds ms ∧
  (∀ ds' ms' σ' F' H', E.nx ds' ms' → Rel K F' H' ms' → Stp F H ms F' H' ms' → Sl K F' σ' ds' → D.nx σ' H') ∧
  (∀ d ms' v F' H', E.rt d ms' → Rel K F' H' ms' → Stp F H ms F' H' ms' → DR K F' v d → D.rt v H') ∧
  (∀ ds' ms' σ' F' H', E.bk ds' ms' → Rel K F' H' ms' → Stp F H ms F' H' ms' → Sl K F' σ' ds' → D.bk σ' H') ∧
  (∀ ds' ms' σ' F' H', E.ct ds' ms' → Rel K F' H' ms' → Stp F H ms F' H' ms' → Sl K F' σ' ds' → D.ct σ' H')
abbrev PDS (X : Cx) (st : Stmt) (t : DTS) : Prop := PS X st (liftS X.K t)
abbrev PDSs (X : Cx) (st : List Stmt) (t : DTS) : Prop := PSs X st (liftS X.K t)
def dNext : DTS := fun E ds ms => E.nx ds ms
def dBreak : DTS := fun E ds ms => E.bk ds ms
def dCont : DTS := fun E ds ms => E.ct ds ms
def dSeq (t u : DTS) : DTS := fun E ds ms => t { E with nx := u E } ds ms
def dRet (de : DE) : DTS := fun E ds ms => de ds ms E.rt
def dRetN : DTS := fun E ds ms => E.rt .non ms
def dDrop (de : DE) : DTS := fun E ds ms => de ds ms fun _ m => E.nx ds m
def dIfS (c : DT) (t u : DTS) : DTS := fun E ds ms => c ds ms fun b m => if b = true then t E ds m else u E ds m
def dNever : DTS := fun _ _ _ => False
section
variable {X : Cx} {K : PySem.W.Frag} {da db dc : DE} {a b c e : Expr} {es : List Expr} {pos : Pos} {aa : DA} {st : Stmt} {rest : List Stmt} {t u : DTS} {dt : DT}
theorem pds_nil : PDSs X [] dNext := pssImp pss_nil fun D σ H ⟨F, ds, ms, E, R, S, h, n, r, k, q⟩ => n ds ms σ F H h R Stp.refl S
theorem lift_seq : ∀ D σ H, liftS K (dSeq t u) D σ H → tSeq (liftS K t) (liftS K u) D σ H := fun D σ H ⟨F, ds, ms, E, R, S, h, n, r, k, q⟩ =>
  ⟨F, ds, ms, { E with nx := u E }, R, S, h, fun ds1 m1 σ1 F1 H1 h1 R1 s1 S1 => ⟨F1, ds1, m1, E, R1, S1, h1,
    fun ds2 m2 σ2 F2 H2 h2 R2 s2 S2 => n ds2 m2 σ2 F2 H2 h2 R2 (s1.trans s2) S2, fun d m2 v F2 H2 h2 R2 s2 r2 => r d m2 v F2 H2 h2 R2 (s1.trans s2) r2,
    fun ds2 m2 σ2 F2 H2 h2 R2 s2 S2 => k ds2 m2 σ2 F2 H2 h2 R2 (s1.trans s2) S2, fun ds2 m2 σ2 F2 H2 h2 R2 s2 S2 => q ds2 m2 σ2 F2 H2 h2 R2 (s1.trans s2) S2⟩, r, k, q⟩
theorem pds_cons (h1 : PDS X st t) (h2 : PDSs X rest u) : PDSs X (st :: rest) (dSeq t u) := pssImp (pss_cons h1 h2) lift_seq
theorem pds_one (h1 : PDS X st t) : PDSs X [st] t := pss_one h1
theorem pds_never : PDS X st dNever := psImp ps_never fun D σ H ⟨F, ds, ms, E, R, S, h, n, r, k, q⟩ => h
theorem pds_expr (he : PD X e da) (hs : swapsWith e none pos.line X.env = pure false := by rfl) : PDS X (.Expr e pos) (dDrop da) := psImp (ps_expr he hs) fun D σ H ⟨F, ds, ms, E, R, S, h, n, r, k, q⟩ =>
  ⟨F, ds, ms, _, R, S, h, fun d m v F1 H1 p1 R1 s1 r1 => n ds m σ F1 H1 p1 R1 s1 (S.mono s1.sub)⟩
theorem pds_ret (he : PD X e da) : PDS X (.Return (some e) pos) (dRet da) := psImp (ps_ret he) fun D σ H ⟨F, ds, ms, E, R, S, h, n, r, k, q⟩ =>
  ⟨F, ds, ms, _, R, S, h, fun d m v F1 H1 p1 R1 s1 r1 => r d m v F1 H1 p1 R1 s1 r1⟩
theorem pds_if {x y : List Stmt} (hc : PDT X c dt) (ha : PDSs X x t) (hb : PDSs X y u) : PDS X (.If c x y pos) (dIfS dt t u) := psImp (ps_if hc ha hb) fun D σ H ⟨F, ds, ms, E, R, S, h, n, r, k, q⟩ =>
  ⟨F, ds, ms, _, R, S, h, fun b m F1 H1 p1 R1 s1 => by
    have mk : ∀ {w : DTS}, w E ds m → liftS X.K w D σ H1 := fun {w} hw => ⟨F1, ds, m, E, R1, S.mono s1.sub, hw,
      fun ds2 m2 σ2 F2 H2 h2 R2 s2 S2 => n ds2 m2 σ2 F2 H2 h2 R2 (s1.trans s2) S2, fun d m2 v F2 H2 h2 R2 s2 r2 => r d m2 v F2 H2 h2 R2 (s1.trans s2) r2,
      fun ds2 m2 σ2 F2 H2 h2 R2 s2 S2 => k ds2 m2 σ2 F2 H2 h2 R2 (s1.trans s2) S2, fun ds2 m2 σ2 F2 H2 h2 R2 s2 S2 => q ds2 m2 σ2 F2 H2 h2 R2 (s1.trans s2) S2⟩
    cases b with
    | true => rw [if_pos rfl] at p1; exact iteT (mk p1)
    | false => rw [if_neg Bool.false_ne_true] at p1; exact iteF (mk p1)⟩
abbrev DG := D → DS → (DS → Prop) → Prop
abbrev DGs := List D → DS → (DS → Prop) → Prop
structure TgD (K : PySem.W.Frag) (g : TG) (dg : DG) (vs : List Nat) : Prop where
  snd : ∀ (v : V) (σ : L2.St) (F H : Hp) (Q : L2.St → Hp → Prop) (d : D) (ds : DS) (P : DS → Prop), Sub F H → Sl K F σ ds → DR K F v d → dg d ds P → (∀ ds' σ', P ds' → Sl K F σ' ds' → Q σ' H) → g v σ H Q
  wip : ∀ (v : V) (σ : L2.St) (H : Hp) (Q : L2.St → Hp → Prop), g v σ H Q → g v σ H fun σ2 H2 => wipe σ2 vs = wipe σ vs ∧ Q σ2 H2
structure TgsD (K : PySem.W.Frag) (g : TGs) (dg : DGs) (vs : List Nat) : Prop where
  snd : ∀ (xs : List V) (σ : L2.St) (F H : Hp) (Q : L2.St → Hp → Prop) (d : List D) (ds : DS) (P : DS → Prop), Sub F H → Sl K F σ ds → DRs K F xs d → dg d ds P → (∀ ds' σ', P ds' → Sl K F σ' ds' → Q σ' H) → g xs σ H Q
  wip : ∀ (v : List V) (σ : L2.St) (H : Hp) (Q : L2.St → Hp → Prop), g v σ H Q → g v σ H fun σ2 H2 => wipe σ2 vs = wipe σ vs ∧ Q σ2 H2
def sName (i : Nat) : DG := fun d ds P => P (setSlot ds i d)
def sNil : DGs := fun xs ds P => match xs with
  | [] => P ds
  | _ => False
def sCons (g : DG) (gs : DGs) : DGs := fun xs ds P => match xs with
  | x :: r => g x ds fun ds1 => gs r ds1 P
  | [] => False
def sTup (n : Nat) (gs : DGs) : DG := fun d ds P => match d with
  | .tup xs => xs.length = n ∧ gs xs ds P
  | _ => False
theorem wipe_set {σ : L2.St} {o : Option V} {i : Nat} : ∀ {vs : List Nat}, i ∈ vs → wipe (σ.set i o) vs = wipe σ vs
  | [], h => absurd h (by simp)
  | v :: vs, h => by
    show (wipe (σ.set i o) vs).set v none = (wipe σ vs).set v none
    by_cases hv : i = v
    · subst hv
      have key : ∀ (ws : List Nat), (wipe (σ.set i o) ws).set i none = (wipe σ ws).set i none := by
        intro ws
        induction ws with
        | nil => show (σ.set i o).set i none = σ.set i none; rw [List.set_set]
        | cons w ws ih =>
          show ((wipe (σ.set i o) ws).set w none).set i none = ((wipe σ ws).set w none).set i none
          by_cases hw : w = i
          · subst hw; rw [List.set_set, List.set_set, ih]
          · rw [List.set_comm _ _ hw, List.set_comm _ _ hw, ih]
      exact key vs
    · rw [wipe_set ((List.mem_cons.mp h).resolve_left hv)]
theorem tg_name {i : Nat} {vs : List Nat} (h : i ∈ vs) : TgD K (gName i) (sName i) vs :=
  ⟨fun v σ F H Q d ds P sb S r hp q => q _ _ hp (S.set r i), fun v σ H Q h1 => ⟨wipe_set h, h1⟩⟩
theorem tgs_nil {vs : List Nat} : TgsD K gNil sNil vs :=
  ⟨fun xs σ F H Q d ds P sb S r hp q => by
    cases r with
    | nil => exact ⟨rfl, q _ _ hp S⟩
    | cons _ _ => exact hp.elim, fun v σ H Q h1 => ⟨h1.1, rfl, h1.2⟩⟩
theorem tgs_cons {g : TG} {gs : TGs} {dg : DG} {dgs : DGs} {vs : List Nat} (h : TgD K g dg vs) (hs : TgsD K gs dgs vs)
    (mg : ∀ v σ H (Q Q' : L2.St → Hp → Prop), (∀ s h, Q s h → Q' s h) → g v σ H Q → g v σ H Q') : TgsD K (gCons g gs) (sCons dg dgs) vs := by
  refine ⟨fun xs σ F H Q d ds P sb S r hp q => ?_, fun v σ H Q h1 => ?_⟩
  · cases r with
    | nil => exact hp.elim
    | cons r rs => exact ⟨_, _, rfl, h.snd _ _ F H _ _ _ _ sb S r hp fun ds1 σ1 h1 S1 => hs.snd _ _ F H _ _ _ _ sb S1 rs h1 q⟩
  · obtain ⟨x, r, e, h2⟩ := h1
    refine ⟨x, r, e, mg _ _ _ _ _ (fun σ1 H1 z => ?_) (h.wip _ _ _ _ h2)⟩
    obtain ⟨z1, z2⟩ := z
    have z3 := hs.wip _ _ _ _ z2
    rw [z1] at z3
    exact z3
theorem tg_tup {gs : TGs} {dgs : DGs} {vs : List Nat} {n : Nat} (hs : TgsD K gs dgs vs) : TgD K (gTup K n gs) (sTup n dgs) vs := by
  refine ⟨fun v σ F H Q d ds P sb S r hp q => ?_, fun v σ H Q h1 => ?_⟩
  · cases r with
    | tup h rs => exact ⟨_, _, rfl, sb.sqT h, by rw [rs.length]; exact hp.1, hs.snd _ _ F H _ _ _ _ sb S rs hp.2 q⟩
    | _ => exact hp.elim
  · obtain ⟨a, xs, e, h2, h3, h4⟩ := h1
    exact ⟨a, xs, e, h2, h3, hs.wip _ _ _ _ h4⟩
def MonG (g : TG) : Prop := ∀ v σ H (Q Q' : L2.St → Hp → Prop), (∀ s h, Q s h → Q' s h) → g v σ H Q → g v σ H Q'
def MonGs (g : TGs) : Prop := ∀ v σ H (Q Q' : L2.St → Hp → Prop), (∀ s h, Q s h → Q' s h) → g v σ H Q → g v σ H Q'
theorem mon_name {i : Nat} : MonG (gName i) := fun v σ H Q Q' h q => h _ _ q
theorem mon_nil : MonGs gNil := fun v σ H Q Q' h q => ⟨q.1, h _ _ q.2⟩
theorem mon_cons {g : TG} {gs : TGs} (a : MonG g) (b : MonGs gs) : MonGs (gCons g gs) := fun v σ H Q Q' h q =>
  let ⟨x, r, e, z⟩ := q; ⟨x, r, e, a _ _ _ _ _ (fun s hh z => b _ _ _ _ _ h z) z⟩
theorem mon_tup {gs : TGs} {n : Nat} (b : MonGs gs) : MonG (gTup K n gs) := fun v σ H Q Q' h q =>
  let ⟨a, xs, e, h2, h3, h4⟩ := q; ⟨a, xs, e, h2, h3, b _ _ _ _ _ h h4⟩
def dAsg (de : DE) (g : DG) : DTS := fun E ds ms => de ds ms fun d m => g d ds fun ds1 => E.nx ds1 m
theorem lift_asg {g : TG} {dg : DG} {vs : List Nat} (hg : TgD K g dg vs) : ∀ D σ H, liftS K (dAsg da dg) D σ H → tAsg (lift K da) g D σ H := fun D σ H ⟨F, ds, ms, E, R, S, h, n, r, k, q⟩ =>
  ⟨F, ds, ms, _, R, S, h, fun d m v F1 H1 p1 R1 s1 r1 => hg.snd v σ F1 H1 _ d ds _ R1.sub (S.mono s1.sub) r1 p1 fun ds1 σ1 h1 S1 => n ds1 m σ1 F1 H1 h1 R1 s1 S1⟩
theorem pds_set {i : Nat} {x : Str} {pos' : Pos} (hN : X.N.Nodup) (hi : X.N[i]? = some x) (hx : Loc X.env.scope x) (he : PD X e da) (hs : swapsWith e (some (.Name x pos')) pos.line X.env = pure false := by rfl)
    (hf : X.fn x = true ∨ X.env.scope.names.lookup x = some .local := by first | exact .inl rfl | exact .inr rfl | assumption) : PDS X (.Assign [.Name x pos'] e pos) (dAsg da (sName i)) :=
  psImp (ps_set hN hi hx he hs hf) (lift_asg (vs := [i]) (tg_name (by simp)))
theorem pds_asg {tg : Expr} {g : TG} {dg : DG} {vs : List Nat} (he : PD X e da) (hg : PG X tg g) (hd : TgD X.K g dg vs) (hs : swapsWithSole [tg] e pos.line X.env = pure false := by rfl) (hw : swappedStores [tg] e X.env = pure none := by rfl)
    (h1 : (assignEach [tg] X.env).map (·.2) = [assign tg X.env] := by rfl) : PDS X (.Assign [tg] e pos) (dAsg da dg) :=
  psImp (ps_asg he hg hs hw h1) (lift_asg hd)
/-- a, b = x, y with plain local names -/
def dPar (i j : Nat) (aa : DA) : DTS := fun E ds ms => aa ds ms fun xs m => match xs with
  | [x, y] => E.nx (setSlot (setSlot ds i x) j y) m
  | _ => False
theorem pds_par {i j : Nat} {x y : Str} {px py pt : Pos} {kt k2 pt2} (hc : X.calm = true) (hN : X.N.Nodup) (hi : X.N[i]? = some x) (hj : X.N[j]? = some y) (hij : i ≠ j)
    (hx : X.env.scope.names.lookup x = some .local) (hy : X.env.scope.names.lookup y = some .local) (ha : PDA X [a, b] aa)
    (hw : swappedStores [.Tuple [.Name x px, .Name y py] kt pt] (.Tuple [a, b] k2 pt2) X.env = pure (some [x, y]))
    (hs : swapsWithSole [.Tuple [.Name x px, .Name y py] kt pt] (.Tuple [a, b] k2 pt2) pos.line X.env = pure false := by rfl) :
    PDS X (.Assign [.Tuple [.Name x px, .Name y py] kt pt] (.Tuple [a, b] k2 pt2) pos) (dPar i j aa) :=
  psImp (ps_par hc hN hi hj hij hx hy ha hw hs) fun D σ H ⟨F, ds, ms, E, R, S, h, n, r, k, q⟩ =>
    ⟨F, ds, ms, _, R, S, h, fun xs m vs F1 H1 p1 R1 s1 r1 => by
      match xs, r1, p1 with
      | [x, y], .cons (v := v) rx (.cons (v := w) ry .nil), p1 => exact ⟨v, w, rfl, n _ m _ F1 H1 p1 R1 s1 (((S.mono s1.sub).set rx i).set ry j)⟩⟩
end
end DL
namespace DL
open PySem PySem.Spec PyProof.Rows L2
structure RoomG (k : Nat) (A : Around) : Prop where
  r : Room k A
  g : A.guards = some []
theorem RoomG.mono {j k : Nat} {A : Around} (r : RoomG k A) (h : j ≤ k) : RoomG j A := ⟨r.r.mono h, r.g⟩
structure FnG (P : Program) (w : World) (K : PySem.W.Frag) (mg : Str → Option Value) (base : Heap) (k : Nat) (f : Addr) (fd : FuncData) (ps : List Str) (sp : Sp) : Prop where
  len : ∀ vs H Q E, sp vs H Q E → vs.length = ps.length
  go : ∀ (A : Around) (outer : List Env) (s : Shared) (H : Hp) (args : Args) (us : List Value) (vs : List V) (Q : VK), RoomG k A → Env0 P w K mg base A outer s H →
    BindsTo s fd args (ps.zip us) → Vals vs us → sp vs H Q E0 → codeAny (model P w) A (.call (.ref f) args) (CR CX0 outer P w H s Q E0) s
/-- which values go to the parameters: by their places among the positional ones and then the keywords -/
def pick {α : Type} (is : List Nat) (xs : List α) : List α := is.filterMap fun i => xs[i]?
theorem pick_vals {vs : List V} {us : List Value} (r : Vals vs us) : ∀ is : List Nat, Vals (pick is vs) (pick is us)
  | [] => .nil
  | i :: is => by
    unfold pick
    rw [List.filterMap_cons, List.filterMap_cons]
    cases e : vs[i]? with
    | none => rw [r.none_of e]; exact pick_vals r is
    | some v =>
      obtain ⟨u, h1, h2⟩ := r.get e
      rw [h1]
      exact .cons h2 (pick_vals r is)
theorem pick_drs {K : PySem.W.Frag} {F : Hp} {vs : List V} {xs : List D} (r : DRs K F vs xs) : ∀ is : List Nat, DRs K F (pick is vs) (pick is xs)
  | [] => .nil
  | i :: is => by
    unfold pick
    rw [List.filterMap_cons, List.filterMap_cons]
    cases e : vs[i]? with
    | none =>
      have h : xs[i]? = none := by
        have h1 := r.length
        have h2 := List.getElem?_eq_none_iff.mp e
        exact List.getElem?_eq_none_iff.mpr (by omega)
      rw [h]; exact pick_drs r is
    | some v =>
      obtain ⟨u, h1, h2⟩ := r.getV e
      rw [h1]
      exact .cons h2 (pick_drs r is)
structure Bnd (K : PySem.W.Frag) (fd : FuncData) (ps : List Str) (n : Nat) (ks : List Str) (is : List Nat) : Prop where
  to : ∀ (s : Shared) (us ws : List Value), K.In s.heap → us.length = n → ws.length = ks.length → BindsTo s fd ⟨us, ks.zip ws⟩ (ps.zip (pick is (us ++ ws)))
abbrev FS := List D → MS → (D → MS → Prop) → Prop
def spD (K : PySem.W.Frag) (fs : FS) : Sp := fun vs H Q _ => ∃ F ds ms P, Rel K F H ms ∧ DRs K F vs ds ∧ fs ds ms P ∧
  ∀ d ms' v F' H', P d ms' → Rel K F' H' ms' → Stp F H ms F' H' ms' → DR K F' v d → Q v H'
section
variable {X : Cx} {k n : Nat} {f : Addr} {fd : FuncData} {ps ks : List Str} {is : List Nat} {sp : Sp} {fs : FS} {x : Str} {p pos kpos : Pos} {e : Expr} {es : List Expr} {kws : List Keyword} {aa ak : DA} {da : DE} {nm : Option Str}
theorem run_g {pins : List (Addr × Obj)} {σ : L2.St} {H : Hp} {s : Shared} {Q : VK} {us ws : List Value} {vs zs : List V} (F : FnG X.prog X.w X.K X.mg X.base k f fd ps sp) (hr : RoomG k X.A) (hb : Bnd X.K fd ps n ks is)
    (I : Inv X pins σ H s) (r : Vals vs us) (rz : Vals zs ws) (l1 : vs.length = n) (l2 : zs.length = ks.length) (h : sp (pick is (vs ++ zs)) H Q E0) :
    wpAny (model X.prog X.w) X.A (call (.ref f) us (ks.zip ws)) (EP X pins σ Q) X.xe s := by
  have hb' := hb.to s us ws I.kIn (r.length ▸ l1) (rz.length ▸ l2)
  have hg := F.go X.A X.stack s H ⟨us, ks.zip ws⟩ _ _ Q hr I.env0 hb' (pick_vals (r.append rz) is) h
  refine wpAny_call (codeAny_mono hg fun r s' hq => ?_)
  match r, hq with
  | .error _, hq => exact hq.elim
  | .ok (.ret u), hq => exact I.after hq
  | .ok .next, hq => exact False.elim hq
  | .ok .brk, hq => exact False.elim hq
  | .ok .cont, hq => exact False.elim hq
/-- f(..): n positional ones, the others by keywords -/
def dCall (n : Nat) (m : Nat) (is : List Nat) (fs : FS) (aa ak : DA) : DE := fun ds ms P => aa ds ms fun xs m1 => ak ds m1 fun zs m2 => xs.length = n ∧ zs.length = m ∧ fs (pick is (xs ++ zs)) m2 P
def tCallG (n m : Nat) (is : List Nat) (sp : Sp) (t tk : TA) : TE := fun σ H Q => t σ H fun vs H1 => tk σ H1 fun zs H2 => vs.length = n ∧ zs.length = m ∧ sp (pick is (vs ++ zs)) H2 Q E0
theorem lift_call {K : PySem.W.Frag} {m : Nat} : ∀ σ H Q, lift K (dCall n m is fs aa ak) σ H Q → tCallG n m is (spD K fs) (liftA K aa) (liftA K ak) σ H Q := fun σ H Q ⟨F, ds, ms, P, R, S, h1, h2⟩ =>
  ⟨F, ds, ms, _, R, S, h1, fun xs m1 vs F1 H1 p1 R1 s1 r1 => ⟨F1, ds, m1, _, R1, S.mono s1.sub, p1, fun zs m2 ws F2 H2 p2 R2 s2 r2 => by
    obtain ⟨l1, l2, p2⟩ := p2
    refine ⟨r1.length.trans l1, r2.length.trans l2, F2, _, m2, P, R2, pick_drs ((r1.mono s2.sub).append r2) is, p2, fun d m3 v F3 H3 p3 R3 s3 r3 => ?_⟩
    exact h2 d m3 v F3 H3 p3 R3 (s1.trans (s2.trans s3)) r3⟩⟩
theorem pd_call (F : FnG X.prog X.w X.K X.mg X.base k f fd ps (spD X.K fs)) (hr : RoomG k X.A) (hg : Gl X x) (hm : X.mg x = some (.ref f)) (hk : PySem.W.keepIn X.K (.ref f) = true) (hb : Bnd X.K fd ps n [] is)
    (ha : PDA X (e :: es) aa) (hdb : (x == ("__debug__" : Str)) = false := by decide)
    (he : starEach (e :: es) X.env = (false, eval e X.env) :: starEach es X.env := by rfl)
    (hpl : (backTo pos (starEach es X.env)).any (·.1) = false := by rfl) :
    PD X (.Call (.Name x p) (e :: es) [] pos) (dCall n 0 is fs aa aNil) := by
  refine peImp (t := tCallG n 0 is (spD X.K fs) (liftA X.K aa) (liftA X.K aNil)) ⟨fun pins s σ H Q I h => ?_⟩ lift_call
  have h' : liftA X.K aa σ H (fun vs H1 => vs.length = n ∧ spD X.K fs (pick is (vs ++ [])) H1 Q E0) := by
    obtain ⟨F0, ds, ms, P, R, S, h1, h2⟩ := h
    refine ⟨F0, ds, ms, P, R, S, h1, fun xs m v F1 H1 p1 R1 s1 r1 => ?_⟩
    obtain ⟨F2, ds2, m2, P2, R2, S2, p2, q2⟩ := h2 xs m v F1 H1 p1 R1 s1 r1
    obtain ⟨l1, l2, z⟩ := q2 [] m2 [] F2 H1 p2 R2 Stp.refl .nil
    exact ⟨l1, z⟩
  refine wpAny_Call_Name_kw (ld_glob I hg hm ?_ hdb)
  refine PySem.W.callWith_K (h₀ := X.base) I.ok.mod.kin hk (thn (ha.run pos pins s σ H _ I h') ?_) he hpl
  rintro us s1 ⟨vs, H1, I1, r, l, q⟩
  exact ⟨I1.kIn, run_g (ws := []) (ks := []) F hr hb I1 r .nil l rfl q⟩
end
def startD : Nat → List D → DS
  | 0, _ => []
  | n + 1, [] => none :: startD n []
  | n + 1, d :: r => some d :: startD n r
theorem sl_start {K : PySem.W.Frag} {F : Hp} {N : List Str} {vs : List V} {ds : List D} (r : DRs K F vs ds) (hl : vs.length ≤ N.length) : Sl K F (L2.start N vs) (startD N.length ds) := by
  unfold L2.start
  have hrep : ∀ m : Nat, Sl K F (List.replicate m none) (startD m []) := fun m => by
    induction m with
    | zero => exact .nil
    | succ m ih => exact .nn ih
  have go : ∀ {vs : List V} {ds : List D} (m : Nat), DRs K F vs ds → vs.length ≤ m → Sl K F (vs.map some ++ List.replicate (m - vs.length) none) (startD m ds) := by
    intro vs
    induction vs with
    | nil => intro ds m r _; cases r; exact hrep m
    | cons v vs ih =>
      intro ds m r hm
      cases r with
      | cons r1 r2 =>
        cases m with
        | zero => simp at hm
        | succ m =>
          have e : m + 1 - (v :: vs).length = m - vs.length := by rw [List.length_cons]; omega
          rw [e]
          exact .sm r1 (ih m r2 (by rw [List.length_cons] at hm; omega))
  exact go _ r hl
theorem fnG_of {P : Program} {w : World} {K : PySem.W.Frag} {mg : Str → Option Value} {base : Heap} {k : Nat} {f : Addr} {fd : FuncData} {x qual : Str} {st : Stmt} {N ps : List Str} {fs : FS} {t : DTS}
    (F : Fun K x qual st f fd) (S : FnScope N ps (defScope st)) (len : ∀ ds ms Q, fs ds ms Q → ds.length = ps.length)
    (body : ∀ (cdv : Value) (A : Around) (outer : List Env) (s : Shared) (H : Hp), RoomG k (A.deeper (envOfC qual (defScope st) s.heap.objs.size f cdv)) →
      PDSs (cxOf CX0 P w K mg base N qual (defScope st) f cdv A outer s H E0).nox (defBody st) t)
    (sem : ∀ ds ms Q, fs ds ms Q → t { nx := fun _ m => Q .non m, rt := Q } (startD N.length ds) ms) : FnG P w K mg base (k + 1) f fd ps (spD K fs) := by
  have hlen : ∀ vs H Q E, spD K fs vs H Q E → vs.length = ps.length := by
    rintro vs H Q E ⟨F0, ds, ms, P0, R, r, h, _⟩
    rw [r.length]
    exact len ds ms P0 h
  refine ⟨hlen, ?_⟩
  intro A outer s H args us vs Q hr e0 hb r hsp
  obtain ⟨oc, od, kV, doc, pm, an, cdv, ct, osl, rfl, lk, hcd⟩ := F.ex
  have hl := hlen _ _ _ _ hsp
  have KX : K.In s.heap := e0.mod.kin.keeps fun b o e => (e0.bs b o e).1
  have lim : s.heap.NoLimit := e0.mod.nolimit.keeps fun b o e => (e0.bs b o e).1
  have hkind : ∀ y ∈ ps.zip us, (defScope st).names.lookup y.1 = some .local ∨ ((defScope st).names.lookup y.1 = some .cell ∧
      ((cellsFrom (s.heap.objs.size + 1) (defScope st).names []).lookup y.1).isSome = true) := by
    rintro ⟨n, v⟩ hy
    exact (S.par n (List.of_mem_zip hy).1).imp id fun q => ⟨q, PySem.W.cellsFrom_some _ _ _ (.inl q)⟩
  have hr2 : RoomG k (A.deeper (envOfC qual (defScope st) s.heap.objs.size f cdv)) := ⟨hr.r.deeper _, hr.g⟩
  refine codeAny_call_function hr.r.depth (KX _ _ lk) rfl S.co S.gen rfl (PySem.W.codeRec_of KX hcd) (hb _ _ _ _ ?_)
  refine wpAny_newFunctionEnv_cells S.kind hkind fun env he s1 x1 => ?_
  subst he
  refine ⟨lim.keeps x1.toInCall.keep, codeAny_func ?_⟩
  have I : Inv (cxOf CX0 P w K mg base N qual (defScope st) f cdv A outer s H E0) [] (L2.start N vs) H s1 := inv_start S hr.r.hd e0 hl r x1
  have hq : liftS K t { nx := fun _ H' => Q .non H', rt := Q } (L2.start N vs) H := by
    obtain ⟨F0, ds, ms, P0, R, rd, h, q⟩ := hsp
    refine ⟨F0, startD N.length ds, ms, _, R, sl_start rd (by rw [hl, ← S.pre]; exact List.length_take_le' _ _), sem ds ms P0 h, ?_, ?_, ?_, ?_⟩
    · exact fun ds' ms' σ' F' H' z R' s' S' => q .non ms' .non F' H' z R' s' .non
    · exact fun d ms' v F' H' z R' s' r' => q d ms' v F' H' z R' s' r'
    · exact fun _ _ _ _ _ z _ _ _ => z.elim
    · exact fun _ _ _ _ _ z _ _ _ => z.elim
  have hrun := ((body cdv A outer s H hr2).nox).run [] s1 (L2.start N vs) H _ I hq
  refine wpAny_mono hrun (fun fl s' hs => ?_) fun e s' hs => hs
  match fl, hs with
  | .ret u, hs =>
    obtain ⟨v, σ', H', J, rv, q⟩ := hs
    exact ⟨v, H', J.os, J.bare, J.base, J.hok, rv, q⟩
  | .next, hs =>
    obtain ⟨σ', H', J, q⟩ := hs
    exact ⟨V.non, H', J.os, J.bare, J.base, J.hok, rfl, q⟩
  | .brk, hs => obtain ⟨_, _, _, q⟩ := hs; exact False.elim q
  | .cont, hs => obtain ⟨_, _, _, q⟩ := hs; exact False.elim q
end DL
namespace DL
open PySem PySem.Spec PyProof.Rows L2
abbrev DI := DS → MS → (List D → MS → Prop) → Prop
def YD (K : PySem.W.Frag) (F : Hp) (xs : List D) : Nat → Hp → V → Hp → Prop := fun i H x H' => ∃ d, xs[i]? = some d ∧
  ((H' = H ∧ DR K F x d) ∨ ∃ T a b da db, x = .ref T ∧ H T = none ∧ H' = upd H T (.tup [a, b]) ∧ d = .tup [da, db] ∧ DR K F a da ∧ DR K F b db)
abbrev ItD (K : PySem.W.Frag) (J : It) (xs : List D) (F : Hp) : Prop := Walk J xs.length (fun H => Sub F H) (YD K F xs)
def liftI (K : PySem.W.Frag) (di : DI) : TI := fun σ H R => ∃ F ds ms P, Rel K F H ms ∧ Sl K F σ ds ∧ di ds ms P ∧
  ∀ xs ms' F' H' J, P xs ms' → Rel K F' H' ms' → Stp F H ms F' H' ms' → ItD K J xs F' → R J H'
abbrev PDI (X : Cx) (tg e : Expr) (di : DI) : Prop := PI X tg e (liftI X.K di)
theorem piImp {X : Cx} {tg e : Expr} {t t' : TI} (h : PI X tg e t) (hi : ∀ σ H R, t' σ H R → t σ H R) : PI X tg e t' := ⟨fun pins s σ H R I hq => h.run pins s σ H R I (hi σ H R hq)⟩
theorem itd_list {K : PySem.W.Frag} {F : Hp} {a : Addr} {vs : List V} {xs : List D} (h : SqL K F a vs) (r : DRs K F vs xs) : ItD K (Itl K a) xs F := by
  unfold ItD
  rw [← r.length]
  refine (walk_list (K := K) (a := a) (xs := vs)).mono (fun H s => s.sqL h) fun i H x H' hi s y => ?_
  obtain ⟨d, h1, h2⟩ := r.getV y.2
  exact ⟨d, h1, .inl ⟨y.1, h2⟩⟩
theorem itd_tup {K : PySem.W.Frag} {F : Hp} {a : Addr} {vs : List V} {xs : List D} (h : SqT K F a vs) (r : DRs K F vs xs) : ItD K (Itt K a) xs F := by
  unfold ItD
  rw [← r.length]
  refine (walk_tup (K := K) (a := a) (xs := vs)).mono (fun H s => s.sqT h) fun i H x H' hi s y => ?_
  obtain ⟨d, h1, h2⟩ := r.getV y.2
  exact ⟨d, h1, .inl ⟨y.1, h2⟩⟩
/-- lo, lo + 1, .. -/
def rng (lo : Int) (n : Nat) : List D := (List.range n).map fun i => D.int (lo + (i : Nat))
theorem itd_range {K : PySem.W.Frag} {F : Hp} {lo : Int} {n : Nat} : ItD K (Itr lo n) (rng lo n) F := by
  unfold ItD
  have e : (rng lo n).length = n := by unfold rng; simp
  rw [e]
  refine (walk_range (lo := lo) (n := n)).mono (fun H s => trivial) fun i H x H' hi s y => ?_
  refine ⟨.int (lo + (i : Nat)), ?_, .inl ⟨y.1, by rw [y.2]; exact .int _⟩⟩
  unfold rng
  rw [List.getElem?_map, List.getElem?_range hi]; rfl
def rngC (lo c : Int) (n : Nat) : List D := (List.range n).map fun i => D.int (lo + (i : Nat) * c)
def zipD (xs ys : List D) : List D := List.zipWith (fun x y => D.tup [x, y]) xs ys
theorem itd_zip {K : PySem.W.Frag} {F : Hp} {a b : Addr} {vs ws : List V} {xs ys : List D} (h : SqL K F a vs) (r : DRs K F vs xs) (h2 : SqL K F b ws) (r2 : DRs K F ws ys) : ItD K (Itz K a b) (zipD xs ys) F := by
  unfold ItD
  have e : (zipD xs ys).length = min vs.length ws.length := by unfold zipD; rw [List.length_zipWith, r.length, r2.length]
  rw [e]
  refine (walk_zip (K := K) (a := a) (b := b) (xs := vs) (ys := ws) rfl).mono (fun H s => ⟨s.sqL h, s.sqL h2⟩) fun i H x H' hi s y => ?_
  obtain ⟨T, u, w, e1, e2, e3, e4, e5⟩ := y
  obtain ⟨d, z1, z2⟩ := r.getV e4
  obtain ⟨d', z3, z4⟩ := r2.getV e5
  refine ⟨.tup [d, d'], ?_, .inr ⟨T, u, w, d, d', e1, e2, e3, rfl, z2, z4⟩⟩
  unfold zipD
  rw [List.getElem?_zipWith, z1, z3]
def enumD (xs : List D) : List D := List.zipWith (fun x y => D.tup [x, y]) (rng 0 xs.length) xs
theorem itd_enum {K : PySem.W.Frag} {F : Hp} {a : Addr} {vs : List V} {xs : List D} (h : SqL K F a vs) (r : DRs K F vs xs) : ItD K (Ite K a) (enumD xs) F := by
  unfold ItD
  have e : (enumD xs).length = vs.length := by unfold enumD rng; rw [List.length_zipWith, List.length_map, List.length_range, r.length]; simp
  rw [e]
  refine (walk_enum (K := K) (a := a) (xs := vs)).mono (fun H s => s.sqL h) fun i H x H' hi s y => ?_
  obtain ⟨T, u, w, e1, e2, e3, e4, e5⟩ := y
  obtain ⟨d, z1, z2⟩ := r.getV e5
  have e4' : u = .int (i : Nat) := (Option.some.inj e4).symm
  subst e4'
  refine ⟨.tup [.int (i : Nat), d], ?_, .inr ⟨T, _, w, _, d, e1, e2, e3, rfl, .int _, z2⟩⟩
  unfold enumD rng
  rw [r.length] at hi
  rw [List.getElem?_zipWith, z1, List.getElem?_map, List.getElem?_range hi]
  simp
def strD (z : Str) : List D := z.cps.toList.map fun c => D.str ⟨#[c]⟩
theorem itd_str {K : PySem.W.Frag} {F : Hp} {z : Str} : ItD K (Its z) (strD z) F := by
  unfold ItD
  have e : (strD z).length = z.cps.size := by unfold strD; simp
  rw [e]
  refine (walk_str (z := z)).mono (fun H s => trivial) fun i H x H' hi s y => ?_
  obtain ⟨e1, c, e2, e3⟩ := y
  refine ⟨.str ⟨#[c]⟩, ?_, .inl ⟨e1, by rw [e3]; exact .str _⟩⟩
  unfold strD
  rw [List.getElem?_map, Array.getElem?_toList, e2]; rfl
/-- the items of what is a list here: known, or one that may change -/
def look : MS → Addr → Option (List D)
  | [], _ => none
  | (q, xs) :: r, p => if q = p then some xs else look r p
def asL (d : D) (ms : MS) : Option (List D) := match d with
  | .lst xs => some xs
  | .fro xs => some xs
  | .opq (.ref p) => look ms p
  | _ => none
theorem look_mem : ∀ {ms : MS} {p : Addr} {xs : List D}, look ms p = some xs → (p, xs) ∈ ms
  | [], _, _, h => by cases h
  | (q, ys) :: r, p, xs, h => by
    unfold look at h
    by_cases e : q = p
    · rw [if_pos e] at h; cases h; subst e; exact List.mem_cons_self
    · rw [if_neg e] at h; exact List.mem_cons_of_mem _ (look_mem h)
section
variable {K : PySem.W.Frag} {F H : Hp} {ms : MS}
theorem Rel.look (R : Rel K F H ms) {p : Addr} {xs : List D} (h : look ms p = some xs) : F p = none ∧ ∃ vs, H p = some (.lst vs) ∧ DRs K F vs xs := R.mu (p, xs) (look_mem h)
theorem Rel.asL (R : Rel K F H ms) {v : V} {d : D} {xs : List D} (r : DR K F v d) (h : asL d ms = some xs) : ∃ a vs, v = .ref a ∧ SqL K H a vs ∧ DRs K F vs xs := by
  cases r with
  | lst h1 h2 => cases h; exact ⟨_, _, rfl, SqL.of (R.sub _ _ h1), h2⟩
  | fro h1 h2 => cases h; exact ⟨_, _, rfl, R.sub.sqL h1, h2⟩
  | opq v =>
    cases v with
    | ref p =>
      obtain ⟨_, vs, h1, h2⟩ := R.look h
      exact ⟨p, vs, rfl, SqL.of h1, h2⟩
    | _ => cases h
  | _ => cases h
end
section
variable {X : Cx} {tg e e2 : Expr} {da db : DE} {aa : DA} {p pos tpos : Pos} {elts : List Expr} {kk : Nat}
/-- a list, a tuple, a text that are known -/
def iSeq (de : DE) : DI := fun ds ms P => de ds ms fun d m => match d with
  | .lst xs => P xs m
  | .fro xs => P xs m
  | _ => False
def iTupD (de : DE) : DI := fun ds ms P => de ds ms fun d m => match d with
  | .tup xs => P xs m
  | _ => False
def iStrD (de : DE) : DI := fun ds ms P => de ds ms fun d m => match d with
  | .str z => P (strD z) m
  | _ => False
theorem pdi_list (h : PD X e da) : PDI X tg e (iSeq da) := piImp (pi_list h) fun σ H R ⟨F, ds, ms, P, Rl, S, h1, h2⟩ =>
  ⟨F, ds, ms, _, Rl, S, h1, fun d m v F1 H1 p1 R1 s1 r1 => by
    cases r1 with
    | lst ha hs => exact ⟨_, rfl, ⟨_, SqL.of (R1.sub _ _ ha)⟩, h2 _ m F1 H1 _ p1 R1 s1 (itd_list (SqL.of ha) hs)⟩
    | fro ha hs => exact ⟨_, rfl, ⟨_, R1.sub.sqL ha⟩, h2 _ m F1 H1 _ p1 R1 s1 (itd_list ha hs)⟩
    | _ => exact p1.elim⟩
theorem pdi_tup (h : PD X e da) : PDI X tg e (iTupD da) := piImp (pi_tup h) fun σ H R ⟨F, ds, ms, P, Rl, S, h1, h2⟩ =>
  ⟨F, ds, ms, _, Rl, S, h1, fun d m v F1 H1 p1 R1 s1 r1 => by
    cases r1 with
    | tup ha hs => exact ⟨_, rfl, ⟨_, R1.sub.sqT ha⟩, h2 _ m F1 H1 _ p1 R1 s1 (itd_tup ha hs)⟩
    | _ => exact p1.elim⟩
theorem pdi_str (h : PD X e da) : PDI X tg e (iStrD da) := piImp (pi_str h) fun σ H R ⟨F, ds, ms, P, Rl, S, h1, h2⟩ =>
  ⟨F, ds, ms, _, Rl, S, h1, fun d m v F1 H1 p1 R1 s1 r1 => by
    cases r1 with
    | str z => exact ⟨z, rfl, h2 _ m F1 H1 _ p1 R1 s1 itd_str⟩
    | _ => exact p1.elim⟩
def iRange1 (aa : DA) : DI := fun ds ms P => aa ds ms fun xs m => match xs with
  | [.int j] => (-(2 ^ 62) ≤ j ∧ j < 2 ^ 62) ∧ P (rng 0 j.toNat) m
  | _ => False
def iRange2 (aa : DA) : DI := fun ds ms P => aa ds ms fun xs m => match xs with
  | [.int i, .int j] => (-(2 ^ 62) ≤ i ∧ i < 2 ^ 62 ∧ -(2 ^ 62) ≤ j ∧ j < 2 ^ 62) ∧ P (rng i (j - i).toNat) m
  | _ => False
def iRange3 (aa : DA) : DI := fun ds ms P => aa ds ms fun xs m => match xs with
  | [.int i, .int j, .int c] => ∃ n, RgC i j c n ∧ P (rngC i c n) m
  | _ => False
theorem pdi_range1 (hg : Gl X "range") (hm : X.mg "range" = none) (ha : PDA X [e] aa) (hs : starEach [e] X.env = [(false, eval e X.env)] := by rfl) : PDI X tg (.Call (.Name "range" p) [e] [] pos) (iRange1 aa) :=
  piImp (pi_range1 hg hm ha hs) fun σ H R ⟨F, ds, ms, P, Rl, S, h1, h2⟩ =>
    ⟨F, ds, ms, _, Rl, S, h1, fun xs m vs F1 H1 p1 R1 s1 r1 => by
      match xs, r1, p1 with
      | [.int j], .cons (.int _) .nil, p1 => exact ⟨j, rfl, p1.1.1, p1.1.2, h2 _ m F1 H1 _ p1.2 R1 s1 itd_range⟩⟩
def iZipD (aa : DA) : DI := fun ds ms P => aa ds ms fun xs m => match xs with
  | [.lst a, .lst b] => P (zipD a b) m
  | _ => False
theorem pdi_zip (hg : Gl X "zip") (hm : X.mg "zip" = none) (ha : PDA X [e, e2] aa)
    (hs : starEach [e, e2] X.env = (false, eval e X.env) :: starEach [e2] X.env := by rfl) (hpl : (backTo pos (starEach [e2] X.env)).any (·.1) = false := by rfl) :
    PDI X (.Tuple elts kk tpos) (.Call (.Name "zip" p) [e, e2] [] pos) (iZipD aa) :=
  piImp (pi_zip hg hm ha hs hpl) fun σ H R ⟨F, ds, ms, P, Rl, S, h1, h2⟩ =>
    ⟨F, ds, ms, _, Rl, S, h1, fun xs m vs F1 H1 p1 R1 s1 r1 => by
      match xs, r1, p1 with
      | [.lst a, .lst b], .cons (.lst ha hs) (.cons (.lst hb hs2) .nil), p1 =>
        exact ⟨_, _, _, _, rfl, SqL.of (R1.sub _ _ ha), SqL.of (R1.sub _ _ hb), h2 _ m F1 H1 _ p1 R1 s1 (itd_zip (SqL.of ha) hs (SqL.of hb) hs2)⟩⟩
def iEnumD (aa : DA) : DI := fun ds ms P => aa ds ms fun xs m => match xs with
  | [.lst a] => P (enumD a) m
  | _ => False
theorem pdi_enum (hg : Gl X "enumerate") (hm : X.mg "enumerate" = none) (ha : PDA X [e] aa) (hs : starEach [e] X.env = [(false, eval e X.env)] := by rfl) :
    PDI X (.Tuple elts kk tpos) (.Call (.Name "enumerate" p) [e] [] pos) (iEnumD aa) :=
  piImp (pi_enum hg hm ha hs) fun σ H R ⟨F, ds, ms, P, Rl, S, h1, h2⟩ =>
    ⟨F, ds, ms, _, Rl, S, h1, fun xs m vs F1 H1 p1 R1 s1 r1 => by
      match xs, r1, p1 with
      | [.lst a], .cons (.lst ha hs) .nil, p1 => exact ⟨_, _, rfl, SqL.of (R1.sub _ _ ha), h2 _ m F1 H1 _ p1 R1 s1 (itd_enum (SqL.of ha) hs)⟩⟩
end
def loopD (g : DG) (tb : DTS) (E : EN) : List D → DS → MS → Prop
  | [], ds, ms => E.nx ds ms
  | x :: r, ds, ms => g x ds fun ds1 => tb { E with nx := loopD g tb E r, ct := loopD g tb E r, bk := E.nx } ds1 ms
def dFor (di : DI) (g : DG) (tb : DTS) : DTS := fun E ds ms => di ds ms fun xs m => loopD g tb E xs ds m
section
variable {K : PySem.W.Frag} {di : DI} {dg : DG} {tb : DTS} {g : TG} {vs : List Nat}
theorem drop_get {xs : List D} {i : Nat} {d : D} (h : xs[i]? = some d) : xs.drop i = d :: xs.drop (i + 1) := by
  obtain ⟨hi, e⟩ := List.getElem?_eq_some_iff.mp h
  rw [List.drop_eq_getElem_cons hi, e]
theorem lift_for (hg : TgD K g dg vs) : ∀ D σ H, liftS K (dFor di dg tb) D σ H → tFor (liftI K di) g (liftS K tb) D σ H := fun D σ H ⟨F, ds, ms, E, R, S, h, n, r, k, q⟩ => by
  refine ⟨F, ds, ms, _, R, S, h, fun xs m F0 H0 J p0 R0 s0 wk => ?_⟩
  refine for_it wk (fun i σ1 H1 => ∃ F1 ds1 m1, Rel K F1 H1 m1 ∧ Stp F H ms F1 H1 m1 ∧ Sub F0 F1 ∧ Sl K F1 σ1 ds1 ∧ loopD dg tb E (xs.drop i) ds1 m1)
    ⟨F0, ds, m, R0, s0, Sub.refl F0, S.mono s0.sub, p0⟩ (fun i σ1 H1 _ ⟨F1, ds1, m1, R1, s1, s01, S1, h1⟩ => s01.trans R1.sub) ?_ ?_
  · rintro i x σ1 H1 H2 hi ⟨F1, ds1, m1, R1, s1, s01, S1, h1⟩ ⟨d, hd, hy⟩
    rw [drop_get hd] at h1
    have fin : ∀ {F2 : Hp} {x : V}, Rel K F2 H2 m1 → Stp F H ms F2 H2 m1 → Sub F1 F2 → DR K F2 x d →
        g x σ1 H2 fun σ2 H3 => liftS K tb { D with nx := fun σ1 H1 => ∃ F1 ds1 m1, Rel K F1 H1 m1 ∧ Stp F H ms F1 H1 m1 ∧ Sub F0 F1 ∧ Sl K F1 σ1 ds1 ∧ loopD dg tb E (xs.drop (i + 1)) ds1 m1, ct := fun σ1 H1 => ∃ F1 ds1 m1, Rel K F1 H1 m1 ∧ Stp F H ms F1 H1 m1 ∧ Sub F0 F1 ∧ Sl K F1 σ1 ds1 ∧ loopD dg tb E (xs.drop (i + 1)) ds1 m1, bk := D.nx } σ2 H3 := by
      intro F2 x R2 s2 s12 rx
      refine hg.snd x σ1 F2 H2 _ d ds1 _ R2.sub (S1.mono s12) rx h1 fun ds2 σ2 h2 S2 => ?_
      refine ⟨F2, ds2, m1, _, R2, S2, h2, ?_, ?_, ?_, ?_⟩
      · exact fun ds3 m3 σ3 F3 H3 h3 R3 s3 S3 => ⟨F3, ds3, m3, R3, s2.trans s3, (s01.trans s12).trans s3.sub, S3, h3⟩
      · exact fun d3 m3 v3 F3 H3 h3 R3 s3 r3 => r d3 m3 v3 F3 H3 h3 R3 (s2.trans s3) r3
      · exact fun ds3 m3 σ3 F3 H3 h3 R3 s3 S3 => n ds3 m3 σ3 F3 H3 h3 R3 (s2.trans s3) S3
      · exact fun ds3 m3 σ3 F3 H3 h3 R3 s3 S3 => ⟨F3, ds3, m3, R3, s2.trans s3, (s01.trans s12).trans s3.sub, S3, h3⟩
    rcases hy with ⟨rfl, rx⟩ | ⟨T, a, b, da, db, rfl, hT, rfl, rfl, ra, rb⟩
    · exact fin R1 s1 (Sub.refl F1) (rx.mono s01)
    · exact fin (R1.new hT) (s1.trans (Stp.new R1 hT)) (Sub.new (R1.sub.none hT)) (R1.newTup hT (.cons (ra.mono s01) (.cons (rb.mono s01) .nil)))
  · rintro σ1 H1 ⟨F1, ds1, m1, R1, s1, s01, S1, h1⟩
    rw [List.drop_length] at h1
    exact n ds1 m1 σ1 F1 H1 h1 R1 s1 S1
theorem pds_for {X : Cx} {tg iter : Expr} {body : List Stmt} {pos : Pos} (hc : X.calm = true) (hi : PDI X tg iter di) (hg : PG X tg g) (hd : TgD X.K g dg vs) (hb : PDSs X body tb) (hp : PassesOwn (model X.prog X.w) X.A X.env X.xe := by exact PassesOwn.never)
    (hs : ∀ x, foldedSetIterable iter X.env x = pure x := by intro _; rfl) : PDS X (.For tg iter body [] pos) (dFor di dg tb) := psImp (ps_for hp hc hi hg hb hs) (lift_for hd)
end
def whileD (c : DT) (tb : DTS) (E : EN) : Nat → DS → MS → Prop
  | 0, _, _ => False
  | n + 1, ds, ms => c ds ms fun b m => if b = true then tb { E with nx := whileD c tb E n, ct := whileD c tb E n, bk := E.nx } ds m else E.nx ds m
def dWhile (c : DT) (tb : DTS) : DTS := fun E ds ms => ∃ n, whileD c tb E n ds ms
section
variable {K : PySem.W.Frag} {c : DT} {tb : DTS}
theorem lift_while : ∀ D σ H, liftS K (dWhile c tb) D σ H → tWhile (liftT K c) (liftS K tb) D σ H := fun D σ H ⟨F, ds, ms, E, R, S, ⟨n0, h⟩, n, r, k, q⟩ => by
  refine ⟨fun m σ1 H1 => ∃ F1 ds1 m1, Rel K F1 H1 m1 ∧ Stp F H ms F1 H1 m1 ∧ Sl K F1 σ1 ds1 ∧ whileD c tb E m ds1 m1, ⟨n0, F, ds, ms, R, Stp.refl, S, h⟩, ?_⟩
  rintro m σ1 H1 ⟨F1, ds1, m1, R1, s1, S1, h1⟩
  cases m with
  | zero => exact h1.elim
  | succ m =>
    refine ⟨F1, ds1, m1, _, R1, S1, h1, fun b m2 F2 H2 p2 R2 s2 => ?_⟩
    cases b with
    | false =>
      rw [if_neg Bool.false_ne_true] at p2
      exact iteF (n ds1 m2 σ1 F2 H2 p2 R2 (s1.trans s2) (S1.mono s2.sub))
    | true =>
      rw [if_pos rfl] at p2
      refine iteT ⟨fun σ3 H3 => ∃ F3 ds3 m3, Rel K F3 H3 m3 ∧ Stp F H ms F3 H3 m3 ∧ Sl K F3 σ3 ds3 ∧ whileD c tb E m ds3 m3, fun σ3 H3 h3 => ⟨m, Nat.lt_succ_self m, h3⟩, F2, ds1, m2, _, R2, S1.mono s2.sub, p2, ?_, ?_, ?_, ?_⟩
      · exact fun ds3 m3 σ3 F3 H3 h3 R3 s3 S3 => ⟨F3, ds3, m3, R3, (s1.trans s2).trans s3, S3, h3⟩
      · exact fun d3 m3 v3 F3 H3 h3 R3 s3 r3 => r d3 m3 v3 F3 H3 h3 R3 ((s1.trans s2).trans s3) r3
      · exact fun ds3 m3 σ3 F3 H3 h3 R3 s3 S3 => n ds3 m3 σ3 F3 H3 h3 R3 ((s1.trans s2).trans s3) S3
      · exact fun ds3 m3 σ3 F3 H3 h3 R3 s3 S3 => ⟨F3, ds3, m3, R3, (s1.trans s2).trans s3, S3, h3⟩
theorem pds_while {X : Cx} {e : Expr} {body : List Stmt} {pos : Pos} (hc : PDT X e c) (hb : PDSs X body tb) (hp : PassesOwn (model X.prog X.w) X.A X.env X.xe := by exact PassesOwn.never) : PDS X (.While e body [] pos) (dWhile c tb) :=
  psImp (ps_while hp hc hb) lift_while
end
def wipeD (ds : DS) : List Nat → DS
  | [] => ds
  | v :: vs => (wipeD ds vs).set v none
theorem Sl.wipe1 {K : PySem.W.Frag} {F : Hp} : ∀ {σ : L2.St} {ds : DS} (i : Nat), Sl K F σ ds → Sl K F (σ.set i none) (ds.set i none)
  | _, _, i, .nil => by cases i <;> exact .nil
  | _, _, 0, .sm _ r => .nn r
  | _, _, 0, .nn r => .nn r
  | _, _, i + 1, .sm q r => .sm q (Sl.wipe1 i r)
  | _, _, i + 1, .nn r => .nn (Sl.wipe1 i r)
theorem Sl.wipe {K : PySem.W.Frag} {F : Hp} {σ : L2.St} {ds : DS} (S : Sl K F σ ds) : ∀ vs : List Nat, Sl K F (L2.wipe σ vs) (wipeD ds vs)
  | [] => S
  | v :: vs => Sl.wipe1 v (Sl.wipe S vs)
theorem wipe_wipe {σ : L2.St} {ws : List Nat} : ∀ {us : List Nat}, (∀ u ∈ us, u ∈ ws) → L2.wipe (L2.wipe σ us) ws = L2.wipe σ ws
  | [], _ => rfl
  | u :: us, h => by
    show L2.wipe ((L2.wipe σ us).set u none) ws = L2.wipe σ ws
    rw [wipe_set (h u List.mem_cons_self), wipe_wipe fun v hv => h v (List.mem_cons_of_mem _ hv)]
theorem Stp.kp {F H F1 H1 : Hp} {ms m1 : MS} (a : Stp F H ms F1 H1 m1) {c : Addr} {o : HO} (h1 : H c = some o) (h2 : F c = none) (h3 : ∀ p ∈ ms, p.1 ≠ c) : H1 c = some o ∧ F1 c = none ∧ ∀ p ∈ m1, p.1 ≠ c := by
  refine ⟨a.keep c o h1 h2 h3, ?_, fun p hp e => ?_⟩
  · cases e : F1 c with
    | none => rfl
    | some u =>
      rcases a.newF c u e with z | z | ⟨p, hp, z⟩
      · rw [h2] at z; cases z
      · rw [h1] at z; cases z
      · exact absurd z (h3 p hp)
  · rcases a.newM p hp with ⟨q, hq, z⟩ | z | ⟨u, z⟩
    · exact h3 q hq (z.trans e)
    · rw [e, h1] at z; cases z
    · rw [e, h2] at z; cases z
def compD (g : DG) (tt : DT) (te : DE) (ds : DS) : List D → List D → MS → (List D → MS → Prop) → Prop
  | [], acc, ms, P => P acc ms
  | x :: r, acc, ms, P => g x ds fun ds2 => tt ds2 ms fun b m3 => if b = true then te ds2 m3 fun y m4 => acc.length < sizeLine ∧ compD g tt te ds r (acc ++ [y]) m4 P else compD g tt te ds r acc m3 P
def dLc (di : DI) (g : DG) (tt : DT) (te : DE) (vs : List Nat) : DE := fun ds ms P => di ds ms fun xs m => compD g tt te (wipeD ds vs) xs [] m fun ys m' => P (.lst ys) m'
/-- without a test -/
def dYes : DT := fun _ ms P => P true ms
section
variable {K : PySem.W.Frag} {di : DI} {dg : DG} {tt : DT} {te : DE} {g : TG} {vs : List Nat}
theorem lift_lc (hg : TgD K g dg vs) (hm : MonG g) : ∀ σ H Q, lift K (dLc di dg tt te vs) σ H Q → tLc (liftI K di) g (liftT K tt) (lift K te) vs σ H Q := fun σ H Q ⟨F, ds, ms, P, R, S, h, q⟩ => by
  refine ⟨F, ds, ms, _, R, S, h, fun xs m F0 H0 J p0 R0 s0 wk L hL => ?_⟩
  have nL : F0 L = none := R0.sub.none hL
  have nM : ∀ p ∈ m, p.1 ≠ L := fun p hp => by
    obtain ⟨_, ws, h2, _⟩ := R0.mu p hp
    exact ne_of_none h2 hL
  refine lc_it wk (fun i H1 => ∃ F1 m1 acc av, Rel K F1 H1 m1 ∧ Stp F0 H0 m F1 H1 m1 ∧ H1 L = some (.lst av) ∧ F1 L = none ∧ (∀ p ∈ m1, p.1 ≠ L) ∧ DRs K F1 av acc ∧ compD dg tt te (wipeD ds vs) (xs.drop i) acc m1 fun ys m' => P (.lst ys) m')
    ⟨F0, m, [], [], R0.lay hL, ⟨Sub.refl F0, fun a u h1 _ _ => by rw [upd_ne (ne_of_none h1 hL)]; exact h1, fun _ _ h => .inl h, fun q hq => .inl ⟨q, hq, rfl⟩⟩, upd_same, nL, nM, .nil, p0⟩
    (fun i H1 _ ⟨F1, m1, acc, av, R1, s1, _⟩ => s1.sub.trans R1.sub) ?_ ?_
  · rintro i x H1 H2 hi ⟨F1, m1, acc, av, R1, s1, hD, hF, hM, ra, h1⟩ ⟨d, hd, hy⟩
    rw [drop_get hd] at h1
    have fin : ∀ {F2 : Hp} {x : V}, Rel K F2 H2 m1 → Stp F0 H0 m F2 H2 m1 → Sub F1 F2 → DR K F2 x d → H2 L = some (.lst av) → F2 L = none →
        g x (L2.wipe σ vs) H2 fun σ2 H3 => L2.wipe σ2 vs = L2.wipe σ vs ∧ liftT K tt σ2 H3 fun b H4 => if b = true then lift K te σ2 H4 fun y H5 => ∃ acc, H5 L = some (.lst acc) ∧ acc.length < sizeLine ∧
          (∃ F1 m1 acc' av, Rel K F1 (upd H5 L (.lst (acc ++ [y]))) m1 ∧ Stp F0 H0 m F1 (upd H5 L (.lst (acc ++ [y]))) m1 ∧ (upd H5 L (.lst (acc ++ [y]))) L = some (.lst av) ∧ F1 L = none ∧ (∀ p ∈ m1, p.1 ≠ L) ∧ DRs K F1 av acc' ∧ compD dg tt te (wipeD ds vs) (xs.drop (i + 1)) acc' m1 fun ys m' => P (.lst ys) m')
          else ∃ F1 m1 acc av, Rel K F1 H4 m1 ∧ Stp F0 H0 m F1 H4 m1 ∧ H4 L = some (.lst av) ∧ F1 L = none ∧ (∀ p ∈ m1, p.1 ≠ L) ∧ DRs K F1 av acc ∧ compD dg tt te (wipeD ds vs) (xs.drop (i + 1)) acc m1 fun ys m' => P (.lst ys) m' := by
      intro F2 x R2 s2 s12 rx hD2 hF2
      have hw := hg.wip x (L2.wipe σ vs) H2 _ (hg.snd x (L2.wipe σ vs) F2 H2 (fun σ2 H3 => H3 = H2 ∧ ∃ ds2, Sl K F2 σ2 ds2 ∧ tt ds2 m1 fun b m3 => if b = true then te ds2 m3 fun y m4 => acc.length < sizeLine ∧ compD dg tt te (wipeD ds vs) (xs.drop (i + 1)) (acc ++ [y]) m4 fun ys m' => P (.lst ys) m' else compD dg tt te (wipeD ds vs) (xs.drop (i + 1)) acc m3 fun ys m' => P (.lst ys) m') d (wipeD ds vs) _ R2.sub ((S.wipe vs).mono (s0.sub.trans s2.sub)) rx h1 fun ds2 σ2 h2 S2 => ⟨rfl, ds2, S2, h2⟩)
      refine hm _ _ _ _ _ ?_ hw
      rintro σ2 H3 ⟨e1, rfl, ds2, S2, h2⟩
      refine ⟨e1.trans (wipe_wipe fun u hu => hu), F2, ds2, m1, _, R2, S2, h2, fun b m4 F4 H4 p4 R4 s4 => ?_⟩
      obtain ⟨hD4, hF4, hM4⟩ := s4.kp hD2 hF2 hM
      cases b with
      | false =>
        rw [if_neg Bool.false_ne_true] at p4 ⊢
        exact ⟨F4, m4, acc, av, R4, s2.trans s4, hD4, hF4, hM4, (ra.mono s12).mono s4.sub, p4⟩
      | true =>
        rw [if_pos rfl] at p4 ⊢
        refine ⟨F4, ds2, m4, _, R4, S2.mono s4.sub, p4, fun y m5 v5 F5 H5 p5 R5 s5 r5 => ?_⟩
        obtain ⟨hD5, hF5, hM5⟩ := s5.kp hD4 hF4 hM4
        have ra5 := ((ra.mono s12).mono s4.sub).mono s5.sub
        have s05 := (s2.trans s4).trans s5
        refine ⟨av, hD5, by rw [ra.length]; exact p5.1, F5, m5, acc ++ [y], av ++ [v5], ?_, ?_, upd_same, hF5, hM5, ra5.append (.cons r5 .nil), p5.2⟩
        · refine ⟨fun b u e => ?_, fun p hp => ?_, R5.nd, R5.one⟩
          · rw [upd_ne (fun z => by rw [z, hF5] at e; cases e)]; exact R5.sub b u e
          · obtain ⟨z1, ws, z2, z3⟩ := R5.mu p hp
            exact ⟨z1, ws, by rw [upd_ne (hM5 p hp)]; exact z2, z3⟩
        · exact ⟨s05.sub, fun a u z1 z2 z3 => by rw [upd_ne (ne_of_none z1 hL)]; exact s05.keep a u z1 z2 z3, s05.newF, s05.newM⟩
    rcases hy with ⟨rfl, rx⟩ | ⟨T, a, b, da, db, rfl, hT, rfl, rfl, ra', rb'⟩
    · exact fin R1 s1 (Sub.refl F1) (rx.mono s1.sub) hD hF
    · have hne : L ≠ T := ne_of_none hD hT
      exact fin (R1.new hT) (s1.trans (Stp.new R1 hT)) (Sub.new (R1.sub.none hT)) (R1.newTup hT (.cons (ra'.mono s1.sub) (.cons (rb'.mono s1.sub) .nil))) (by rw [upd_ne hne]; exact hD) (by rw [upd_ne hne]; exact hF)
  · rintro H1 ⟨F1, m1, acc, av, R1, s1, hD, hF, hM, ra, h1⟩
    rw [List.drop_length] at h1
    have sF : Sub F1 (upd F1 L (.lst av)) := Sub.new hF
    refine q _ m1 _ (upd F1 L (.lst av)) H1 h1 ?_ (s0.trans ?_) (.lst upd_same (ra.mono sF))
    · refine ⟨fun b u e => ?_, fun p hp => ?_, R1.nd, R1.one.mono sF⟩
      · by_cases hb : b = L
        · subst hb; rw [upd_same] at e; rw [hD]; exact e
        · rw [upd_ne hb] at e; exact R1.sub b u e
      · obtain ⟨z1, ws, z2, z3⟩ := R1.mu p hp
        exact ⟨by rw [upd_ne (hM p hp)]; exact z1, ws, z2, z3.mono sF⟩
    · refine ⟨s1.sub.trans sF, s1.keep, fun a u e => ?_, s1.newM⟩
      by_cases hb : a = L
      · subst hb; exact .inr (.inl hL)
      · rw [upd_ne hb] at e; exact s1.newF a u e
end
end DL
namespace DL
open PySem PySem.Spec PyProof.Rows L2
abbrev PDTs (X : Cx) (es : List Expr) (t : DT) : Prop := PTs X es (liftT X.K t)
theorem pdts_nil {X : Cx} : PDTs X [] dYes := ⟨fun pins s σ H Q I ⟨F, ds, ms, P, R, S, h1, h2⟩ => pts_nil.run pins s σ H Q I (h2 true ms F H h1 R Stp.refl)⟩
theorem pdts_one {X : Cx} {c : Expr} {t : DT} (h : PDT X c t) : PDTs X [c] t := pts_one h
section
variable {X : Cx} {elt tg iter : Expr} {ifs : List Expr} {scope : Scope} {own : List (Str × Nat)} {pos spos py : Pos} {di : DI} {g : TG} {dg : DG} {tt : DT} {te : DE} {i : Nat} {y : Str}
theorem pd_lc (hc : X.calm = true) (hN : X.N.Nodup) (hi : PDI X tg iter di) (ok : BlkOk X.N X.env.scope scope own)
    (hg : ∀ (s : Shared) (H : Hp) (C : Addr) (cl : List (Str × Addr)) (fp : List Addr), PG (X.blk s H scope (compEnvC scope cl C X.env) fp) tg g)
    (hd : TgD X.K g dg (own.map (·.2))) (hm : MonG g)
    (ht : ∀ (s : Shared) (H : Hp) (C : Addr) (cl : List (Str × Addr)) (fp : List Addr), PDTs (X.blk s H scope (compEnvC scope cl C X.env) fp) ifs tt)
    (he : ∀ (s : Shared) (H : Hp) (C : Addr) (cl : List (Str × Addr)) (fp : List Addr), PD (X.blk s H scope (compEnvC scope cl C X.env) fp) elt te)
    (hs : ∀ x, foldedSetIterable iter X.env x = pure x := by intro _; rfl) :
    PD X (.ListComp elt [⟨tg, iter, ifs, 0⟩] scope pos) (dLc di dg tt te (own.map (·.2))) :=
  peImp (pe_lc hc hN hi ok hg ht he hs) (lift_lc hd hm)
theorem pds_setLc (hc : X.calm = true) (hN : X.N.Nodup) (hy : X.N[i]? = some y) (hyl : X.env.scope.names.lookup y = some .local)
    (hsw : swapsWith (.ListComp elt [⟨tg, iter, ifs, 0⟩] scope pos) (some (.Name y py)) spos.line X.env = pure true) (hi : PDI X tg iter di) (ok : BlkOk X.N X.env.scope scope own)
    (hg : ∀ (s : Shared) (H : Hp) (C : Addr) (cl : List (Str × Addr)) (fp : List Addr), PG (X.blk s H scope (compEnvC scope cl C X.env) fp) tg g)
    (hd : TgD X.K g dg (own.map (·.2))) (hm : MonG g)
    (ht : ∀ (s : Shared) (H : Hp) (C : Addr) (cl : List (Str × Addr)) (fp : List Addr), PDTs (X.blk s H scope (compEnvC scope cl C X.env) fp) ifs tt)
    (he : ∀ (s : Shared) (H : Hp) (C : Addr) (cl : List (Str × Addr)) (fp : List Addr), PD (X.blk s H scope (compEnvC scope cl C X.env) fp) elt te)
    (hs : ∀ x, foldedSetIterable iter X.env x = pure x := by intro _; rfl) :
    PDS X (.Assign [.Name y py] (.ListComp elt [⟨tg, iter, ifs, 0⟩] scope pos) spos) (dAsg (dLc di dg tt te (own.map (·.2))) (sName i)) :=
  psImp (ps_setLc hc hN hy hyl hsw hi ok hg ht he hs) fun D σ H h => by
    obtain ⟨F, ds, ms, P, R, S, z1, z2⟩ := h
    exact lift_lc hd hm σ H _ ⟨F, ds, ms, _, R, S, z1, fun d m v F1 H1 p1 R1 s1 r1 => z2.1 _ m _ F1 H1 p1 R1 s1 ((S.mono s1.sub).set r1 i)⟩
end
def fAdd : OF := fun x y ms P => match x, y with
  | .int i, .int j => P (.int (i + j)) ms
  | .str i, .str j => i.length + j.length ≤ sizeLine ∧ P (.str (i ++ j)) ms
  | .lst a, .lst b => a.length + b.length ≤ sizeLine ∧ P (.lst (a ++ b)) ms
  | .opq (.ref p), .lst b => match look ms p with
    | some a => a.length + b.length ≤ sizeLine ∧ P (.lst (a ++ b)) ms
    | none => False
  | .tup a, .tup b => a.length + b.length ≤ sizeLine ∧ P (.tup (a ++ b)) ms
  | _, _ => False
def rAddD (K : PySem.W.Frag) : R2 := fun x y H Q => (∃ i j, x = .int i ∧ y = .int j ∧ Q (.int (i + j)) H) ∨ (∃ i j, x = .str i ∧ y = .str j ∧ i.length + j.length ≤ sizeLine ∧ Q (.str (i ++ j)) H) ∨ rCat x y H Q ∨ rCatA K x y H Q
theorem op_addD {X : Cx} : OpR X (binaryOp .Add) (rAddD X.K) := op_add.or (op_add_str.or (op_cat.or op_catA))
theorem DRs.nil_iff {K : PySem.W.Frag} {F : Hp} {vs : List V} {xs : List D} (r : DRs K F vs xs) : vs = [] ↔ xs = [] := by cases r <;> simp
theorem opd_add {K : PySem.W.Frag} : OpD K (rAddD K) fAdd := by
  intro F H ms x y dx dy P Q R rx ry h q
  have cat : ∀ {a b : Addr} {vs ws : List V} {xs ys : List D}, H a = some (.lst vs) → H b = some (.lst ws) → DRs K F vs xs → DRs K F ws ys → xs.length + ys.length ≤ sizeLine → P (.lst (xs ++ ys)) ms → rCat (.ref a) (.ref b) H Q := by
    intro a b vs ws xs ys h1 h2 r1 r2 hz hp
    refine ⟨a, b, vs, ws, rfl, rfl, h1, h2, by rw [r1.length, r2.length]; exact hz, fun p hp2 => ?_⟩
    exact q _ ms _ _ _ hp (R.new hp2) (Stp.new R hp2) (R.newLst hp2 (r1.append r2))
  cases rx with
  | int i => cases ry with
    | int j => exact .inl ⟨i, j, rfl, rfl, q _ ms _ F H h R Stp.refl (.int _)⟩
    | _ => exact h.elim
  | str i => cases ry with
    | str j => exact .inr (.inl ⟨i, j, rfl, rfl, h.1, q _ ms _ F H h.2 R Stp.refl (.str _)⟩)
    | _ => exact h.elim
  | lst h1 r1 => cases ry with
    | lst h2 r2 => exact .inr (.inr (.inl (cat (R.sub _ _ h1) (R.sub _ _ h2) r1 r2 h.1 h.2)))
    | _ => exact h.elim
  | tup h1 r1 => cases ry with
    | tup h2 r2 =>
      obtain ⟨z3, z4⟩ := h
      refine .inr (.inr (.inr ⟨_, _, _, _, rfl, rfl, R.sub.sqT h1, R.sub.sqT h2, by rw [r1.length, r2.length]; exact z3, fun e => ?_, fun _ e => ?_, fun _ _ p hp2 => ?_⟩))
      · cases r1.nil_iff.mp e
        exact q _ ms _ F H z4 R Stp.refl (.tup h2 r2)
      · cases r2.nil_iff.mp e
        rw [List.append_nil] at z4
        exact q _ ms _ F H z4 R Stp.refl (.tup h1 r1)
      · exact q _ ms _ _ _ z4 (R.new hp2) (Stp.new R hp2) (R.newTup hp2 (r1.append r2))
    | _ => exact h.elim
  | opq _ => cases x with
    | ref p => cases ry with
      | lst h2 r2 =>
        unfold fAdd at h
        cases e : look ms p with
        | none => simp only [e] at h
        | some a =>
          simp only [e] at h
          obtain ⟨_, vs, h1, r1⟩ := R.look e
          exact .inr (.inr (.inl (cat h1 (R.sub _ _ h2) r1 r2 h.1 h.2)))
      | _ => exact h.elim
    | _ => exact h.elim
  | _ => exact h.elim
def fSub : OF := fun x y ms P => fI (fun _ _ => True) (fun i j => .int (i - j)) x y ms P
theorem opd_sub {K : PySem.W.Frag} : OpD K (rI0 fun i j => .int (i - j)) fSub := opd_I0 fun _ _ _ => .int _
/-- * of ints, together below a million bits, or one of them below 2 ^ 64 -/
def CMulD (i j : Int) : Prop := CMulW i j ∨ CMul i j
theorem op_mulD {X : Cx} : OpR X (binaryOp .Mult) (rI CMulD fun i j => .int (i * j)) := opI fun _ _ _ _ _ _ _ hc q => mul_int q (hc.elim (·.ok) (·.ok))
def fMul : OF := fun x y ms P => match x, y with
  | .int i, .int j => CMulD i j ∧ P (.int (i * j)) ms
  | .lst a, .int k => (-(2 ^ 63) ≤ k ∧ k < 2 ^ 63 ∧ a.length * k.toNat ≤ sizeLine) ∧ P (.lst (List.replicate k.toNat a).flatten) ms
  | _, _ => False
def rMulD : R2 := fun x y H Q => rI CMulD (fun i j => .int (i * j)) x y H Q ∨ rRep x y H Q
theorem op_mulA {X : Cx} : OpR X (binaryOp .Mult) rMulD := op_mulD.or op_rep
theorem DRs.rep {K : PySem.W.Frag} {F : Hp} {vs : List V} {xs : List D} (r : DRs K F vs xs) : ∀ n : Nat, DRs K F (List.replicate n vs).flatten (List.replicate n xs).flatten
  | 0 => .nil
  | n + 1 => by rw [List.replicate_succ, List.replicate_succ, List.flatten_cons, List.flatten_cons]; exact r.append (DRs.rep r n)
theorem opd_mul {K : PySem.W.Frag} : OpD K rMulD fMul := by
  intro F H ms x y dx dy P Q R rx ry h q
  cases rx with
  | int i => cases ry with
    | int j => exact .inl ⟨i, j, rfl, rfl, h.1, q _ ms _ F H h.2 R Stp.refl (.int _)⟩
    | _ => exact h.elim
  | lst h1 r1 => cases ry with
    | int k =>
      obtain ⟨⟨z1, z2, z3⟩, z4⟩ := h
      refine .inr ⟨_, k, _, rfl, rfl, R.sub _ _ h1, z1, z2, by rw [r1.length]; exact z3, fun p hp => ?_⟩
      exact q _ ms _ _ _ z4 (R.new hp) (Stp.new R hp) (R.newLst hp (r1.rep _))
    | _ => exact h.elim
  | _ => exact h.elim
/-- // by a number that is not nought, below 2 ^ 9000 -/
def CDivA (_ j : Int) : Prop := j ≠ 0 ∧ j.natAbs.log2 < 9000
theorem op_fdivA {X : Cx} : OpR X (binaryOp .FloorDiv) (rI CDivA fun i j => .int (i.fdiv j)) := opI fun _ _ _ _ _ _ _ hc q => floordiv_int hc.1 q (.inl (PyProof.noPylong_of_log2 hc.2))
def fDiv : OF := fun x y ms P => fI CDivA (fun i j => .int (i.fdiv j)) x y ms P
theorem opd_div {K : PySem.W.Frag} : OpD K (rI CDivA fun i j => .int (i.fdiv j)) fDiv := opd_I (fun _ _ h => h) fun _ _ _ => .int _
def fMod : OF := fun x y ms P => fI (fun _ j => j ≠ 0) (fun i j => .int (i.fmod j)) x y ms P
theorem opd_mod {K : PySem.W.Frag} : OpD K (rI (fun _ j => j ≠ 0) fun i j => .int (i.fmod j)) fMod := opd_I (fun _ _ h => h) fun _ _ _ => .int _
def fPow : OF := fun x y ms P => fI CPow (fun i j => .int (i ^ j.toNat)) x y ms P
theorem opd_pow {K : PySem.W.Frag} : OpD K (rI CPow fun i j => .int (i ^ j.toNat)) fPow := opd_I (fun _ _ h => h) fun _ _ _ => .int _
def fLt : OF := fun x y ms P => fI (fun _ _ => True) (fun i j => .bl (decide (i < j))) x y ms P
def fLe : OF := fun x y ms P => fI (fun _ _ => True) (fun i j => .bl (decide (i ≤ j))) x y ms P
def fGt : OF := fun x y ms P => fI (fun _ _ => True) (fun i j => .bl (decide (j < i))) x y ms P
def fGe : OF := fun x y ms P => fI (fun _ _ => True) (fun i j => .bl (decide (j ≤ i))) x y ms P
theorem opd_lt {K : PySem.W.Frag} : OpD K (rI0 fun i j => .bl (decide (i < j))) fLt := opd_I0 fun _ _ _ => .bl _
theorem opd_le {K : PySem.W.Frag} : OpD K (rI0 fun i j => .bl (decide (i ≤ j))) fLe := opd_I0 fun _ _ _ => .bl _
theorem opd_gt {K : PySem.W.Frag} : OpD K (rI0 fun i j => .bl (decide (j < i))) fGt := opd_I0 fun _ _ _ => .bl _
theorem opd_ge {K : PySem.W.Frag} : OpD K (rI0 fun i j => .bl (decide (j ≤ i))) fGe := opd_I0 fun _ _ _ => .bl _
mutual
def toPy : D → Option PyData
  | .non => some .none
  | .bl b => some (.bool b)
  | .int i => some (.int i)
  | .str x => some (.str x)
  | .lst xs => (toPys xs).map .list
  | .tup xs => (toPys xs).map .tuple
  | .fro xs => (toPys xs).map .list
  | .edic => some (.dict [])
  | .dct _ => none
  | .opq _ => none
  | .exc _ _ _ => none
def toPys : List D → Option (List PyData)
  | [] => some []
  | x :: r => match toPy x, toPys r with
    | some a, some b => some (a :: b)
    | _, _ => none
end
section
variable {X : Cx} {pins : List (Addr × Obj)} {σ : L2.St} {H F : Hp} {s : Shared}
/-- where lists and dicts of ours lie -/
def Our (K : PySem.W.Frag) (F : Hp) (b : Addr) : Prop := (∃ xs, SqL K F b xs) ∨ F b = some (.dK [])
theorem Our.not1 {K : PySem.W.Frag} {F : Hp} {b : Addr} (h : Our K F b) (o : OneR K F) : b ≠ sysModules := by
  rintro rfl
  obtain ⟨o1, o, φ, o2⟩ := o
  rcases h with ⟨xs, (h | ⟨ob, h⟩) | ⟨ob, its, n, h, _⟩⟩ | h
  · rw [o2] at h; cases h
  · rw [o2] at h; cases h
  · rw [o1] at h; cases h
  · rw [o2] at h; cases h
mutual
theorem DR.readsA (I : Inv X pins σ H s) (sb : Sub F H) : ∀ (d : D) (p : PyData) (v : V) (u : Value), DR X.K F v d → toPy d = some p → RelV v u → ∃ as, Reads s.heap u p as ∧ ∀ b ∈ as, Our X.K F b
  | .non, _, _, _, .non, h, r => by cases h; cases r; exact ⟨_, Reads.none, fun b hb => by cases hb⟩
  | .bl b, _, _, _, .bl _, h, r => by cases h; cases r; exact ⟨_, Reads.bool b, fun b hb => by cases hb⟩
  | .int i, _, _, _, .int _, h, r => by cases h; obtain ⟨t, rfl⟩ := r; exact ⟨_, Reads.int i t, fun b hb => by cases hb⟩
  | .str x, _, _, _, .str _, h, r => by cases h; obtain ⟨t, rfl⟩ := r; exact ⟨_, Reads.str x t, fun b hb => by cases hb⟩
  | .lst xs, p, _, _, .lst ha hs, h, r => by
    unfold toPy at h
    obtain ⟨ps, e, rfl⟩ := Option.map_eq_some_iff.mp h
    cases r
    obtain ⟨its, rv, ⟨o, n, ho, hc, _, hd⟩, _⟩ := I.list (SqL.of (sb _ _ ha))
    obtain ⟨as, hr, ou⟩ := DRs.readsA I sb xs ps _ its hs e rv
    refine ⟨_, Reads.list ho hc hd hr, fun b hb => ?_⟩
    rcases List.mem_cons.mp hb with rfl | hb
    · exact .inl ⟨_, SqL.of ha⟩
    · exact ou b hb
  | .fro xs, p, _, _, .fro ha hs, h, r => by
    unfold toPy at h
    obtain ⟨ps, e, rfl⟩ := Option.map_eq_some_iff.mp h
    cases r
    obtain ⟨its, rv, ⟨o, n, ho, hc, _, hd⟩, _⟩ := I.list (sb.sqL ha)
    obtain ⟨as, hr, ou⟩ := DRs.readsA I sb xs ps _ its hs e rv
    refine ⟨_, Reads.list ho hc hd hr, fun b hb => ?_⟩
    rcases List.mem_cons.mp hb with rfl | hb
    · exact .inl ⟨_, ha⟩
    · exact ou b hb
  | .tup xs, p, _, _, .tup ha hs, h, r => by
    unfold toPy at h
    obtain ⟨ps, e, rfl⟩ := Option.map_eq_some_iff.mp h
    cases r
    obtain ⟨its, rv, ⟨o, ho, hc, n, hd⟩, _⟩ := I.tuple (sb.sqT ha)
    obtain ⟨as, hr, ou⟩ := DRs.readsA I sb xs ps _ its hs e rv
    exact ⟨_, Reads.tuple ho hc hd hr, ou⟩
  | .edic, p, _, _, .edic ha, h, r => by
    cases h
    cases r
    obtain ⟨_, _, vs, kv, o, es, ep, h1, h2, h3, h4, h5, _⟩ := (show ObjOk X.prog X.w H s.heap _ (.dK []) from I.hok _ _ (sb _ _ ha))
    cases kv
    have e0 : es.toList = [] := by
      generalize es.toList = l at h5
      cases h5
      rfl
    refine ⟨_, Reads.dict (kvs := []) h1 h2.1 h3 (by rw [e0]; exact .nil) (by rw [e0]; exact .nil), fun b hb => ?_⟩
    simp only [List.cons_append, List.append_nil, List.mem_cons, List.not_mem_nil, or_false] at hb
    subst hb
    exact .inr ha
  | .opq _, _, _, _, _, h, _ => by cases h
  | .dct _, _, _, _, _, h, _ => by cases h
  | .exc _ _ _, _, _, _, _, h, _ => by cases h
theorem DRs.readsA (I : Inv X pins σ H s) (sb : Sub F H) : ∀ (ds : List D) (ps : List PyData) (vs : List V) (us : List Value), DRs X.K F vs ds → toPys ds = some ps → Vals vs us → ∃ as, ReadsAll s.heap us ps as ∧ ∀ b ∈ as, Our X.K F b
  | [], _, _, _, .nil, h, r => by cases h; cases r; exact ⟨_, ReadsAll.nil, fun b hb => by cases hb⟩
  | d :: ds, ps, _, _, .cons h1 h2, h, r => by
    unfold toPys at h
    cases e1 : toPy d with
    | none => simp only [e1] at h; cases h
    | some a =>
      cases e2 : toPys ds with
      | none => simp only [e1, e2] at h; cases h
      | some b =>
        simp only [e1, e2] at h
        cases h
        cases r with
        | cons r1 r2 =>
          obtain ⟨as, q1, o1⟩ := DR.readsA I sb d a _ _ h1 e1 r1
          obtain ⟨bs, q2, o2⟩ := DRs.readsA I sb ds b _ _ h2 e2 r2
          refine ⟨_, ReadsAll.cons q1 q2, fun b hb => ?_⟩
          rcases List.mem_append.mp hb with hb | hb
          · exact o1 b hb
          · exact o2 b hb
end
theorem DR.reads (I : Inv X pins σ H s) (sb : Sub F H) (d : D) (p : PyData) (v : V) (u : Value) (r : DR X.K F v d) (e : toPy d = some p) (ru : RelV v u) : ∃ as, Reads s.heap u p as := (DR.readsA I sb d p v u r e ru).imp fun _ h => h.1
end
end DL
namespace DL
open PySem PySem.Spec PyProof.Rows L2
def ShD (d : D) : Prop := ∃ p, toPy d = some p ∧ SeqAt.shaped p = true
def eqD (x y : D) : Bool := match toPy x, toPy y with
  | some p, some q => PyData.eqv p q
  | _, _ => false
def fEq : OF := fun x y ms P => match x, y with
  | .int i, .int j => P (.bl (i == j)) ms
  | .str i, .str j => P (.bl (i == j)) ms
  | .lst a, .lst [] => P (.bl a.isEmpty) ms
  | _, _ => ShD x ∧ ShD y ∧ P (.bl (eqD x y)) ms
def fNe : OF := fun x y ms P => match x, y with
  | .int i, .int j => P (.bl (!(i == j))) ms
  | .str i, .str j => P (.bl (!(i == j))) ms
  | .lst a, .lst [] => P (.bl (!a.isEmpty)) ms
  | _, _ => ShD x ∧ ShD y ∧ P (.bl (!eqD x y)) ms
def rEqF (K : PySem.W.Frag) (neg : Bool) : R2 := fun x y H Q => ∃ F dx dy, Sub F H ∧ DR K F x dx ∧ DR K F y dy ∧ ShD dx ∧ ShD dy ∧ Q (.bl (if neg then !eqD dx dy else eqD dx dy)) H
theorem op_eqF' {X : Cx} (hu : X.A.units + 64 < cLine) : OpR X (compareOp .Eq) (rEqF X.K false) := by
  intro pins s σ H x y v u Q I rx ry h
  obtain ⟨F, dx, dy, sb, hx, hy, ⟨p, e1, z1⟩, ⟨q, e2, z2⟩, h⟩ := h
  obtain ⟨as, r1⟩ := DR.reads I sb dx p x v hx e1 rx
  obtain ⟨bs, r2⟩ := DR.reads I sb dy q y u hy e2 ry
  have e : eqD dx dy = PyData.eqv p q := by unfold eqD; rw [e1, e2]
  exact SeqAt.compareEq_shaped r1 r2 z1 z2 hu ⟨.bl _, H, I, rfl, by rw [← e]; exact h⟩
theorem op_neF' {X : Cx} (hu : X.A.units + 64 < cLine) : OpR X (compareOp .NotEq) (rEqF X.K true) := by
  intro pins s σ H x y v u Q I rx ry h
  obtain ⟨F, dx, dy, sb, hx, hy, ⟨p, e1, z1⟩, ⟨q, e2, z2⟩, h⟩ := h
  obtain ⟨as, r1⟩ := DR.reads I sb dx p x v hx e1 rx
  obtain ⟨bs, r2⟩ := DR.reads I sb dy q y u hy e2 ry
  have e : eqD dx dy = PyData.eqv p q := by unfold eqD; rw [e1, e2]
  exact SeqAt.compareNe_shaped r1 r2 z1 z2 hu ⟨.bl _, H, I, rfl, by rw [← e]; exact h⟩
/-- a list beside an empty one: by how long it is -/
def rEqE (K : PySem.W.Frag) (neg : Bool) : R2 := fun x y H Q => ∃ F xs, Sub F H ∧ DR K F x (.lst xs) ∧ DR K F y (.lst []) ∧ Q (.bl (Bool.xor neg xs.isEmpty)) H
theorem op_eqE {X : Cx} (hu : X.A.units + 64 < cLine) : OpR X (compareOp .Eq) (rEqE X.K false) := by
  intro pins s σ H x y v u Q I rx ry h
  obtain ⟨F, xs, sb, hx, hy, h⟩ := h
  cases xs with
  | nil =>
    obtain ⟨as, r1⟩ := DR.reads I sb (.lst []) (.list []) x v hx rfl rx
    obtain ⟨bs, r2⟩ := DR.reads I sb (.lst []) (.list []) y u hy rfl ry
    exact SeqAt.compareEq_shaped r1 r2 rfl rfl hu ⟨.bl true, H, I, rfl, h⟩
  | cons d r =>
    cases hx with
    | lst ha hs => cases hy with
      | lst hb hs2 =>
        cases rx; cases ry
        obtain ⟨i1, v1, ⟨o1, n1, p1, c1, _, d1⟩, _⟩ := I.list (SqL.of (sb _ _ ha))
        obtain ⟨i2, v2, ⟨o2, n2, p2, c2, _, d2⟩, _⟩ := I.list (SqL.of (sb _ _ hb))
        have l1 : i1.length = r.length + 1 := by rw [← v1.length, hs.length]; rfl
        have l2 : i2.length = 0 := by rw [← v2.length, hs2.length]; rfl
        exact PySem.SeqAt.eq_list_lengthsAt ⟨o1, p1, c1, n1, d1⟩ ⟨o2, p2, c2, n2, d2⟩ (by rw [List.size_toArray, List.size_toArray, l1, l2]; rfl) (by omega) ⟨.bl false, H, I, rfl, h⟩
theorem op_neE {X : Cx} (hu : X.A.units + 64 < cLine) : OpR X (compareOp .NotEq) (rEqE X.K true) := by
  intro pins s σ H x y v u Q I rx ry h
  obtain ⟨F, xs, sb, hx, hy, h⟩ := h
  cases xs with
  | nil =>
    obtain ⟨as, r1⟩ := DR.reads I sb (.lst []) (.list []) x v hx rfl rx
    obtain ⟨bs, r2⟩ := DR.reads I sb (.lst []) (.list []) y u hy rfl ry
    exact SeqAt.compareNe_shaped r1 r2 rfl rfl hu ⟨.bl false, H, I, rfl, h⟩
  | cons d r =>
    cases hx with
    | lst ha hs => cases hy with
      | lst hb hs2 =>
        cases rx; cases ry
        obtain ⟨i1, v1, ⟨o1, n1, p1, c1, _, d1⟩, _⟩ := I.list (SqL.of (sb _ _ ha))
        obtain ⟨i2, v2, ⟨o2, n2, p2, c2, _, d2⟩, _⟩ := I.list (SqL.of (sb _ _ hb))
        have l1 : i1.length = r.length + 1 := by rw [← v1.length, hs.length]; rfl
        have l2 : i2.length = 0 := by rw [← v2.length, hs2.length]; rfl
        exact PySem.SeqAt.RcNeAt.lists_lengths ⟨o1, p1, c1, n1, d1⟩ ⟨o2, p2, c2, n2, d2⟩ (by rw [List.size_toArray, List.size_toArray, l1, l2]; rfl) (by omega) _ _ _ _ ⟨.bl true, H, I, rfl, h⟩
def rEqA (K : PySem.W.Frag) : R2 := fun x y H Q => rEqF K false x y H Q ∨ (rEqE K false x y H Q ∨ rEq x y H Q)
def rNeA (K : PySem.W.Frag) : R2 := fun x y H Q => rEqF K true x y H Q ∨ (rEqE K true x y H Q ∨ rNe x y H Q)
theorem op_eqF {X : Cx} (hu : X.A.units + 64 < cLine) : OpR X (compareOp .Eq) (rEqA X.K) := (op_eqF' hu).or ((op_eqE hu).or op_eq)
theorem op_neF {X : Cx} (hu : X.A.units + 64 < cLine) : OpR X (compareOp .NotEq) (rNeA X.K) := (op_neF' hu).or ((op_neE hu).or op_ne)
theorem opd_eq {K : PySem.W.Frag} : OpD K (rEqA K) fEq := fun F H ms x y dx dy P Q R rx ry h q => by
  have gen : ShD dx ∧ ShD dy ∧ P (.bl (eqD dx dy)) ms → rEqA K x y H Q := fun h => .inl ⟨F, dx, dy, R.sub, rx, ry, h.1, h.2.1, q _ ms _ F H h.2.2 R Stp.refl (.bl _)⟩
  cases rx with
  | int i => cases ry with
    | int j => exact .inr (.inr ⟨rfl, by rw [dec_int]; exact q _ ms _ F H h R Stp.refl (.bl _)⟩)
    | _ => exact gen h
  | str i => cases ry with
    | str j => exact .inr (.inr ⟨rfl, by rw [dec_str]; exact q _ ms _ F H h R Stp.refl (.bl _)⟩)
    | _ => exact gen h
  | lst ha hs => cases ry with
    | lst hb hs2 =>
      rename_i ys
      cases ys with
      | nil => exact .inr (.inl ⟨F, _, R.sub, .lst ha hs, .lst hb hs2, by rw [Bool.false_xor]; exact q _ ms _ F H h R Stp.refl (.bl _)⟩)
      | cons _ _ => exact gen h
    | _ => exact gen h
  | _ => exact gen h
theorem opd_ne {K : PySem.W.Frag} : OpD K (rNeA K) fNe := fun F H ms x y dx dy P Q R rx ry h q => by
  have gen : ShD dx ∧ ShD dy ∧ P (.bl (!eqD dx dy)) ms → rNeA K x y H Q := fun h => .inl ⟨F, dx, dy, R.sub, rx, ry, h.1, h.2.1, q _ ms _ F H h.2.2 R Stp.refl (.bl _)⟩
  cases rx with
  | int i => cases ry with
    | int j => exact .inr (.inr ⟨rfl, by rw [dec_int]; exact q _ ms _ F H h R Stp.refl (.bl _)⟩)
    | _ => exact gen h
  | str i => cases ry with
    | str j => exact .inr (.inr ⟨rfl, by rw [dec_str]; exact q _ ms _ F H h R Stp.refl (.bl _)⟩)
    | _ => exact gen h
  | lst ha hs => cases ry with
    | lst hb hs2 =>
      rename_i ys
      cases ys with
      | nil => exact .inr (.inl ⟨F, _, R.sub, .lst ha hs, .lst hb hs2, by rw [Bool.true_xor]; exact q _ ms _ F H h R Stp.refl (.bl _)⟩)
      | cons _ _ => exact gen h
    | _ => exact gen h
  | _ => exact gen h
def fIx : OF := fun x y ms P => match y with
  | .int i => (match x with
    | .tup xs => (match atI xs i with
      | some d => P d ms
      | none => False)
    | .str z => z.length ≤ sizeLine ∧ (match atI z.cps.toList i with
      | some c => P (.str ⟨#[c]⟩) ms
      | none => False)
    | _ => (match asL x ms with
      | some xs => (match atI xs i with
        | some d => P d ms
        | none => False)
      | none => False))
  | _ => False
theorem DRs.at {K : PySem.W.Frag} {F : Hp} {vs : List V} {xs : List D} {i : Int} {d : D} (r : DRs K F vs xs) (h : atI xs i = some d) : ∃ v, atI vs i = some v ∧ DR K F v d := by
  unfold atI at h ⊢
  rw [r.length]
  cases e : ixN xs.length i with
  | none => rw [e] at h; cases h
  | some j =>
    rw [e] at h
    exact r.get h
theorem opd_ix {K : PySem.W.Frag} : OpD K (rIx K) fIx := by
  intro F H ms x y dx dy P Q R rx ry h q
  cases ry with
  | int i =>
    unfold fIx at h
    have lst : ∀ {xs : List D}, asL dx ms = some xs → (match atI xs i with | some d => P d ms | none => False) → rIx K x (.int i) H Q := by
      intro xs e h
      obtain ⟨a, vs, rfl, hs, rs⟩ := R.asL rx e
      cases e2 : atI xs i with
      | none => rw [e2] at h; exact h.elim
      | some d =>
        rw [e2] at h
        obtain ⟨v, h1, h2⟩ := rs.at e2
        exact .inl ⟨a, vs, i, v, rfl, rfl, hs, h1, q d ms v F H h R Stp.refl h2⟩
    cases rx with
    | tup ha hs =>
      rename_i xs
      simp only at h
      cases e2 : atI xs i with
      | none => rw [e2] at h; exact h.elim
      | some d =>
        rw [e2] at h
        obtain ⟨v, h1, h2⟩ := hs.at e2
        exact .inr (.inl ⟨_, _, i, v, rfl, rfl, R.sub.sqT ha, h1, q d ms v F H h R Stp.refl h2⟩)
    | str z =>
      simp only at h
      obtain ⟨hz, h⟩ := h
      cases e2 : atI z.cps.toList i with
      | none => rw [e2] at h; exact h.elim
      | some c =>
        rw [e2] at h
        exact .inr (.inr ⟨z, i, c, rfl, rfl, hz, e2, q _ ms _ F H h R Stp.refl (.str _)⟩)
    | lst ha hs => exact lst rfl h
    | fro ha hs => exact lst rfl h
    | opq _ =>
      simp only at h
      cases e : asL (.opq x) ms with
      | none => rw [e] at h; exact h.elim
      | some xs => rw [e] at h; exact lst e h
    | _ => exact h.elim
  | _ => exact h.elim
def put : MS → Addr → List D → MS
  | [], _, _ => []
  | (q, xs) :: r, p, ys => if q = p then (q, ys) :: r else (q, xs) :: put r p ys
theorem put_fst : ∀ (ms : MS) (p : Addr) (ys : List D), (put ms p ys).map (·.1) = ms.map (·.1)
  | [], _, _ => rfl
  | (q, xs) :: r, p, ys => by
    unfold put
    split
    · rfl
    · rw [List.map_cons, List.map_cons, put_fst r p ys]
theorem put_mem : ∀ {ms : MS} {p : Addr} {ys : List D}, (ms.map (·.1)).Nodup → ∀ e ∈ put ms p ys, (e.1 = p ∧ e.2 = ys) ∨ (e ∈ ms ∧ e.1 ≠ p)
  | [], _, _, _, _, h => by cases h
  | (q, xs) :: r, p, ys, nd, e, h => by
    rw [List.map_cons, List.nodup_cons] at nd
    unfold put at h
    split at h
    · rename_i hq
      rcases List.mem_cons.mp h with rfl | h
      · exact .inl ⟨hq, rfl⟩
      · refine .inr ⟨List.mem_cons_of_mem _ h, fun z => nd.1 ?_⟩
        show q ∈ _
        rw [hq, ← z]
        exact List.mem_map_of_mem h
    · rename_i hq
      rcases List.mem_cons.mp h with rfl | h
      · exact .inr ⟨List.mem_cons_self, hq⟩
      · rcases put_mem nd.2 e h with z | z
        · exact .inl z
        · exact .inr ⟨List.mem_cons_of_mem _ z.1, z.2⟩
theorem look_put_same : ∀ {ms : MS} {p : Addr} {xs ys : List D}, look ms p = some xs → look (put ms p ys) p = some ys
  | [], _, _, _, h => by cases h
  | (q, zs) :: r, p, xs, ys, h => by
    unfold look at h
    unfold put
    by_cases e : q = p
    · rw [if_pos e, look, if_pos e]
    · rw [if_neg e] at h ⊢
      rw [look, if_neg e]
      exact look_put_same h
theorem look_put_ne : ∀ {ms : MS} {p q : Addr} {ys : List D}, p ≠ q → look (put ms p ys) q = look ms q
  | [], _, _, _, _ => rfl
  | (r, zs) :: ms, p, q, ys, h => by
    unfold put
    by_cases e : r = p
    · subst e
      rw [if_pos rfl, look, look, if_neg h, if_neg h]
    · rw [if_neg e, look, look, look_put_ne h]
section
variable {K : PySem.W.Frag} {F H : Hp} {ms : MS}
theorem relPut (R : Rel K F H ms) {p : Addr} {xs ys : List D} {ws : List V} (h : look ms p = some xs) (r : DRs K F ws ys) : Rel K F (upd H p (.lst ws)) (put ms p ys) := by
  obtain ⟨hF, vs, hH, _⟩ := R.look h
  refine ⟨fun b u e => ?_, fun e he => ?_, by rw [put_fst]; exact R.nd, R.one⟩
  · rw [upd_ne fun z => by rw [z, hF] at e; cases e]; exact R.sub b u e
  · rcases put_mem R.nd e he with ⟨z1, z2⟩ | ⟨z1, z2⟩
    · rw [z1, z2]; exact ⟨hF, ws, upd_same, r⟩
    · obtain ⟨y1, us, y2, y3⟩ := R.mu e z1
      exact ⟨y1, us, by rw [upd_ne z2]; exact y2, y3⟩
theorem stpPut (R : Rel K F H ms) {p : Addr} {xs ys : List D} {ws : List V} (h : look ms p = some xs) : Stp F H ms F (upd H p (.lst ws)) (put ms p ys) := by
  refine ⟨Sub.refl F, fun a u z1 z2 z3 => ?_, fun _ _ h => .inl h, fun e he => .inl ?_⟩
  · rw [upd_ne fun z => z3 _ (look_mem h) z.symm]; exact z1
  · have := List.mem_map_of_mem (f := (·.1)) he
    rw [put_fst] at this
    obtain ⟨q, hq, z⟩ := List.mem_map.mp this
    exact ⟨q, hq, z⟩
end
def dSetIx (do_ di dv : DE) : DTS := fun E ds ms => dv ds ms fun v m1 => do_ ds m1 fun o m2 => di ds m2 fun i m3 => match o, i with
  | .opq (.ref p), .int k => (match look m3 p with
    | some xs => (match ixN xs.length k with
      | some j => E.nx ds (put m3 p (xs.set j v))
      | none => False)
    | none => False)
  | _, _ => False
section
variable {X : Cx} {o i e : Expr} {do_ di dv : DE} {pos spos : Pos}
theorem pds_setIx (he : PD X e dv) (ho : PD X o do_) (hi : PD X i di)
    (ha : ∀ v, assign (.Subscript o i pos) X.env v = (do
      let ov ← holding [v] (eval o X.env)
      let iv ← holding [v, ov] (eval i X.env)
      standAt pos
      holding [v, ov, iv] (setItem ov iv v)
      release [v, ov, iv] []) := by intro _; rfl)
    (hs : swapsWithSole [.Subscript o i pos] e spos.line X.env = pure false := by rfl) (hw : swappedStores [.Subscript o i pos] e X.env = pure none := by rfl)
    (h1 : (assignEach [.Subscript o i pos] X.env).map (·.2) = [assign (.Subscript o i pos) X.env] := by rfl) : PDS X (.Assign [.Subscript o i pos] e spos) (dSetIx do_ di dv) :=
  psImp (ps_asg he (pg_sub ho hi set_list ha) hs hw h1) fun D σ H ⟨F, ds, ms, E, R, S, h, n, r, k, q⟩ =>
    ⟨F, ds, ms, _, R, S, h, fun d m1 v F1 H1 p1 R1 s1 r1 => ⟨F1, ds, m1, _, R1, S.mono s1.sub, p1, fun do' m2 o' F2 H2 p2 R2 s2 r2 =>
      ⟨F2, ds, m2, _, R2, S.mono (s1.trans s2).sub, p2, fun di' m3 i' F3 H3 p3 R3 s3 r3 => by
        match do', di', p3, r2, r3 with
        | .opq (.ref p), .int kk, p3, r2, .int _ =>
          cases r2
          cases e1 : look m3 p with
          | none => simp only [e1] at p3
          | some xs =>
            simp only [e1] at p3
            cases e2 : ixN xs.length kk with
            | none => simp only [e2] at p3
            | some j =>
              simp only [e2] at p3
              obtain ⟨hF, vs, hH, rs⟩ := R3.look e1
              refine ⟨p, vs, kk, j, rfl, rfl, hH, by rw [rs.length]; exact e2, ?_⟩
              have s13 := (s1.trans s2).trans s3
              exact n ds _ σ F3 _ p3 (relPut R3 e1 (rs.set ((r1.mono s2.sub).mono s3.sub) j)) (s13.trans (stpPut R3 e1)) (S.mono s13.sub)⟩⟩⟩
end
def dAppend (dx : DE) (aa : DA) : DE := fun ds ms P => dx ds ms fun x m1 => match x with
  | .opq (.ref p) => (∃ xs0, look m1 p = some xs0) ∧ aa ds m1 fun ys m2 => (match ys with
    | [y] => (match look m2 p with
      | some xs => xs.length < sizeLine ∧ P .non (put m2 p (xs ++ [y]))
      | none => False)
    | _ => False)
  | _ => False
section
variable {X : Cx} {o e : Expr} {dx : DE} {aa : DA} {apos cpos : Pos}
theorem pd_append (ho : PD X o dx) (ha : PDA X [e] aa)
    (hbase : attributeBase o "append" X.env (eval o X.env) = eval o X.env := by rfl)
    (hfew : ((backTo cpos (starEach [e] X.env)).all (fun x => !x.1) && (backToKw cpos (keywordEach [] X.env)).all (fun x => x.1.isSome) && decide ([e].length + ([] : List Keyword).length + (if ([] : List Keyword).isEmpty then 0 else 1) < 30)) = true := by rfl)
    (hline : (apos.endLine == cpos.line) = true := by rfl) (hs : starEach [e] X.env = (false, eval e X.env) :: starEach [] X.env := by rfl) (hplain : (backTo cpos (starEach [] X.env)).any (·.1) = false := by rfl) :
    PD X (.Call (.Attribute o "append" apos) [e] [] cpos) (dAppend dx aa) :=
  peImp (pe_bm PySem.F.plainAttrs_list PySem.F.slot_list_append PySem.F.type_list_append mt_append ho ha hbase hfew hline hs hplain) fun σ H Q ⟨F, ds, ms, P, R, S, h1, h2⟩ =>
    ⟨F, ds, ms, _, R, S, h1, fun x m1 v F1 H1 p1 R1 s1 r1 => by
      match x, p1, r1 with
      | .opq (.ref p), ⟨⟨xs0, e0⟩, h⟩, r1 =>
        cases r1
        obtain ⟨hF, vs, hH, rs⟩ := R1.look e0
        refine ⟨.inl ⟨rfl, vs, SqL.of hH⟩, F1, ds, m1, _, R1, S.mono s1.sub, h, fun ys m2 ws F2 H2 p2 R2 s2 r2 => ?_⟩
        match ys, r2, p2 with
        | [y], .cons ry .nil, p3 =>
          cases e1 : look m2 p with
          | none => simp only [e1] at p3
          | some xs =>
            simp only [e1] at p3
            obtain ⟨hF2, vs2, hH2, rs2⟩ := R2.look e1
            exact ⟨p, vs2, _, rfl, rfl, hH2, by rw [rs2.length]; exact p3.1, h2 _ _ _ F2 _ p3.2 (relPut R2 e1 (rs2.append (.cons ry .nil))) ((s1.trans s2).trans (stpPut R2 e1)) .non⟩⟩
end
def drp : MS → Addr → MS
  | [], _ => []
  | (q, xs) :: r, p => if q = p then r else (q, xs) :: drp r p
theorem drp_sub : ∀ {ms : MS} {p : Addr}, ∀ e ∈ drp ms p, e ∈ ms
  | [], _, _, h => by cases h
  | (q, xs) :: r, p, e, h => by
    unfold drp at h
    split at h
    · exact List.mem_cons_of_mem _ h
    · rcases List.mem_cons.mp h with rfl | h
      · exact List.mem_cons_self
      · exact List.mem_cons_of_mem _ (drp_sub e h)
theorem drp_ne : ∀ {ms : MS} {p : Addr}, (ms.map (·.1)).Nodup → ∀ e ∈ drp ms p, e.1 ≠ p
  | [], _, _, _, h => by cases h
  | (q, xs) :: r, p, nd, e, h => by
    rw [List.map_cons, List.nodup_cons] at nd
    unfold drp at h
    split at h
    · rename_i hq
      exact fun z => nd.1 (by show q ∈ _; rw [hq, ← z]; exact List.mem_map_of_mem h)
    · rename_i hq
      rcases List.mem_cons.mp h with rfl | h
      · exact hq
      · exact drp_ne nd.2 e h
theorem drp_nd : ∀ {ms : MS} {p : Addr}, (ms.map (·.1)).Nodup → ((drp ms p).map (·.1)).Nodup
  | [], _, h => h
  | (q, xs) :: r, p, nd => by
    rw [List.map_cons, List.nodup_cons] at nd
    unfold drp
    split
    · exact nd.2
    · rw [List.map_cons, List.nodup_cons]
      refine ⟨fun z => nd.1 ?_, drp_nd nd.2⟩
      obtain ⟨e, he, ze⟩ := List.mem_map.mp z
      exact List.mem_map.mpr ⟨e, drp_sub e he, ze⟩
section
variable {K : PySem.W.Frag} {F H : Hp} {ms : MS}
theorem relFrz (R : Rel K F H ms) {p : Addr} {xs : List D} (h : look ms p = some xs) : ∃ vs, Rel K (upd F p (.lst vs)) H (drp ms p) ∧ Stp F H ms (upd F p (.lst vs)) H (drp ms p) ∧ DR K (upd F p (.lst vs)) (.ref p) (.lst xs) := by
  obtain ⟨hF, vs, hH, rs⟩ := R.look h
  have sF : Sub F (upd F p (.lst vs)) := Sub.new hF
  refine ⟨vs, ⟨fun b u e => ?_, fun e he => ?_, drp_nd R.nd, R.one.mono sF⟩, ⟨sF, fun a u h _ _ => h, fun a u e => ?_, fun e he => .inl ⟨e, drp_sub e he, rfl⟩⟩, .lst upd_same (rs.mono sF)⟩
  · by_cases hb : b = p
    · subst hb; rw [upd_same] at e; rw [hH]; exact e
    · rw [upd_ne hb] at e; exact R.sub b u e
  · obtain ⟨y1, us, y2, y3⟩ := R.mu e (drp_sub e he)
    exact ⟨by rw [upd_ne (drp_ne R.nd e he)]; exact y1, us, y2, y3.mono sF⟩
  · by_cases hb : a = p
    · subst hb; exact .inr (.inr ⟨_, look_mem h, rfl⟩)
    · rw [upd_ne hb] at e; exact .inl e
end
def dFrz (de : DE) : DE := fun ds ms P => de ds ms fun d m => match d with
  | .opq (.ref p) => (match look m p with
    | some xs => P (.lst xs) (drp m p)
    | none => False)
  | _ => False
theorem pd_frz {X : Cx} {e : Expr} {de : DE} (h : PD X e de) : PD X e (dFrz de) := peImp h fun σ H Q ⟨F, ds, ms, P, R, S, h1, h2⟩ =>
  ⟨F, ds, ms, _, R, S, h1, fun d m v F1 H1 p1 R1 s1 r1 => by
    match d, p1, r1 with
    | .opq (.ref p), p1, r1 =>
      cases r1
      cases e1 : look m p with
      | none => simp only [e1] at p1
      | some xs =>
        simp only [e1] at p1
        obtain ⟨vs, z1, z2, z3⟩ := relFrz R1 e1
        exact h2 _ _ _ _ _ p1 z1 (s1.trans z2) z3⟩
end DL
namespace DL
open PySem PySem.Spec PyProof.Rows L2
abbrev CF := List D → MS → (D → MS → Prop) → Prop
def CalD (K : PySem.W.Frag) (r : List V → Hp → VK → Prop) (f : CF) : Prop := ∀ (F H : Hp) (ms : MS) (vs : List V) (xs : List D) (P : D → MS → Prop) (Q : VK), Rel K F H ms → DRs K F vs xs → f xs ms P →
  (∀ d ms' v F' H', P d ms' → Rel K F' H' ms' → Stp F H ms F' H' ms' → DR K F' v d → Q v H') → r vs H Q
def dCB (f : CF) (aa : DA) : DE := fun ds ms P => aa ds ms fun xs m => f xs m P
section
variable {X : Cx} {K : PySem.W.Frag} {x : Str} {p pos : Pos} {e : Expr} {es : List Expr} {aa : DA} {id T : String} {r : List V → Hp → VK → Prop} {f : CF} {da : DE}
theorem lift_cb (hf : CalD K r f) : ∀ σ H Q, lift K (dCB f aa) σ H Q → tCB r (liftA K aa) σ H Q := fun σ H Q ⟨F, ds, ms, P, R, S, h1, h2⟩ =>
  ⟨F, ds, ms, _, R, S, h1, fun xs m vs F1 H1 p1 R1 s1 r1 => hf F1 H1 m vs xs P Q R1 r1 p1 fun d m2 v F2 H2 p2 R2 s2 r2 => h2 d m2 v F2 H2 p2 R2 (s1.trans s2) r2⟩
theorem pd_callB (hc : CallR X (.builtin id) r) (hf : CalD X.K r f) (hg : Gl X x) (hm : X.mg x = none) (hv : bootBuiltins x = some (.builtin id)) (ha : PDA X (e :: es) aa) (hn : x ≠ "__name__" := by decide) (hdb : (x == ("__debug__" : Str)) = false := by decide)
    (he : starEach (e :: es) X.env = (false, eval e X.env) :: starEach es X.env := by rfl) (hpl : (backTo pos (starEach es X.env)).any (·.1) = false := by rfl) : PD X (.Call (.Name x p) (e :: es) [] pos) (dCB f aa) :=
  peImp (pe_callB hc hg hm hv ha hn hdb he hpl) (lift_cb hf)
theorem pd_callTy (hc : CallR X (.type T) r) (hf : CalD X.K r f) (hg : Gl X x) (hm : X.mg x = none) (hv : bootBuiltins x = some (.type T)) (ha : PDA X (e :: es) aa) (hn : x ≠ "__name__" := by decide) (hdb : (x == ("__debug__" : Str)) = false := by decide)
    (he : starEach (e :: es) X.env = (false, eval e X.env) :: starEach es X.env := by rfl) (hpl : (backTo pos (starEach es X.env)).any (·.1) = false := by rfl) : PD X (.Call (.Name x p) (e :: es) [] pos) (dCB f aa) :=
  peImp (pe_callTy hc hg hm hv ha hn hdb he hpl) (lift_cb hf)
end
def cAbs : CF := fun xs ms P => match xs with
  | [.int i] => P (.int (if i < 0 then -i else i)) ms
  | _ => False
def cMax2 : CF := fun xs ms P => match xs with
  | [.int i, .int j] => P (.int (if j > i then j else i)) ms
  | _ => False
def cMin2 : CF := fun xs ms P => match xs with
  | [.int i, .int j] => P (.int (if j < i then j else i)) ms
  | _ => False
def cInt1 : CF := fun xs ms P => match xs with
  | [.int i] => P (.int i) ms
  | [.bl k] => P (.int (if k then 1 else 0)) ms
  | _ => False
def cLen : CF := fun xs ms P => match xs with
  | [.str z] => z.length ≤ sizeLine ∧ P (.int z.length) ms
  | [.tup ys] => P (.int ys.length) ms
  | [d] => (match asL d ms with
    | some ys => P (.int ys.length) ms
    | none => False)
  | _ => False
def cList : CF := fun xs ms P => match xs with
  | [.tup ys] => P (.lst ys) ms
  | [d] => (match asL d ms with
    | some ys => P (.lst ys) ms
    | none => False)
  | _ => False
def cTuple : CF := fun xs ms P => match xs with
  | [.tup ys] => P (.tup ys) ms
  | [d] => (match asL d ms with
    | some ys => P (.tup ys) ms
    | none => False)
  | _ => False
/-- the truths in a list, the ints in a list -/
def blsOf : List D → Option (List Bool)
  | [] => some []
  | .bl b :: r => (blsOf r).map (b :: ·)
  | _ :: _ => none
def intsOf : List D → Option (List Int)
  | [] => some []
  | .int b :: r => (intsOf r).map (b :: ·)
  | _ :: _ => none
def cAll : CF := fun xs ms P => match xs with
  | [.lst ys] => (match blsOf ys with
    | some bs => P (.bl (bs.all id)) ms
    | none => False)
  | _ => False
def cAny : CF := fun xs ms P => match xs with
  | [.lst ys] => (match blsOf ys with
    | some bs => P (.bl (bs.any id)) ms
    | none => False)
  | _ => False
def cSum : CF := fun xs ms P => match xs with
  | [.lst ys] => (match intsOf ys with
    | some ns => P (.int ns.sum) ms
    | none => False)
  | _ => False
section
variable {X : Cx} {K : PySem.W.Frag} {F : Hp}
theorem DRs.bls : ∀ {vs : List V} {ys : List D} {bs : List Bool}, DRs K F vs ys → blsOf ys = some bs → vs = bs.map V.bl
  | _, _, _, .nil, h => by cases h; rfl
  | _, .bl b :: r, bs, .cons (.bl _) t, h => by
    unfold blsOf at h
    obtain ⟨cs, e, rfl⟩ := Option.map_eq_some_iff.mp h
    rw [List.map_cons, DRs.bls t e]
  | _, .non :: _, _, .cons _ _, h => by cases h
  | _, .int _ :: _, _, .cons _ _, h => by cases h
  | _, .str _ :: _, _, .cons _ _, h => by cases h
  | _, .lst _ :: _, _, .cons _ _, h => by cases h
  | _, .tup _ :: _, _, .cons _ _, h => by cases h
  | _, .fro _ :: _, _, .cons _ _, h => by cases h
  | _, .edic :: _, _, .cons _ _, h => by cases h
  | _, .dct _ :: _, _, .cons _ _, h => by cases h
  | _, .opq _ :: _, _, .cons _ _, h => by cases h
  | _, .exc _ _ _ :: _, _, .cons _ _, h => by cases h
theorem cal_abs : CalD K (fun xs H Q => ∃ i, xs = [.int i] ∧ Q (.int (if i < 0 then -i else i)) H) cAbs := fun F H ms vs xs P Q R r h q => by
  match xs, r, h with
  | [.int i], .cons (.int _) .nil, h => exact ⟨i, rfl, q _ ms _ F H h R Stp.refl (.int _)⟩
theorem cal_max2 : CalD K (fun xs H Q => ∃ i j, xs = [.int i, .int j] ∧ Q (.int (if j > i then j else i)) H) cMax2 := fun F H ms vs xs P Q R r h q => by
  match xs, r, h with
  | [.int i, .int j], .cons (.int _) (.cons (.int _) .nil), h => exact ⟨i, j, rfl, q _ ms _ F H h R Stp.refl (.int _)⟩
theorem cal_min2 : CalD K (fun xs H Q => ∃ i j, xs = [.int i, .int j] ∧ Q (.int (if j < i then j else i)) H) cMin2 := fun F H ms vs xs P Q R r h q => by
  match xs, r, h with
  | [.int i, .int j], .cons (.int _) (.cons (.int _) .nil), h => exact ⟨i, j, rfl, q _ ms _ F H h R Stp.refl (.int _)⟩
theorem cal_int1 : CalD K (fun xs H Q => (∃ i, xs = [.int i] ∧ Q (.int i) H) ∨ ∃ k, xs = [.bl k] ∧ Q (.int (if k then 1 else 0)) H) cInt1 := fun F H ms vs xs P Q R r h q => by
  match xs, r, h with
  | [.int i], .cons (.int _) .nil, h => exact .inl ⟨i, rfl, q _ ms _ F H h R Stp.refl (.int _)⟩
  | [.bl i], .cons (.bl _) .nil, h => exact .inr ⟨i, rfl, q _ ms _ F H h R Stp.refl (.int _)⟩
theorem cal_len : CalD K (fun xs H Q => ∃ x n, xs = [x] ∧ LenV K x H n ∧ Q (.int n) H) cLen := fun F H ms vs xs P Q R r h q => by
  match xs, r, h with
  | a :: _ :: _, _, h => cases a <;> exact h.elim
  | [d], .cons (v := v) rd .nil, h =>
    have fin : ∀ {ys : List D}, asL d ms = some ys → P (.int ys.length) ms → ∃ x n, [v] = [x] ∧ LenV K x H n ∧ Q (.int n) H := by
      intro ys e hp
      obtain ⟨a, ws, rfl, h1, h2⟩ := R.asL rd e
      exact ⟨_, _, rfl, .inl ⟨ws, h1, rfl⟩, q _ ms _ F H (by rw [h2.length]; exact hp) R Stp.refl (.int _)⟩
    cases rd with
    | str z => exact ⟨_, _, rfl, ⟨h.1, rfl⟩, q _ ms _ F H h.2 R Stp.refl (.int _)⟩
    | tup ha hs => exact ⟨_, _, rfl, .inr ⟨_, R.sub.sqT ha, rfl⟩, q _ ms _ F H (by rw [hs.length]; exact h) R Stp.refl (.int _)⟩
    | lst ha hs => exact fin rfl h
    | fro ha hs => exact fin rfl h
    | opq _ =>
      unfold cLen at h
      simp only at h
      cases e : asL (.opq v) ms with
      | none => rw [e] at h; exact h.elim
      | some ys => rw [e] at h; exact fin e h
    | _ => exact h.elim
theorem cal_list : CalD K (fun xs H Q => ∃ p ys, xs = [.ref p] ∧ (SqL K H p ys ∨ SqT K H p ys) ∧ ∀ l, H l = none → Q (.ref l) (upd H l (.lst ys))) cList := fun F H ms vs xs P Q R r h q => by
  match xs, r, h with
  | a :: _ :: _, _, h => cases a <;> exact h.elim
  | [d], .cons (v := v) rd .nil, h =>
    have fin : ∀ {ys : List D}, asL d ms = some ys → P (.lst ys) ms → ∃ p zs, [v] = [V.ref p] ∧ (SqL K H p zs ∨ SqT K H p zs) ∧ ∀ l, H l = none → Q (.ref l) (upd H l (.lst zs)) := by
      intro ys e hp
      obtain ⟨a, ws, rfl, h1, h2⟩ := R.asL rd e
      exact ⟨_, _, rfl, .inl h1, fun l hl => q _ ms _ _ _ hp (R.new hl) (Stp.new R hl) (R.newLst hl h2)⟩
    cases rd with
    | tup ha hs => exact ⟨_, _, rfl, .inr (R.sub.sqT ha), fun l hl => q _ ms _ _ _ h (R.new hl) (Stp.new R hl) (R.newLst hl hs)⟩
    | lst ha hs => exact fin rfl h
    | fro ha hs => exact fin rfl h
    | opq _ =>
      unfold cList at h
      simp only at h
      cases e : asL (.opq v) ms with
      | none => rw [e] at h; exact h.elim
      | some ys => rw [e] at h; exact fin e h
    | _ => exact h.elim
theorem cal_tuple : CalD K (fun xs H Q => ∃ p ys, xs = [.ref p] ∧ ((SqL K H p ys ∧ ∀ l, H l = none → Q (.ref l) (upd H l (.tup ys))) ∨ (SqT K H p ys ∧ Q (.ref p) H))) cTuple := fun F H ms vs xs P Q R r h q => by
  match xs, r, h with
  | a :: _ :: _, _, h => cases a <;> exact h.elim
  | [d], .cons (v := v) rd .nil, h =>
    have fin : ∀ {ys : List D}, asL d ms = some ys → P (.tup ys) ms → ∃ p zs, [v] = [V.ref p] ∧ ((SqL K H p zs ∧ ∀ l, H l = none → Q (.ref l) (upd H l (.tup zs))) ∨ (SqT K H p zs ∧ Q (.ref p) H)) := by
      intro ys e hp
      obtain ⟨a, ws, rfl, h1, h2⟩ := R.asL rd e
      exact ⟨_, _, rfl, .inl ⟨h1, fun l hl => q _ ms _ _ _ hp (R.new hl) (Stp.new R hl) (R.newTup hl h2)⟩⟩
    cases rd with
    | tup ha hs => exact ⟨_, _, rfl, .inr ⟨R.sub.sqT ha, q _ ms _ F H h R Stp.refl (.tup ha hs)⟩⟩
    | lst ha hs => exact fin rfl h
    | fro ha hs => exact fin rfl h
    | opq _ =>
      unfold cTuple at h
      simp only at h
      cases e : asL (.opq v) ms with
      | none => rw [e] at h; exact h.elim
      | some ys => rw [e] at h; exact fin e h
    | _ => exact h.elim
theorem cal_all : CalD K (rAll K) cAll := fun F H ms vs xs P Q R r h q => by
  match xs, r, h with
  | [.lst ys], .cons (.lst ha hs) .nil, h =>
    unfold cAll at h
    cases e : blsOf ys with
    | none => simp only [e] at h
    | some bs =>
      simp only [e] at h
      have e2 := hs.bls e
      subst e2
      exact ⟨_, bs, rfl, SqL.of (R.sub _ _ ha), q _ ms _ F H h R Stp.refl (.bl _)⟩
end
def Shw (d : D) : Prop := ∃ p, toPy d = some p ∧ p.showable = true ∧ p.depth ≤ 100 ∧ p.shown.length ≤ sizeLine
def repS (d : D) : Str := match toPy d with
  | some p => p.shown
  | none => default
def cRepr : CF := fun xs ms P => match xs with
  | [d] => Shw d ∧ P (.str (repS d)) ms
  | _ => False
def rRepr (K : PySem.W.Frag) : List V → Hp → VK → Prop := fun xs H Q => ∃ F x d, xs = [x] ∧ Sub F H ∧ OneR K F ∧ DR K F x d ∧ Shw d ∧ Q (.str (repS d)) H
theorem call_reprD {X : Cx} {k : Nat} (hr : RoomG k X.A) : CallR X (.builtin "repr") (rRepr X.K) := by
  intro pins s σ H xs us Q I r h
  obtain ⟨F, x, d, rfl, sb, one, hd, ⟨p, e, z1, z3, z4⟩, q⟩ := h
  obtain ⟨u, rfl, ru⟩ := vals1 r
  obtain ⟨as, rd, ou⟩ := DR.readsA I sb d p x u hd e ru
  have z2 : p.hasDict = true → sysModules ∉ as := fun _ hm => (ou _ hm).not1 one rfl
  have er : repS d = p.shown := by unfold repS; rw [e]
  rw [er] at q
  have hu : X.A.units + (p.depth + 1) < cLine := by have := hr.r.un; omega
  cases rd with
  | none => exact PySem.P.repr_of_none ⟨.str _, H, I.tok _, ⟨_, rfl⟩, q⟩
  | bool b => exact PySem.P.repr_of_bool ⟨.str _, H, I.tok _, ⟨_, rfl⟩, q⟩
  | int i t => exact PySem.P.repr_of_int (of_decide_eq_true z1) ⟨.str _, H, I.tok _, ⟨_, rfl⟩, q⟩
  | str y t => exact PySem.P.repr_of_str ⟨.str _, H, I.tok _, ⟨_, rfl⟩, q⟩ z4
  | list h1 h2 h3 h4 => exact repr_of_reads' (.list h1 h2 h3 h4) z1 z2 hr.g hu (fun _ _ e => e) (fun h' t tk hk => ⟨.str _, H, I.kept hk, ⟨_, rfl⟩, q⟩) z4
  | tuple h1 h2 h3 h4 => exact repr_of_reads' (.tuple h1 h2 h3 h4) z1 z2 hr.g hu (fun _ _ e => e) (fun h' t tk hk => ⟨.str _, H, I.kept hk, ⟨_, rfl⟩, q⟩) z4
  | dict h1 h2 h3 h4 h5 => exact repr_of_reads' (.dict h1 h2 h3 h4 h5) z1 z2 hr.g hu (fun _ _ e => e) (fun h' t tk hk => ⟨.str _, H, I.kept hk, ⟨_, rfl⟩, q⟩) z4
theorem cal_repr {K : PySem.W.Frag} : CalD K (rRepr K) cRepr := fun F H ms vs xs P Q R r h q => by
  match xs, r, h with
  | [d], .cons rd .nil, h => exact ⟨F, _, d, rfl, R.sub, R.one, rd, h.1, q _ ms _ F H h.2 R Stp.refl (.str _)⟩
inductive Ty where
  | non | bool | int | str | list | tuple | dict
  deriving DecidableEq
def Ty.nm : Ty → String
  | .non => "NoneType"
  | .bool => "bool"
  | .int => "int"
  | .str => "str"
  | .list => "list"
  | .tuple => "tuple"
  | .dict => "dict"
def tyD (d : D) : Option Ty := match d with
  | .non => some .non
  | .bl _ => some .bool
  | .int _ => some .int
  | .str _ => some .str
  | .lst _ => some .list
  | .tup _ => some .tuple
  | .edic => some .dict
  | _ => none
def subT (a b : Ty) : Bool := decide (a = b) || (decide (a = .bool) && decide (b = .int))
theorem subT_ok : ∀ a b : Ty, b ≠ .non → kitB a.nm b.nm = some (subT a b) := by
  intro a b h
  cases a <;> cases b <;> first | exact absurd rfl h | decide +kernel
def dIsi (T : Ty) (de : DE) : DE := fun ds ms P => de ds ms fun d m => match tyD d with
  | some a => P (.bl (subT a T)) m
  | none => False
theorem tyX_of {K : PySem.W.Frag} {F H : Hp} {ms : MS} {v : V} {d : D} {a : Ty} (R : Rel K F H ms) (r : DR K F v d) (h : tyD d = some a) : TyX K H v (.type a.nm) := by
  cases r with
  | non => cases h; exact .base .non
  | bl b => cases h; exact .base (.bl b)
  | int i => cases h; exact .base (.int i)
  | str x => cases h; exact .base (.str x)
  | lst ha hs => cases h; exact .base (.lst (R.sub _ _ ha))
  | tup ha hs =>
    cases h
    rcases R.sub.sqT ha with (z | ⟨o, z⟩) | ⟨o, its, n, z1, z2, _⟩
    · exact .base (.tup z)
    · exact .fTuple z
    · exact .kTuple z1 z2
  | edic ha => cases h; exact .base (.dK (R.sub _ _ ha))
  | _ => cases h
theorem pd_isi {X : Cx} {e : Expr} {de : DE} {x : Str} {p p2 pos : Pos} (T : Ty) (hT : T ≠ .non) (hg : Gl X "isinstance") (hm : X.mg "isinstance" = none) (hg2 : Gl X x) (hm2 : X.mg x = none) (hv : bootBuiltins x = some (.type T.nm)) (hn : x ≠ "__name__") (hd : (x == ("__debug__" : Str)) = false)
    (h : PD X e de) (he : starEach [e, .Name x p2] X.env = (false, eval e X.env) :: starEach [.Name x p2] X.env := by rfl) (hpl : (backTo pos (starEach [.Name x p2] X.env)).any (·.1) = false := by rfl) :
    PD X (.Call (.Name "isinstance" p) [e, .Name x p2] [] pos) (dIsi T de) :=
  peImp (pe_callB call_isi hg hm (by decide +kernel) (pa_cons h (pa_cons (pe_bltn (v := .ty T.nm) hg2 hm2 hv rfl hn hd) pa_nil) he) (by decide) (by decide) he hpl) fun σ H Q ⟨F, ds, ms, P, R, S, h1, h2⟩ =>
    ⟨F, ds, ms, _, R, S, h1, fun d m v F1 H1 p1 R1 s1 r1 => by
      cases e1 : tyD d with
      | none => rw [e1] at p1; exact p1.elim
      | some a =>
        rw [e1] at p1
        exact ⟨v, .ty T.nm, .type a.nm, .type T.nm, _, rfl, .ty _, tyX_of R1 r1 e1, kit_ty (subT_ok a T hT), h2 _ m _ F1 H1 p1 R1 s1 (.bl _)⟩⟩
abbrev DO := DS → MS → (Option Int → MS → Prop) → Prop
def liftO (K : PySem.W.Frag) (t : DO) : TO := fun σ H Q => ∃ F ds ms P, Rel K F H ms ∧ Sl K F σ ds ∧ t ds ms P ∧ ∀ o ms' F' H', P o ms' → Rel K F' H' ms' → Stp F H ms F' H' ms' → Q o H'
abbrev PDO (X : Cx) (e : Option Expr) (t : DO) : Prop := PO X e (liftO X.K t)
theorem poImp {X : Cx} {e : Option Expr} {t t' : TO} (h : PO X e t) (hi : ∀ σ H Q, t' σ H Q → t σ H Q) : PO X e t' := ⟨fun pins s σ H Q I hq => h.run pins s σ H Q I (hi σ H Q hq)⟩
def oNone : DO := fun _ ms P => P none ms
def oSome (de : DE) : DO := fun ds ms P => de ds ms fun d m => match d with
  | .int i => P (some i) m
  | _ => False
def cutL {α : Type} (xs : List α) (lo hi : Option Int) : List α := (xs.drop (HT.sIx xs.length 0 lo)).take (HT.sIx xs.length xs.length hi - HT.sIx xs.length 0 lo)
abbrev SF := D → Option Int → Option Int → MS → (D → MS → Prop) → Prop
def fSl : SF := fun x lo hi ms P => match x with
  | .str z => z.length ≤ sizeLine ∧ P (.str (cutS z lo hi)) ms
  | .tup xs => P (.tup (cutL xs lo hi)) ms
  | _ => (match asL x ms with
    | some xs => P (.lst (cutL xs lo hi)) ms
    | none => False)
def dSl (de : DE) (lo hi : DO) : DE := fun ds ms P => de ds ms fun x m1 => lo ds m1 fun l m2 => hi ds m2 fun u m3 => fSl x l u m3 P
section
variable {X : Cx} {K : PySem.W.Frag} {e : Expr} {de : DE} {lo hi : Option Expr} {tl th : DO} {p2 pos : Pos} {F : Hp}
theorem pdo_none : PDO X none oNone := poImp po_none fun σ H Q ⟨F, ds, ms, P, R, S, h1, h2⟩ => h2 none ms F H h1 R Stp.refl
theorem pdo_some (h : PD X e de) : PDO X (some e) (oSome de) := poImp (po_some h) fun σ H Q ⟨F, ds, ms, P, R, S, h1, h2⟩ =>
  ⟨F, ds, ms, _, R, S, h1, fun d m v F1 H1 p1 R1 s1 r1 => by
    cases r1 with
    | int i => exact ⟨i, rfl, h2 _ m F1 H1 p1 R1 s1⟩
    | _ => exact p1.elim⟩
theorem DRs.cut {vs : List V} {xs : List D} (r : DRs K F vs xs) (l u : Option Int) : DRs K F (cutV vs l u) (cutL xs l u) := by
  unfold cutV cutL
  rw [r.length]
  exact (r.drop _).take _
def rSlD (K : PySem.W.Frag) : V → Option Int → Option Int → Hp → VK → Prop := fun x l u H Q => rSlL K x l u H Q ∨ (rSlS x l u H Q ∨ rSlA K x l u H Q)
theorem sl_D : SlR X (rSlD X.K) := sl_list.or (sl_str.or sl_tupA)
theorem pd_slice (he : PD X e de) (hl : PDO X lo tl) (hu : PDO X hi th) : PD X (.Subscript e (.Slice lo hi none p2) pos) (dSl de tl th) := peImp (pe_slice sl_D he hl hu) fun σ H Q ⟨F, ds, ms, P, R, S, h1, h2⟩ =>
  ⟨F, ds, ms, _, R, S, h1, fun x m1 v F1 H1 p1 R1 s1 r1 => ⟨F1, ds, m1, _, R1, S.mono s1.sub, p1, fun l m2 F2 H2 p2 R2 s2 => ⟨F2, ds, m2, _, R2, S.mono (s1.trans s2).sub, p2, fun u m3 F3 H3 p3 R3 s3 => by
    have s13 := (s1.trans s2).trans s3
    have r3 := (r1.mono s2.sub).mono s3.sub
    have lst : ∀ {xs : List D}, asL x m3 = some xs → P (.lst (cutL xs l u)) m3 → rSlD X.K v l u H3 Q := by
      intro xs e1 hp
      obtain ⟨a, ws, rfl, z1, z2⟩ := R3.asL r3 e1
      exact .inl ⟨a, ws, rfl, z1, fun p hp2 => h2 _ m3 _ _ _ hp (R3.new hp2) (s13.trans (Stp.new R3 hp2)) (R3.newLst hp2 (z2.cut l u))⟩
    cases r3 with
    | str z => exact .inr (.inl ⟨z, rfl, p3.1, h2 _ m3 _ F3 H3 p3.2 R3 s13 (.str _)⟩)
    | tup ha hs =>
      refine .inr (.inr ⟨_, _, rfl, R3.sub.sqT ha, fun e => ?_, fun _ p hp2 => h2 _ m3 _ _ _ p3 (R3.new hp2) (s13.trans (Stp.new R3 hp2)) (R3.newTup hp2 (hs.cut l u))⟩)
      have p3 : P (.tup (cutL _ l u)) m3 := p3
      unfold cutL at p3
      rw [hs.length] at e
      rw [e.1, e.2, List.drop_zero, Nat.sub_zero, List.take_length] at p3
      exact h2 _ m3 _ F3 H3 p3 R3 s13 (.tup ha hs)
    | lst ha hs => exact lst rfl p3
    | fro ha hs => exact lst rfl p3
    | opq _ =>
      unfold fSl at p3
      simp only at p3
      cases e1 : asL (.opq v) m3 with
      | none => rw [e1] at p3; exact p3.elim
      | some xs => rw [e1] at p3; exact lst e1 p3
    | _ => exact p3.elim⟩⟩⟩
end
end DL
namespace DL
open PySem PySem.Spec PyProof.Rows L2
theorem bnd_of {K : PySem.W.Frag} {x qual : Str} {st : Stmt} {f : Addr} {fd : FuncData} {ps ks : List Str} {n : Nat} {is : List Nat} (F : Fun K x qual st f fd)
    (h : ∀ (kV doc pm : Value) (an : Option Addr) (cdv ct : Value) (us ws : List Value), us.length = n → ws.length = ks.length →
      bindArgs (PySem.W.fnOf x qual (defArgs st) (defBody st) (defScope st) .none kV doc pm an cdv ct) ⟨us, ks.zip ws⟩ = pure (ps.zip (pick is (us ++ ws)))) : Bnd K fd ps n ks is := by
  obtain ⟨oc, od, kV, doc, pm, an, cdv, ct, osl, e, lk, hcd⟩ := F.ex
  subst e
  exact ⟨fun s us ws _ h1 h2 => .of_eq (h kV doc pm an cdv ct us ws h1 h2)⟩
/-- the law's call at the heap behind the top -/
theorem lawG {P : Program} {w : World} {K : PySem.W.Frag} {mg mb : Str → Option Value} {k : Nat} {fa a : Addr} {fd : FuncData} {x : Str} {sp : Sp} {s1 : Shared} {vs : List Value} {ns : List Int}
    (KX : K.In s1.heap) (hns : s1.heap.Ns mainGlobals mg) (hb : s1.heap.Ns builtinsNs mb) (hk1 : K.lookup sysModules = none) (hs1 : s1.heap.NoSeer)
    (hbb : ∀ x : Str, x ≠ "__name__" → mb x = bootBuiltins x) (hlim : s1.heap.NoLimit) (hg : s1.gens = #[])
    (ha : s1.heap.get? a = some { cls := .type "list", data := .seq vs.toArray })
    (hi : IntsAre vs ns) (hl : ns.length ≤ sizeLine) (hr : Room k callerA)
    (G : ∀ base : Heap, K.In base → base.Ns mainGlobals mg → FnG P w K mg base k fa fd [x] sp)
    (hbind : ∀ (s : Shared) (u : Value), BindsTo s fd ⟨[u], []⟩ [(x, u)])
    (hsp : ∀ H : Hp, OneR K H → SqL K H a (ns.map V.int) → sp [.ref a] H (fun v _ => v = .bl true) E0) :
    codeAny (model P w) callerA (.call (.ref fa) ⟨[.ref a], []⟩)
      (fun r s' => r = .ok (.ret (.bool true)) ∧ OldK s1.heap s'.heap ∧ s'.os = s1.os ∧ AllBare s'.gens) s1 := by
  have rv : Vals (ns.map V.int) vs := vals_ints hi
  have lenV := hi.length
  obtain ⟨mm, ⟨om, esm, epm, hom, hdm, _⟩, _⟩ := hs1.mods
  have a1 : a ≠ sysModules := fun z => by
    rw [z, hom] at ha
    cases ha
    cases hdm
  have core : ∀ H : Hp, (∀ b, H b = none ∨ ∃ o u, H b = some (.frz o u)) → OneR K H → SqL K H a (ns.map V.int) → HOk P w H s1.heap → (∀ b, H b ≠ none → b = a ∨ b = sysModules) → (H a ≠ none → K.lookup a = none) →
      codeAny (model P w) callerA (.call (.ref fa) ⟨[.ref a], []⟩)
        (fun r s' => r = .ok (.ret (.bool true)) ∧ OldK s1.heap s'.heap ∧ s'.os = s1.os ∧ AllBare s'.gens) s1 := by
    intro H hO h1 hS hok hA hK
    have noA : ∀ {b : Addr} {o : Obj} {es : Array DictEntry} {ep : Nat}, b ≠ sysModules → s1.heap.get? b = some o → o.data = .dict es ep → H b = none := by
      intro b o es ep hb e d
      cases q : H b with
      | none => rfl
      | some u =>
        have e' : b = a := (hA b (by rw [q]; exact nofun)).resolve_right hb
        rw [e', ha] at e
        cases e
        cases d
    have nsK : ∀ {b : Addr} {m : Str → Option Value}, b ≠ sysModules → s1.heap.Ns b m → (hidT s1.heap H).Ns b m := by
      rintro b m hb ⟨o, es, ep, e, d, r⟩
      exact ⟨o, es, ep, hidT_get e (noA hb e d), d, r⟩
    have hKb : K.In (hidT s1.heap H) := by
      intro b o e
      refine hidT_get (KX b o e) ?_
      cases q : H b with
      | none => rfl
      | some u =>
        have nq : H b ≠ none := by rw [q]; exact nofun
        rcases hA b nq with e' | e'
        · rw [e'] at e nq
          rw [hK nq] at e
          cases e
        · rw [e', hk1] at e
          cases e
    have hM : Mod K mg (hidT s1.heap H) := by
      obtain ⟨mc, h1, h2⟩ := hlim
      exact ⟨hKb, nsK (by decide) hns, ⟨mb, nsK (by decide) hb, hbb⟩, ⟨mc, nsK (by decide) h1, h2⟩⟩
    have e0 : Env0 P w K mg (hidT s1.heap H) callerA [] s1 H := by
      refine ⟨rfl, hM, fun b o e => of_hidT e, Nat.le_of_eq (hidT_size _ _), trivial, fun b hb => ?_, hok, .of_eq hg⟩
      cases hb
    have run := (G _ hKb (nsK (by decide) hns)).go callerA [] s1 H ⟨[.ref a], []⟩ [.ref a] [.ref a] _ ⟨hr, rfl⟩ e0 (hbind s1 (.ref a)) (.cons rfl .nil) (hsp H h1 hS)
    refine codeAny_mono run fun r s' h => ?_
    match r, h with
    | .error e, h => exact h.elim
    | .ok .next, h => exact False.elim h
    | .ok .brk, h => exact False.elim h
    | .ok .cont, h => exact False.elim h
    | .ok (.ret u), h =>
      obtain ⟨v, H', os, bare, un, hok', r', q⟩ := h
      have q' : v = .bl true := q
      subst q'
      have r2 : u = Value.bool true := r'
      subst r2
      refine ⟨rfl, OldK.of_keep fun b o e => ?_, os, bare⟩
      cases q : H b with
      | none => exact un.keep b o e q (fun z => by cases z) (fun z => by cases z)
      | some u =>
        rcases hO b with z | ⟨ob, xs, z⟩
        · rw [q] at z; cases z
        · obtain ⟨e1, _⟩ := hok b _ z
          obtain ⟨e2, _⟩ := hok' b _ (un.frzs b ob _ z)
          rw [e] at e1
          cases e1
          exact e2
  have o1 : ∀ H : Hp, H sysModules = some (.frz om (.ext fun h => h.get? sysModules = some om)) → ObjOk P w H s1.heap sysModules (.frz om (.ext fun h => h.get? sysModules = some om)) := fun H _ =>
    ⟨hom, hom, ⟨om, hom⟩, fun h1 h2 z k => k _ z⟩
  cases hk : K.lookup a with
  | some o =>
    have e := KX a o hk
    rw [ha] at e
    cases e
    have hH : ∀ b u, (if b = sysModules then some (HO.frz om (.ext fun h => h.get? sysModules = some om)) else none) = some u → b = sysModules ∧ u = HO.frz om (.ext fun h => h.get? sysModules = some om) := by
      intro b u z
      by_cases hb : b = sysModules
      · rw [if_pos hb] at z; cases z; exact ⟨hb, rfl⟩
      · rw [if_neg hb] at z; cases z
    refine core (fun b => if b = sysModules then some (.frz om (.ext fun h => h.get? sysModules = some om)) else none) (fun b => ?_) ⟨hk1, om, _, if_pos rfl⟩ (.inr ⟨_, vs.toArray, _, hk, rfl, rfl, rfl, ?_, ?_⟩) (fun b u z => ?_) (fun b z => ?_) fun z => absurd (if_neg a1) z
    · by_cases hb : b = sysModules
      · exact .inr ⟨_, _, if_pos hb⟩
      · exact .inl (if_neg hb)
    · rw [List.size_toArray, lenV]; exact hl
    · rw [List.toList_toArray]; exact rv
    · obtain ⟨rfl, rfl⟩ := hH b u z
      exact o1 _ (if_pos rfl)
    · cases q : (if b = sysModules then some (HO.frz om (.ext fun h => h.get? sysModules = some om)) else none) with
      | none => exact absurd q z
      | some u => exact .inr (hH b u q).1
  | none =>
    have hH : ∀ b u, (if b = a then some (HO.frz { cls := .type "list", data := .seq vs.toArray } (.lst (ns.map V.int))) else if b = sysModules then some (HO.frz om (.ext fun h => h.get? sysModules = some om)) else none) = some u →
        (b = a ∧ u = HO.frz { cls := .type "list", data := .seq vs.toArray } (.lst (ns.map V.int))) ∨ (b = sysModules ∧ u = HO.frz om (.ext fun h => h.get? sysModules = some om)) := by
      intro b u z
      by_cases hb : b = a
      · rw [if_pos hb] at z; cases z; exact .inl ⟨hb, rfl⟩
      · rw [if_neg hb] at z
        by_cases hb2 : b = sysModules
        · rw [if_pos hb2] at z; cases z; exact .inr ⟨hb2, rfl⟩
        · rw [if_neg hb2] at z; cases z
    refine core (fun b => if b = a then some (.frz { cls := .type "list", data := .seq vs.toArray } (.lst (ns.map V.int))) else if b = sysModules then some (.frz om (.ext fun h => h.get? sysModules = some om)) else none) (fun b => ?_) ⟨hk1, om, _, (if_neg a1.symm).trans (if_pos rfl)⟩ (.inl (.inr ⟨_, if_pos rfl⟩)) (fun b u z => ?_) (fun b z => ?_) fun _ => hk
    · by_cases hb : b = a
      · exact .inr ⟨_, _, if_pos hb⟩
      · by_cases hb2 : b = sysModules
        · exact .inr ⟨_, _, (if_neg hb).trans (if_pos hb2)⟩
        · exact .inl ((if_neg hb).trans (if_neg hb2))
    · rcases hH b u z with ⟨rfl, rfl⟩ | ⟨rfl, rfl⟩
      · refine ⟨ha, ?_, vs, _, rv, ha⟩
        rw [List.length_map]; exact hl
      · exact o1 _ z
    · cases q : (if b = a then some (HO.frz { cls := .type "list", data := .seq vs.toArray } (.lst (ns.map V.int))) else if b = sysModules then some (HO.frz om (.ext fun h => h.get? sysModules = some om)) else none) with
      | none => exact absurd q z
      | some u => exact (hH b u q).imp (·.1) (·.1)
/-- what the head leaves, from the law's promise -/
theorem walkG {l : PySem.W.OpenLaw} {n k : Nat} {q : Program} {loose : List Str} {XP : (Str → Option Value) → Heap → Prop} {YP : World → Heap → Prop} {d : DefRec} {K : Params → PySem.W.Frag} {fs : FS} {x : Str}
    (hn : l.most = some n) (hn2 : n ≤ sizeLine) (hdf : d.params.defaults = []) (hr : Room k callerA) (hq : importsNone q = true) (hK1 : ∀ p : Params, (K p).lookup sysModules = none)
    (hY : ∀ (w : World) (h : Heap), YP w h → (K w.params).In h)
    (G : ∀ (w : World) (mg : Str → Option Value) (fa : Addr) (h : Heap), (K w.params).In h → h.Ns mainGlobals mg → mg d.name = some (.ref fa) →
      ∃ fd : FuncData, (∀ (s : Shared) (u : Value), BindsTo s fd ⟨[u], []⟩ [(x, u)]) ∧
        ∀ base : Heap, (K w.params).In base → base.Ns mainGlobals mg → FnG l.prog w (K w.params) mg base k fa fd [x] (spD (K w.params) fs))
    (hsp : ∀ ns : List Int, ns.length ≤ n → fs [.fro (ns.map D.int)] [] (fun v _ => v = .bl true)) :
    PySem.W.WalkO q loose XP YP l.row.toRowW d [] (fun f vs => PySem.call f vs) := by
  refine Att.attach_call hn hdf ?_
  intro w s0 s1 mg mb fa o pm cd doc a vs ns Gr Y ho hd hcd hmg hobj hints hlen hg
  have KX := hY w _ Y
  obtain ⟨fd, hb, hF⟩ := G w mg fa _ KX Gr.T.g hmg
  refine lawG KX Gr.T.g Gr.T.b (hK1 _) (Gr.T.seer hq) Gr.T.builtins Gr.T.nolimit hg hobj hints (Nat.le_trans hlen hn2) hr hF hb fun H h1 hS => ?_
  refine ⟨H, [.fro (ns.map D.int)], [], _, ⟨Sub.refl H, fun p hp => (by cases hp), List.nodup_nil, h1⟩, .cons (.fro hS (DRs.ints ns)) .nil, hsp ns hlen, ?_⟩
  intro e m v F' H' z R s r
  subst z
  cases r
  rfl
end DL
namespace DL
open PySem PySem.Spec PyProof.Rows L2
abbrev ZK := Str → List Str → List D → MS → Prop
abbrev FX := List D → MS → (D → MS → Prop) → ZK → Prop
def spX (K : PySem.W.Frag) (fs : FX) : Sp := fun vs H Q E => ∃ F ds ms P Z, Rel K F H ms ∧ DRs K F vs ds ∧ fs ds ms P Z ∧
  (∀ d ms' v F' H', P d ms' → Rel K F' H' ms' → Stp F H ms F' H' ms' → DR K F' v d → Q v H') ∧
  (∀ c ns xs ms' cv d ws F' H', Z c ns xs ms' → Rel K F' H' ms' → Stp F H ms F' H' ms' → PySem.W.nsIn K mainGlobals c = some (some cv) → XD F' d ns ws → DRs K F' ws xs → E cv d H')
structure FnX (P : Program) (w : World) (K : PySem.W.Frag) (mg : Str → Option Value) (base : Heap) (k : Nat) (f : Addr) (fd : FuncData) (ps : List Str) (sp : Sp) : Prop where
  len : ∀ vs H Q E, sp vs H Q E → vs.length = ps.length
  go : ∀ (A : Around) (outer : List Env) (s : Shared) (H : Hp) (args : Args) (us : List Value) (vs : List V) (Q : VK) (E : XK), RoomG k A → Env0 P w K mg base A outer s H →
    BindsTo s fd args (ps.zip us) → Vals vs us → sp vs H Q E → codeAny (model P w) A (.call (.ref f) args) (CR (L2.CX P w) outer P w H s Q E) s
/-- where nothing is raised -/
theorem FnX.plain {P : Program} {w : World} {K : PySem.W.Frag} {mg : Str → Option Value} {base : Heap} {k : Nat} {f : Addr} {fd : FuncData} {ps : List Str} {fx : FX} {fs : FS}
    (F : FnX P w K mg base k f fd ps (spX K fx)) (h : ∀ ds ms P, fs ds ms P → fx ds ms P fun _ _ _ _ => False) : FnG P w K mg base k f fd ps (spD K fs) := by
  have hc : ∀ vs H Q E, spD K fs vs H Q E → spX K fx vs H Q E0 := fun vs H Q E ⟨F0, ds, ms, P0, R, r, q, z⟩ => ⟨F0, ds, ms, P0, _, R, r, h _ _ _ q, z, fun _ _ _ _ _ _ _ _ _ y => y.elim⟩
  refine ⟨fun vs H Q E q => F.len vs H Q E0 (hc vs H Q E q), fun A outer s H args us vs Q hr e0 hb r q => ?_⟩
  refine codeAny_mono (F.go A outer s H args us vs Q E0 hr e0 hb r (hc vs H Q E0 q)) fun r s' z => ?_
  match r, z with
  | .ok (.ret _), z => exact z
  | .ok .next, z => exact z
  | .ok .brk, z => exact z
  | .ok .cont, z => exact z
  | .error e, z =>
    obtain ⟨_, _, _, _, _, _, _, _, _, _, _, _, y⟩ := z
    exact y.elim
section
variable {X : Cx} {W : WX} {st : Stmt} {rest : List Stmt} {t u : DTS} {c : Expr} {dt : DT} {pos : Pos}
/-- raise X('..'), X an own class without an __init__ -/
def dRaise (c : Str) : DTS := fun E ds ms => E.ex c [] [] ds ms
end
section
variable {X : Cx} {W : WX} {k n : Nat} {f : Addr} {fd : FuncData} {ps ks : List Str} {is : List Nat} {sp : Sp} {fx : FX} {x : Str} {p pos kpos : Pos} {e : Expr} {es : List Expr} {aa : DA}
/-- f(..) as a statement -/
def dDoX (n : Nat) (is : List Nat) (fx : FX) (aa : DA) : DTS := fun E ds ms => aa ds ms fun xs m => xs.length = n ∧ fx (pick is xs) m (fun _ m' => E.nx ds m') fun c ns ys m' => E.ex c ns ys ds m'
end
end DL
namespace DL
open PySem PySem.Spec PyProof.Rows L2
end DL
namespace DL
open PySem PySem.Spec PyProof.Rows L2
/-- try: body, except x as n: y = n; ml: of each class that may come whether the clause takes it -/
def dTry (ml : List (Str × Bool)) (i j : Nat) (tb : DTS) : DTS := fun E ds ms => tb { E with ex := fun c ns xs ds' ms' => match ml.lookup c with
  | some true => E.nx ((setSlot ds' j (.exc c ns xs)).set i none) ms'
  | some false => E.ex c ns xs ds' ms'
  | none => False } ds ms
def dTry0 (ml : List (Str × Bool)) (i j : Nat) (tb : DTS) : DTS := fun E ds ms => dTry ml i j tb { E with ex := fun _ _ _ _ _ => False } ds ms
end DL
namespace DL
open PySem PySem.Spec PyProof.Rows L2
def nonD : D → Option Bool
  | .non => some true
  | .opq (.ref _) => some false
  | .opq _ => none
  | _ => some false
def fIsB (neg : Bool) : OF := fun x y ms P => match y with
  | .bl b => (match x with
    | .bl a => P (.bl (Bool.xor neg (decide (a = b)))) ms
    | _ => False)
  | .non => (match nonD x with
    | some z => P (.bl (Bool.xor neg z)) ms
    | none => False)
  | _ => False
def fIs : OF := fIsB false
def fNotIs : OF := fIsB true
def rIsD (neg : Bool) : R2 := fun x y H Q => (∃ a b, x = .bl a ∧ y = .bl b ∧ Q (.bl (Bool.xor neg (decide (a = b)))) H) ∨ (y = .non ∧ Q (.bl (Bool.xor neg (decide (x = .non)))) H)
theorem op_isD {X : Cx} : OpR X (compareOp .Is) (rIsD false) := by
  intro pins s σ H x y v u Q I rx ry h
  rcases h with ⟨a, b, e1, e2, q⟩ | ⟨e, q⟩
  · exact op_is_bl pins s σ H x y v u Q I rx ry ⟨a, b, e1, e2, by simpa using q⟩
  · exact op_isN pins s σ H x y v u Q I rx ry ⟨e, by simpa using q⟩
theorem op_notIsD {X : Cx} : OpR X (compareOp .IsNot) (rIsD true) := by
  intro pins s σ H x y v u Q I rx ry h
  rcases h with ⟨a, b, e1, e2, q⟩ | ⟨e, q⟩
  · exact op_isnot_bl pins s σ H x y v u Q I rx ry ⟨a, b, e1, e2, by simpa using q⟩
  · exact op_notN pins s σ H x y v u Q I rx ry ⟨e, by simpa using q⟩
theorem nonD_ok {K : PySem.W.Frag} {F : Hp} {x : V} {d : D} {b : Bool} (r : DR K F x d) (h : nonD d = some b) : decide (x = .non) = b := by
  cases r with
  | opq => cases x <;> cases h <;> first | rfl | decide | simp
  | _ => cases h <;> first | rfl | decide | simp
theorem opd_isB {K : PySem.W.Frag} {neg : Bool} : OpD K (rIsD neg) (fIsB neg) := fun F H ms x y dx dy P Q R rx ry h q => by
  cases ry with
  | bl b =>
    cases rx with
    | bl a => exact .inl ⟨a, b, rfl, rfl, q _ ms _ F H h R Stp.refl (.bl _)⟩
    | _ => exact False.elim h
  | non =>
    cases e : nonD dx with
    | none => unfold fIsB at h; simp only [e] at h
    | some z =>
      unfold fIsB at h
      simp only [e] at h
      refine .inr ⟨rfl, ?_⟩
      rw [nonD_ok rx e]
      exact q _ ms _ F H h R Stp.refl (.bl _)
  | _ => exact False.elim h
theorem opd_is {K : PySem.W.Frag} : OpD K (rIsD false) fIs := opd_isB
theorem opd_notIs {K : PySem.W.Frag} : OpD K (rIsD true) fNotIs := opd_isB
def InOk (x : D) (ys : List D) (neg : Bool) (ms : MS) (P : D → MS → Prop) : Prop := ∃ p ps, toPy x = some p ∧ toPys ys = some ps ∧ p.canLay0 = true ∧ p.depth ≤ 60 ∧ PyData.canLayAll0 ps = true ∧ P (.bl (Bool.xor neg (ps.any fun z => PyData.eqv z p))) ms
def fInB (neg : Bool) : OF := fun x y ms P => match y with
  | .lst ys => InOk x ys neg ms P
  | .tup ys => InOk x ys neg ms P
  | _ => False
def fIn : OF := fInB false
def fNotIn : OF := fInB true
def rInF (K : PySem.W.Frag) (neg : Bool) : R2 := fun x y H Q => ∃ F dx dy ms P, Sub F H ∧ DR K F x dx ∧ DR K F y dy ∧ fInB neg dx dy ms P ∧ ∀ b, P (.bl b) ms → Q (.bl b) H
theorem op_inF {X : Cx} (hu : X.A.units + 64 < cLine) : OpR X (compareOp .In) (rInF X.K false) := by
  intro pins s σ H x y v u Q I rx ry h
  obtain ⟨F, dx, dy, ms, P, sb, hx, hy, h, q⟩ := h
  cases hy with
  | lst ha hs =>
    obtain ⟨p, ps, e1, e2, c1, c2, c3, h⟩ := h
    obtain ⟨as, r1⟩ := DR.reads I sb dx p x v hx e1 rx
    obtain ⟨bs, r2⟩ := DR.reads I sb (.lst _) (.list ps) _ u (.lst ha hs) (by unfold toPy; rw [e2]; rfl) ry
    exact SeqAt.in_list_reads r2 r1 c3 c1 (by omega) ⟨.bl _, H, I, rfl, q _ (by simpa using h)⟩
  | tup ha hs =>
    obtain ⟨p, ps, e1, e2, c1, c2, c3, h⟩ := h
    obtain ⟨as, r1⟩ := DR.reads I sb dx p x v hx e1 rx
    obtain ⟨bs, r2⟩ := DR.reads I sb (.tup _) (.tuple ps) _ u (.tup ha hs) (by unfold toPy; rw [e2]; rfl) ry
    exact SeqAt.in_tuple_reads r2 r1 c3 c1 (by omega) ⟨.bl _, H, I, rfl, q _ (by simpa using h)⟩
  | _ => exact False.elim h
theorem op_notInF {X : Cx} (hu : X.A.units + 64 < cLine) : OpR X (compareOp .NotIn) (rInF X.K true) := by
  intro pins s σ H x y v u Q I rx ry h
  obtain ⟨F, dx, dy, ms, P, sb, hx, hy, h, q⟩ := h
  cases hy with
  | lst ha hs =>
    obtain ⟨p, ps, e1, e2, c1, c2, c3, h⟩ := h
    obtain ⟨as, r1⟩ := DR.reads I sb dx p x v hx e1 rx
    obtain ⟨bs, r2⟩ := DR.reads I sb (.lst _) (.list ps) _ u (.lst ha hs) (by unfold toPy; rw [e2]; rfl) ry
    exact SeqAt.notIn_list_reads r2 r1 c3 c1 (by omega) ⟨.bl _, H, I, rfl, q _ (by simpa using h)⟩
  | tup ha hs =>
    obtain ⟨p, ps, e1, e2, c1, c2, c3, h⟩ := h
    obtain ⟨as, r1⟩ := DR.reads I sb dx p x v hx e1 rx
    obtain ⟨bs, r2⟩ := DR.reads I sb (.tup _) (.tuple ps) _ u (.tup ha hs) (by unfold toPy; rw [e2]; rfl) ry
    exact SeqAt.notIn_tuple_reads r2 r1 c3 c1 (by omega) ⟨.bl _, H, I, rfl, q _ (by simpa using h)⟩
  | _ => exact False.elim h
theorem opd_inB {K : PySem.W.Frag} {neg : Bool} : OpD K (rInF K neg) (fInB neg) := fun F H ms x y dx dy P Q R rx ry h q =>
  ⟨F, dx, dy, ms, P, R.sub, rx, ry, h, fun b z => q _ ms _ F H z R Stp.refl (.bl _)⟩
theorem opd_in {K : PySem.W.Frag} : OpD K (rInF K false) fIn := opd_inB
theorem opd_notIn {K : PySem.W.Frag} : OpD K (rInF K true) fNotIn := opd_inB
def dEdic : DE := fun _ ms P => P .edic ms
theorem pd_dict0 {X : Cx} {pos : Pos} : PD X (.Dict [] [] pos) dEdic := peImp pe_dnewK fun σ H Q ⟨F, ds, ms, P, R, S, h1, h2⟩ p hp => h2 _ ms _ (upd F p (.dK [])) _ h1 (R.new hp) (Stp.new R hp) (.edic upd_same)
end DL
namespace DL
open PySem PySem.Spec PyProof.Rows L2
def dIsE (ml : List (Str × Bool)) (de : DE) : DE := fun ds ms P => de ds ms fun d m => match d with
  | .exc c _ _ => (match ml.lookup c with
    | some b => P (.bl b) m
    | none => False)
  | _ => False
def dFld (ml : List (Str × Bool)) (f : Str) (de : DE) : DE := fun ds ms P => de ds ms fun d m => match d with
  | .exc c ns xs => (ml.lookup c).isSome = true ∧ ∃ y, (ns.zip xs).lookup f = some y ∧ P y m
  | _ => False
end DL
namespace DL
open PySem PySem.Spec PyProof.Rows L2
/-- raise X(..), X an own class that keeps its arguments -/
def dRaiseI (c : Str) (fs : List Str) (aa : DA) : DTS := fun E ds ms => aa ds ms fun xs m => xs.length = fs.length ∧ E.ex c fs xs ds m
end DL
namespace DL
open PySem PySem.Spec PyProof.Rows L2
abbrev ZD := Str → List Str → List D → DS → MS → Prop
def dCallZ (n m : Nat) (is : List Nat) (fx : FX) (aa ak : DA) (Z : ZD) : DE := fun ds ms P => aa ds ms fun xs m1 => ak ds m1 fun zs m2 => xs.length = n ∧ zs.length = m ∧ fx (pick is (xs ++ zs)) m2 P fun c ns ys m' => Z c ns ys ds m'
section
variable {X : Cx} {W : WX} {Z : ZD} {k n m i : Nat} {f : Addr} {fd : FuncData} {ps ks : List Str} {is : List Nat} {fx : FX} {x y : Str} {p pos kpos py : Pos} {e o : Expr} {es : List Expr} {kws : List Keyword} {aa ak : DA} {da dx : DE}
def dExprZ (de : ZD → DE) : DTS := fun E ds ms => de E.ex ds ms fun _ m => E.nx ds m
def dRetZ (de : ZD → DE) : DTS := fun E ds ms => de E.ex ds ms E.rt
def dAsgZ (de : ZD → DE) (g : DG) : DTS := fun E ds ms => de E.ex ds ms fun d m => g d ds fun ds1 => E.nx ds1 m
variable {dz : ZD → DE}
end
end DL
namespace DL
open PySem PySem.Spec PyProof.Rows L2
def cStr : CF := fun xs ms P => match xs with
  | [.str x] => P (.str x) ms
  | [d] => Shw d ∧ P (.str (repS d)) ms
  | _ => False
def dChain (f f' : OF) (da db dc : DE) : DE := fun ds ms P => da ds ms fun x m1 => db ds m1 fun y m2 => f x y m2 fun z m3 => match z with
  | .bl k => if k = true then dc ds m3 fun w m4 => f' y w m4 P else P (.bl false) m3
  | _ => False
section
variable {X : Cx} {a b c : Expr} {da db dc : DE} {op op' : CmpOp} {r r' : R2} {f f' : OF} {pos : Pos}
theorem lift_chain {K : PySem.W.Frag} (hf : OpD K r f) (hf' : OpD K r' f') : ∀ σ H Q, lift K (dChain f f' da db dc) σ H Q → tChain r r' (lift K da) (lift K db) (lift K dc) σ H Q := fun σ H Q ⟨F, ds, ms, P, R, S, h1, h2⟩ =>
  ⟨F, ds, ms, _, R, S, h1, fun dx m1 x F1 H1 p1 R1 s1 r1 => ⟨F1, ds, m1, _, R1, S.mono s1.sub, p1, fun dy m2 y F2 H2 p2 R2 s2 r2 => hf F2 H2 m2 x y dx dy _ _ R2 (r1.mono s2.sub) r2 p2 fun dz m3 z F3 H3 p3 R3 s3 r3 => by
    cases r3 with
    | bl k =>
      refine ⟨k, rfl, ?_⟩
      cases k with
      | true =>
        have s13 := (s1.trans s2).trans s3
        simp only [if_true] at p3 ⊢
        exact ⟨F3, ds, m3, _, R3, S.mono s13.sub, p3, fun dw m4 w F4 H4 p4 R4 s4 r4 => hf' F4 H4 m4 y w dy dw _ _ R4 ((r2.mono s3.sub).mono s4.sub) r4 p4 fun d m5 v F5 H5 p5 R5 s5 r5 => h2 d m5 v F5 H5 p5 R5 ((s13.trans s4).trans s5) r5⟩
      | false =>
        simp only [if_neg Bool.false_ne_true] at p3 ⊢
        exact h2 _ m3 _ F3 H3 p3 R3 ((s1.trans s2).trans s3) (.bl false)
    | _ => exact p3.elim⟩⟩
theorem pd_chain (ho : OpR X (compareOp op) r) (hf : OpD X.K r f) (ho' : OpR X (compareOp op') r') (hf' : OpD X.K r' f') (ha : PD X a da) (hb : PD X b db) (hc : PD X c dc)
    (hm : lastMarks [op, op'] [b, c] = false := by with_unfolding_all rfl) : PD X (.Compare a [op, op'] [b, c] pos) (dChain f f' da db dc) := peImp (pe_chain ho ho' ha hb hc hm) (lift_chain hf hf')
theorem pdt_chain (ho : OpR X (compareOp op) r) (hf : OpD X.K r f) (ho' : OpR X (compareOp op') r') (hf' : OpD X.K r' f') (ha : PD X a da) (hb : PD X b db) (hc : PD X c dc)
    (hm : lastMarks [op, op'] [b, c] = false := by with_unfolding_all rfl) : PDT X (.Compare a [op, op'] [b, c] pos) (dTest (dChain f f' da db dc)) := ptImp (pt_chain ho ho' ha hb hc hm) fun σ H Q ⟨F, ds, ms, P, R, S, h1, h2⟩ =>
  lift_chain hf hf' σ H _ ⟨F, ds, ms, _, R, S, h1, fun d m v F1 H1 p1 R1 s1 r1 => by
    cases r1 with
    | bl k => exact ⟨k, rfl, h2 k m F1 H1 p1 R1 s1⟩
    | _ => exact p1.elim⟩
end
end DL
namespace DL
open PySem PySem.Spec PyProof.Rows L2
def StG (t : DTS) (E : EN) (ds : DS) (ms : MS) : Prop := t E ds ms
def ExG (de : DE) (ds : DS) (ms : MS) (P : D → MS → Prop) : Prop := de ds ms P
def TsG (dt : DT) (ds : DS) (ms : MS) (P : Bool → MS → Prop) : Prop := dt ds ms P
def ArG (da : DA) (ds : DS) (ms : MS) (P : List D → MS → Prop) : Prop := da ds ms P
def ItG (di : DI) (ds : DS) (ms : MS) (P : List D → MS → Prop) : Prop := di ds ms P
def OgG (o : DO) (ds : DS) (ms : MS) (P : Option Int → MS → Prop) : Prop := o ds ms P
def TgG (g : DG) (d : D) (ds : DS) (P : DS → Prop) : Prop := g d ds P
def TgsG (g : DGs) (d : List D) (ds : DS) (P : DS → Prop) : Prop := g d ds P
def OpG (f : OF) (x y : D) (ms : MS) (P : D → MS → Prop) : Prop := f x y ms P
def CbG (f : CF) (xs : List D) (ms : MS) (P : D → MS → Prop) : Prop := f xs ms P
def SlG (x : D) (l u : Option Int) (ms : MS) (P : D → MS → Prop) : Prop := fSl x l u ms P
def NxG (E : EN) (ds : DS) (ms : MS) : Prop := E.nx ds ms
def RtG (E : EN) (d : D) (ms : MS) : Prop := E.rt d ms
def BkG (E : EN) (ds : DS) (ms : MS) : Prop := E.bk ds ms
def CtG (E : EN) (ds : DS) (ms : MS) : Prop := E.ct ds ms
def XcG (E : EN) (c : Str) (ns : List Str) (xs : List D) (ds : DS) (ms : MS) : Prop := E.ex c ns xs ds ms
/-- ends with another next, as a loop's body has them, with other exceptions -/
def EN.wn (E : EN) (f : DS → MS → Prop) : EN := { E with nx := f }
def EN.lp (E : EN) (f : DS → MS → Prop) : EN := { E with nx := f, ct := f, bk := E.nx }
def EN.wx (E : EN) (f : Str → List Str → List D → DS → MS → Prop) : EN := { E with ex := f }
section
variable {E : EN} {f : DS → MS → Prop} {fx : Str → List Str → List D → DS → MS → Prop} {ds : DS} {ms : MS} {d : D} {c : Str} {ns : List Str} {xs : List D} {un ub uc : DS → MS → Prop} {ur : D → MS → Prop} {ux : Str → List Str → List D → DS → MS → Prop}
theorem n_wn (h : f ds ms) : NxG (EN.wn E f) ds ms := h
theorem n_lp (h : f ds ms) : NxG (EN.lp E f) ds ms := h
theorem n_wx (h : NxG E ds ms) : NxG (EN.wx E fx) ds ms := h
theorem n_mk (h : un ds ms) : NxG ⟨un, ur, ub, uc, ux⟩ ds ms := h
theorem t_wn (h : RtG E d ms) : RtG (EN.wn E f) d ms := h
theorem t_lp (h : RtG E d ms) : RtG (EN.lp E f) d ms := h
theorem t_wx (h : RtG E d ms) : RtG (EN.wx E fx) d ms := h
theorem t_mk (h : ur d ms) : RtG ⟨un, ur, ub, uc, ux⟩ d ms := h
theorem b_wn (h : BkG E ds ms) : BkG (EN.wn E f) ds ms := h
theorem b_lp (h : NxG E ds ms) : BkG (EN.lp E f) ds ms := h
theorem b_wx (h : BkG E ds ms) : BkG (EN.wx E fx) ds ms := h
theorem c_wn (h : CtG E ds ms) : CtG (EN.wn E f) ds ms := h
theorem c_lp (h : f ds ms) : CtG (EN.lp E f) ds ms := h
theorem c_wx (h : CtG E ds ms) : CtG (EN.wx E fx) ds ms := h
theorem x_wn (h : XcG E c ns xs ds ms) : XcG (EN.wn E f) c ns xs ds ms := h
theorem x_lp (h : XcG E c ns xs ds ms) : XcG (EN.lp E f) c ns xs ds ms := h
theorem x_wx (h : fx c ns xs ds ms) : XcG (EN.wx E fx) c ns xs ds ms := h
theorem x_mk (h : ux c ns xs ds ms) : XcG ⟨un, ur, ub, uc, ux⟩ c ns xs ds ms := h
end
section
variable {t : DTS} {E : EN} {ds : DS} {ms : MS} {de : DE} {P : D → MS → Prop} {dt : DT} {PT : Bool → MS → Prop} {da : DA} {PA : List D → MS → Prop} {di : DI} {o : DO} {PO : Option Int → MS → Prop} {g : DG} {gs : DGs} {d x y : D} {xs : List D} {PS : DS → Prop} {f : OF} {c : CF} {l u : Option Int}
theorem StG.out (h : t E ds ms) : StG t E ds ms := h
theorem ExG.out (h : de ds ms P) : ExG de ds ms P := h
theorem TsG.out (h : dt ds ms PT) : TsG dt ds ms PT := h
theorem ArG.out (h : da ds ms PA) : ArG da ds ms PA := h
theorem ItG.out (h : di ds ms PA) : ItG di ds ms PA := h
theorem OgG.out (h : o ds ms PO) : OgG o ds ms PO := h
theorem TgG.out (h : g d ds PS) : TgG g d ds PS := h
theorem TgsG.out (h : gs xs ds PS) : TgsG gs xs ds PS := h
theorem OpG.out (h : f x y ms P) : OpG f x y ms P := h
theorem CbG.out (h : c xs ms P) : CbG c xs ms P := h
theorem SlG.out (h : fSl x l u ms P) : SlG x l u ms P := h
end
section
variable {E : EN} {ds ds' : DS} {ms m : MS} {P : D → MS → Prop} {A B : Prop} {t u tb : DTS} {de da db dc : DE} {dt du : DT} {g : DG} {gs : DGs} {aa ak : DA} {di : DI} {d x y : D} {xs ys zs : List D} {n k i j : Nat} {b : Bool} {PT : Bool → MS → Prop} {PA : List D → MS → Prop} {PS : DS → Prop} {PO : Option Int → MS → Prop}
theorem w_seq (h : StG t (EN.wn E (StG u E)) ds ms) : dSeq t u E ds ms := h
theorem w_next (h : NxG E ds ms) : dNext E ds ms := h
theorem w_break (h : BkG E ds ms) : dBreak E ds ms := h
theorem w_cont (h : CtG E ds ms) : dCont E ds ms := h
theorem w_ret (h : ExG de ds ms (RtG E)) : dRet de E ds ms := h
theorem w_retN (h : RtG E .non ms) : dRetN E ds ms := h
theorem w_drop (h : ExG de ds ms fun _ m => NxG E ds m) : dDrop de E ds ms := h
theorem w_ifS (h : TsG dt ds ms fun b m => if b = true then StG t E ds m else StG u E ds m) : dIfS dt t u E ds ms := h
theorem w_asg (h : ExG de ds ms fun d m => TgG g d ds fun ds1 => NxG E ds1 m) : dAsg de g E ds ms := h
def mPar (i j : Nat) (E : EN) (ds : DS) (xs : List D) (m : MS) : Prop := match xs with
  | [x, y] => E.nx (setSlot (setSlot ds i x) j y) m
  | _ => False
theorem w_par (h : ArG aa ds ms fun xs m => mPar i j E ds xs m) : dPar i j aa E ds ms := h
theorem w_mPar (e : setSlot (setSlot ds i x) j y = ds') (h : NxG E ds' m) : mPar i j E ds [x, y] m := by subst e; exact h
theorem w_for (h : ItG di ds ms fun xs m => loopD g tb E xs ds m) : dFor di g tb E ds ms := h
theorem w_raise {c : Str} (h : XcG E c [] [] ds ms) : dRaise c E ds ms := h
theorem w_raiseI {c : Str} {fs : List Str} (h : ArG aa ds ms fun xs m => xs.length = fs.length ∧ XcG E c fs xs ds m) : dRaiseI c fs aa E ds ms := h
theorem w_exprZ {dz : ZD → DE} (h : ExG (dz (XcG E)) ds ms fun _ m => NxG E ds m) : dExprZ dz E ds ms := h
theorem w_retZ {dz : ZD → DE} (h : ExG (dz (XcG E)) ds ms (RtG E)) : dRetZ dz E ds ms := h
theorem w_asgZ {dz : ZD → DE} (h : ExG (dz (XcG E)) ds ms fun d m => TgG g d ds fun ds1 => NxG E ds1 m) : dAsgZ dz g E ds ms := h
def mTry (ml : List (Str × Bool)) (i j : Nat) (E : EN) (c : Str) (ns : List Str) (xs : List D) (ds : DS) (ms : MS) : Prop := match ml.lookup c with
  | some true => E.nx ((setSlot ds j (.exc c ns xs)).set i none) ms
  | some false => E.ex c ns xs ds ms
  | none => False
theorem w_try {ml : List (Str × Bool)} (h : StG tb (EN.wx E (mTry ml i j E)) ds ms) : dTry ml i j tb E ds ms := h
theorem w_try0 {ml : List (Str × Bool)} (h : StG (dTry ml i j tb) (EN.wx E fun _ _ _ _ _ => False) ds ms) : dTry0 ml i j tb E ds ms := h
theorem w_mTry {ml : List (Str × Bool)} {c : Str} {ns : List Str} (e : ml.lookup c = some true) (e2 : (setSlot ds j (.exc c ns xs)).set i none = ds') (h : NxG E ds' ms) : mTry ml i j E c ns xs ds ms := by
  unfold mTry; rw [e]; subst e2; exact h
theorem w_mTryF {ml : List (Str × Bool)} {c : Str} {ns : List Str} (e : ml.lookup c = some false) (h : XcG E c ns xs ds ms) : mTry ml i j E c ns xs ds ms := by
  unfold mTry; rw [e]; exact h
theorem w_loopC (h : TgG g x ds fun ds1 => StG tb (EN.lp E (loopD g tb E ys)) ds1 ms) : loopD g tb E (x :: ys) ds ms := h
theorem w_loopN (h : NxG E ds ms) : loopD g tb E [] ds ms := h
theorem w_name (e : setSlot ds i d = ds') (h : PS ds') : sName i d ds PS := by subst e; exact h
theorem w_stup (e : xs.length = n) (h : TgsG gs xs ds PS) : sTup n gs (.tup xs) ds PS := ⟨e, h⟩
theorem w_scons (h : TgG g x ds fun ds1 => TgsG gs ys ds1 PS) : sCons g gs (x :: ys) ds PS := h
theorem w_snil (h : PS ds) : sNil [] ds PS := h
theorem w_c (h : P d ms) : dC d ds ms P := h
theorem w_var (e : slot ds i = some d) (h : P d ms) : dVar i ds ms P := by unfold dVar; rw [e]; exact h
theorem w_op {f : OF} (h : ExG da ds ms fun x m => ExG db ds m fun y m2 => OpG f x y m2 P) : dOp f da db ds ms P := h
theorem w_tup (h : ArG aa ds ms fun xs m => xs.length ≤ sizeLine ∧ P (.tup xs) m) : dTup aa ds ms P := h
theorem w_lst (h : ArG aa ds ms fun xs m => xs.length ≤ sizeLine ∧ P (.lst xs) m) : dLst aa ds ms P := h
theorem w_lstM (h : ArG aa ds ms fun xs m => xs.length ≤ sizeLine ∧ ∀ p, (∀ q ∈ m, q.1 ≠ p) → P (.opq (.ref p)) ((p, xs) :: m)) : dLstM aa ds ms P := h
theorem w_size (e : n ≤ sizeLine) (h : A) : n ≤ sizeLine ∧ A := ⟨e, h⟩
theorem w_sizeL (e : n < sizeLine) (h : A) : n < sizeLine ∧ A := ⟨e, h⟩
theorem w_anil (h : PA [] ms) : aNil ds ms PA := h
theorem w_acons (h : ExG de ds ms fun x m1 => ArG aa ds m1 fun xs m2 => PA (x :: xs) m2) : aCons de aa ds ms PA := h
theorem w_edic (h : P .edic ms) : dEdic ds ms P := h
def mNeg (d : D) (m : MS) (P : D → MS → Prop) : Prop := match d with
  | .int i => P (.int (-i)) m
  | _ => False
theorem w_neg (h : ExG de ds ms fun x m => mNeg x m P) : dNeg de ds ms P := h
theorem w_mNeg {i : Int} (h : P (.int (-i)) m) : mNeg (.int i) m P := h
def mNot (d : D) (m : MS) (P : D → MS → Prop) : Prop := match d with
  | .bl b => P (.bl (!b)) m
  | _ => False
theorem w_notV (h : ExG de ds ms fun x m => mNot x m P) : dNotV de ds ms P := h
theorem w_mNotT (e : b = true) (h : P (.bl false) m) : mNot (.bl b) m P := by subst e; exact h
theorem w_mNotF (e : b = false) (h : P (.bl true) m) : mNot (.bl b) m P := by subst e; exact h
theorem w_mNot (h : P (.bl (!b)) m) : mNot (.bl b) m P := h
def mAnd (db : DE) (ds : DS) (d : D) (m : MS) (P : D → MS → Prop) : Prop := match d with
  | .bl b => if b = true then db ds m P else P (.bl false) m
  | _ => False
theorem w_andV (h : ExG da ds ms fun x m => mAnd db ds x m P) : dAndV da db ds ms P := h
theorem w_mAnd (h : if b = true then ExG db ds m P else P (.bl false) m) : mAnd db ds (.bl b) m P := h
def mOr (db : DE) (ds : DS) (d : D) (m : MS) (P : D → MS → Prop) : Prop := match d with
  | .bl b => if b = true then P (.bl true) m else db ds m P
  | _ => False
theorem w_orV (h : ExG da ds ms fun x m => mOr db ds x m P) : dOrV da db ds ms P := h
theorem w_mOr (h : if b = true then P (.bl true) m else ExG db ds m P) : mOr db ds (.bl b) m P := h
theorem w_if (h : TsG dt ds ms fun b m => if b = true then ExG da ds m P else ExG db ds m P) : dIf dt da db ds ms P := h
theorem w_iteT (e : b = true) (h : A) : if b = true then A else B := by rw [if_pos e]; exact h
theorem w_iteF (e : b = false) (h : B) : if b = true then A else B := by rw [if_neg (by rw [e]; decide)]; exact h
def mTest (d : D) (m : MS) (P : Bool → MS → Prop) : Prop := match d with
  | .bl b => P b m
  | _ => False
theorem w_test (h : ExG da ds ms fun x m => mTest x m PT) : dTest da ds ms PT := h
theorem w_mTest (h : PT b m) : mTest (.bl b) m PT := h
theorem w_yes (h : PT true ms) : dYes ds ms PT := h
theorem w_not (h : TsG dt ds ms fun b m => PT (!b) m) : dNot dt ds ms PT := h
theorem w_and (h : TsG dt ds ms fun b m => if b = true then TsG du ds m PT else PT false m) : dAnd dt du ds ms PT := h
theorem w_or (h : TsG dt ds ms fun b m => if b = true then PT true m else TsG du ds m PT) : dOr dt du ds ms PT := h
theorem w_tru (h : ExG da ds ms fun x m => truD x m fun b => PT b m) : dTru da ds ms PT := h
def mCall (n k : Nat) (is : List Nat) (fs : FS) (xs zs : List D) (m : MS) (P : D → MS → Prop) : Prop := xs.length = n ∧ zs.length = k ∧ fs (pick is (xs ++ zs)) m P
theorem w_call {is : List Nat} {fs : FS} (h : ArG aa ds ms fun xs m1 => ArG ak ds m1 fun zs m2 => mCall n k is fs xs zs m2 P) : dCall n k is fs aa ak ds ms P := h
theorem w_mCall {is : List Nat} {fs : FS} (e1 : xs.length = n) (e2 : zs.length = k) (e : pick is (xs ++ zs) = ys) (h : fs ys m P) : mCall n k is fs xs zs m P := ⟨e1, e2, by rw [e]; exact h⟩
def mCallZ (n k : Nat) (is : List Nat) (fx : FX) (Z : ZD) (ds : DS) (xs zs : List D) (m : MS) (P : D → MS → Prop) : Prop := xs.length = n ∧ zs.length = k ∧ fx (pick is (xs ++ zs)) m P fun c ns ys m' => Z c ns ys ds m'
theorem w_callZ {is : List Nat} {fx : FX} {Z : ZD} (h : ArG aa ds ms fun xs m1 => ArG ak ds m1 fun zs m2 => mCallZ n k is fx Z ds xs zs m2 P) : dCallZ n k is fx aa ak Z ds ms P := h
theorem w_mCallZ {is : List Nat} {fx : FX} {Z : ZD} (e1 : xs.length = n) (e2 : zs.length = k) (e : pick is (xs ++ zs) = ys) (h : fx ys m P fun c ns ys m' => Z c ns ys ds m') : mCallZ n k is fx Z ds xs zs m P := ⟨e1, e2, by rw [e]; exact h⟩
theorem w_cb {f : CF} (h : ArG aa ds ms fun xs m => CbG f xs m P) : dCB f aa ds ms P := h
section
variable {i j : Int} {a c : List D} {z w : Str} {lo hi : Option Int} {p : Addr}
theorem w_add_ii (h : P (.int (i + j)) ms) : fAdd (.int i) (.int j) ms P := h
theorem w_add_ss (h : z.length + w.length ≤ sizeLine ∧ P (.str (z ++ w)) ms) : fAdd (.str z) (.str w) ms P := h
theorem w_add_ll (h : a.length + c.length ≤ sizeLine ∧ P (.lst (a ++ c)) ms) : fAdd (.lst a) (.lst c) ms P := h
theorem w_add_ol (e : look ms p = some a) (h : a.length + c.length ≤ sizeLine ∧ P (.lst (a ++ c)) ms) : fAdd (.opq (.ref p)) (.lst c) ms P := by unfold fAdd; simp only [e]; exact h
theorem w_add_tt (h : a.length + c.length ≤ sizeLine ∧ P (.tup (a ++ c)) ms) : fAdd (.tup a) (.tup c) ms P := h
theorem w_sub (h : P (.int (i - j)) ms) : fSub (.int i) (.int j) ms P := ⟨trivial, h⟩
theorem w_mul (h : CMulD i j ∧ P (.int (i * j)) ms) : fMul (.int i) (.int j) ms P := h
theorem w_mul_l (h : (-(2 ^ 63) ≤ i ∧ i < 2 ^ 63 ∧ a.length * i.toNat ≤ sizeLine) ∧ P (.lst (List.replicate i.toNat a).flatten) ms) : fMul (.lst a) (.int i) ms P := h
theorem w_div (h : CDivA i j ∧ P (.int (i.fdiv j)) ms) : fDiv (.int i) (.int j) ms P := h
theorem w_mod (h : j ≠ 0 ∧ P (.int (i.fmod j)) ms) : fMod (.int i) (.int j) ms P := h
theorem w_pow (e : 0 ≤ j ∧ j ≤ 1000000) {r : Int} (er : (10 : Int) ^ j.toNat = r) (h : P (.int r) ms) : fPow (.int 10) (.int j) ms P := ⟨⟨e.1, e.2, by decide⟩, by rw [← er] at h; exact h⟩
theorem w_lt (h : P (.bl (decide (i < j))) ms) : fLt (.int i) (.int j) ms P := ⟨trivial, h⟩
theorem w_le (h : P (.bl (decide (i ≤ j))) ms) : fLe (.int i) (.int j) ms P := ⟨trivial, h⟩
theorem w_gt (h : P (.bl (decide (j < i))) ms) : fGt (.int i) (.int j) ms P := ⟨trivial, h⟩
theorem w_ge (h : P (.bl (decide (j ≤ i))) ms) : fGe (.int i) (.int j) ms P := ⟨trivial, h⟩
theorem w_eq_ii (h : P (.bl (i == j)) ms) : fEq (.int i) (.int j) ms P := h
theorem w_eq_ss (h : P (.bl (z == w)) ms) : fEq (.str z) (.str w) ms P := h
theorem w_eq_l0 (h : P (.bl a.isEmpty) ms) : fEq (.lst a) (.lst []) ms P := h
theorem w_eq_bb {b c : Bool} (h : P (.bl (b == c)) ms) : fEq (.bl b) (.bl c) ms P := ⟨⟨_, rfl, rfl⟩, ⟨_, rfl, rfl⟩, by
  have e : eqD (.bl b) (.bl c) = (b == c) := by cases b <;> cases c <;> rfl
  rw [e]; exact h⟩
theorem w_eq_lc (h : ShD (.lst a) ∧ ShD (.lst (d :: c)) ∧ P (.bl (eqD (.lst a) (.lst (d :: c)))) ms) : fEq (.lst a) (.lst (d :: c)) ms P := h
theorem w_eq_tt (h : ShD (.tup a) ∧ ShD (.tup c) ∧ P (.bl (eqD (.tup a) (.tup c))) ms) : fEq (.tup a) (.tup c) ms P := h
theorem w_ne_ii (h : P (.bl (!(i == j))) ms) : fNe (.int i) (.int j) ms P := h
theorem w_ne_ss (h : P (.bl (!(z == w))) ms) : fNe (.str z) (.str w) ms P := h
theorem w_ne_l0 (h : P (.bl (!a.isEmpty)) ms) : fNe (.lst a) (.lst []) ms P := h
theorem w_ne_bb {b c : Bool} (h : P (.bl (!(b == c))) ms) : fNe (.bl b) (.bl c) ms P := ⟨⟨_, rfl, rfl⟩, ⟨_, rfl, rfl⟩, by
  have e : eqD (.bl b) (.bl c) = (b == c) := by cases b <;> cases c <;> rfl
  rw [e]; exact h⟩
theorem w_ne_lc (h : ShD (.lst a) ∧ ShD (.lst (d :: c)) ∧ P (.bl (!eqD (.lst a) (.lst (d :: c)))) ms) : fNe (.lst a) (.lst (d :: c)) ms P := h
theorem w_ne_tt (h : ShD (.tup a) ∧ ShD (.tup c) ∧ P (.bl (!eqD (.tup a) (.tup c))) ms) : fNe (.tup a) (.tup c) ms P := h
theorem w_in_l (h : InOk x a false ms P) : fIn x (.lst a) ms P := h
theorem w_in_t (h : InOk x a false ms P) : fIn x (.tup a) ms P := h
theorem w_notIn_l (h : InOk x a true ms P) : fNotIn x (.lst a) ms P := h
theorem w_notIn_t (h : InOk x a true ms P) : fNotIn x (.tup a) ms P := h
theorem w_ix_t (e : atI a i = some d) (h : P d ms) : fIx (.tup a) (.int i) ms P := by unfold fIx; simp only [e]; exact h
theorem w_ix_l (e : atI a i = some d) (h : P d ms) : fIx (.lst a) (.int i) ms P := by unfold fIx; simp only [asL, e]; exact h
theorem w_ix_f (e : atI a i = some d) (h : P d ms) : fIx (.fro a) (.int i) ms P := by unfold fIx; simp only [asL, e]; exact h
theorem w_ix_o (e0 : look ms p = some a) (e : atI a i = some d) (h : P d ms) : fIx (.opq (.ref p)) (.int i) ms P := by unfold fIx; simp only [asL, e0, e]; exact h
theorem w_at0 {α : Type} (x : α) (r : List α) : atI (x :: r) 0 = some x := by simp [atI, ixN]
theorem w_at1 {α : Type} (x y : α) (r : List α) : atI (x :: y :: r) 1 = some y := by
  have h : (1 : Int) < (r.length : Int) + 1 + 1 := by omega
  simp [atI, ixN, h]
theorem w_at2 {α : Type} (x y z : α) (r : List α) : atI (x :: y :: z :: r) 2 = some z := by
  have h : (2 : Int) < (r.length : Int) + 1 + 1 + 1 := by omega
  simp [atI, ixN, h]
theorem w_at3 {α : Type} (x y z u : α) (r : List α) : atI (x :: y :: z :: u :: r) 3 = some u := by
  have h : (3 : Int) < (r.length : Int) + 1 + 1 + 1 + 1 := by omega
  simp [atI, ixN, h]
theorem w_sl {ol oh : DO} (h : ExG de ds ms fun x m1 => OgG ol ds m1 fun l m2 => OgG oh ds m2 fun u m3 => SlG x l u m3 P) : dSl de ol oh ds ms P := h
theorem w_sl_l (h : P (.lst (cutL a lo hi)) ms) : fSl (.lst a) lo hi ms P := h
theorem w_sl_f (h : P (.lst (cutL a lo hi)) ms) : fSl (.fro a) lo hi ms P := h
theorem w_sl_t (h : P (.tup (cutL a lo hi)) ms) : fSl (.tup a) lo hi ms P := h
theorem w_sl_s (h : z.length ≤ sizeLine ∧ P (.str (cutS z lo hi)) ms) : fSl (.str z) lo hi ms P := h
theorem w_onone (h : PO none ms) : oNone ds ms PO := h
def mSome (d : D) (m : MS) (P : Option Int → MS → Prop) : Prop := match d with
  | .int i => P (some i) m
  | _ => False
theorem w_osome (h : ExG de ds ms fun d m => mSome d m PO) : oSome de ds ms PO := h
theorem w_mSome (h : PO (some i) m) : mSome (.int i) m PO := h
theorem w_len_l (h : P (.int a.length) ms) : cLen [.lst a] ms P := h
theorem w_len_f (h : P (.int a.length) ms) : cLen [.fro a] ms P := h
theorem w_len_t (h : P (.int a.length) ms) : cLen [.tup a] ms P := h
theorem w_len_s (h : z.length ≤ sizeLine ∧ P (.int z.length) ms) : cLen [.str z] ms P := h
theorem w_len_o (e : look ms p = some a) (h : P (.int a.length) ms) : cLen [.opq (.ref p)] ms P := by unfold cLen; simp only [asL, e]; exact h
theorem w_list_l (h : P (.lst a) ms) : cList [.lst a] ms P := h
theorem w_list_f (h : P (.lst a) ms) : cList [.fro a] ms P := h
theorem w_list_t (h : P (.lst a) ms) : cList [.tup a] ms P := h
theorem w_tuple_l (h : P (.tup a) ms) : cTuple [.lst a] ms P := h
theorem w_tuple_t (h : P (.tup a) ms) : cTuple [.tup a] ms P := h
theorem w_str_s (h : P (.str z) ms) : cStr [.str z] ms P := h
theorem w_str_l (h : Shw (.lst a) ∧ P (.str (repS (.lst a))) ms) : cStr [.lst a] ms P := h
theorem w_str_i (h : Shw (.int i) ∧ P (.str (repS (.int i))) ms) : cStr [.int i] ms P := h
theorem w_repr (h : Shw d ∧ P (.str (repS d)) ms) : cRepr [d] ms P := h
theorem w_abs (h : P (.int (if i < 0 then -i else i)) ms) : cAbs [.int i] ms P := h
theorem w_max2 (h : P (.int (if j > i then j else i)) ms) : cMax2 [.int i, .int j] ms P := h
theorem w_min2 (h : P (.int (if j < i then j else i)) ms) : cMin2 [.int i, .int j] ms P := h
theorem w_int_i (h : P (.int i) ms) : cInt1 [.int i] ms P := h
theorem w_int_b (h : P (.int (if b then 1 else 0)) ms) : cInt1 [.bl b] ms P := h
theorem w_all {bs : List Bool} (e : blsOf a = some bs) (h : P (.bl (bs.all id)) ms) : cAll [.lst a] ms P := by unfold cAll; simp only [e]; exact h
def mSeq (d : D) (m : MS) (P : List D → MS → Prop) : Prop := match d with
  | .lst xs => P xs m
  | .fro xs => P xs m
  | _ => False
theorem w_iseq (h : ExG de ds ms fun d m => mSeq d m PA) : iSeq de ds ms PA := h
theorem w_mSeq (h : PA a m) : mSeq (.lst a) m PA := h
theorem w_mSeqF (h : PA a m) : mSeq (.fro a) m PA := h
def mTupI (d : D) (m : MS) (P : List D → MS → Prop) : Prop := match d with
  | .tup xs => P xs m
  | _ => False
theorem w_itup (h : ExG de ds ms fun d m => mTupI d m PA) : iTupD de ds ms PA := h
theorem w_mTupI (h : PA a m) : mTupI (.tup a) m PA := h
def mRng (xs : List D) (m : MS) (P : List D → MS → Prop) : Prop := match xs with
  | [.int j] => (-(2 ^ 62) ≤ j ∧ j < 2 ^ 62) ∧ P (rng 0 j.toNat) m
  | _ => False
theorem w_irng1 (h : ArG aa ds ms fun xs m => mRng xs m PA) : iRange1 aa ds ms PA := h
theorem w_mRng (e : -(2 ^ 62) ≤ j ∧ j < 2 ^ 62) (h : PA (rng 0 j.toNat) m) : mRng [.int j] m PA := ⟨e, h⟩
def mZip (xs : List D) (m : MS) (P : List D → MS → Prop) : Prop := match xs with
  | [.lst a, .lst b] => P (zipD a b) m
  | _ => False
theorem w_izip (h : ArG aa ds ms fun xs m => mZip xs m PA) : iZipD aa ds ms PA := h
theorem w_mZip (h : PA (zipD a c) m) : mZip [.lst a, .lst c] m PA := h
def mEnum (xs : List D) (m : MS) (P : List D → MS → Prop) : Prop := match xs with
  | [.lst a] => P (enumD a) m
  | _ => False
theorem w_ienum (h : ArG aa ds ms fun xs m => mEnum xs m PA) : iEnumD aa ds ms PA := h
theorem w_mEnum (h : PA (enumD a) m) : mEnum [.lst a] m PA := h
theorem w_lc {tt : DT} {te : DE} {vs : List Nat} (e : ∀ d, wipeD d vs = wipeD d vs) (h : ItG di ds ms fun xs m => compD g tt te (wipeD ds vs) xs [] m fun ys m' => P (.lst ys) m') : dLc di g tt te vs ds ms P := h
def mIsi (T : Ty) (d : D) (m : MS) (P : D → MS → Prop) : Prop := match tyD d with
  | some a => P (.bl (subT a T)) m
  | none => False
theorem w_isi {T : Ty} (h : ExG de ds ms fun d m => mIsi T d m P) : dIsi T de ds ms P := h
theorem w_mIsiT {T a : Ty} (e : tyD d = some a) (e2 : subT a T = true) (h : P (.bl true) m) : mIsi T d m P := by unfold mIsi; simp only [e, e2]; exact h
theorem w_mIsiF {T a : Ty} (e : tyD d = some a) (e2 : subT a T = false) (h : P (.bl false) m) : mIsi T d m P := by unfold mIsi; simp only [e, e2]; exact h
def mIsE (ml : List (Str × Bool)) (d : D) (m : MS) (P : D → MS → Prop) : Prop := match d with
  | .exc c _ _ => (match ml.lookup c with
    | some b => P (.bl b) m
    | none => False)
  | _ => False
theorem w_isE {ml : List (Str × Bool)} (h : ExG de ds ms fun d m => mIsE ml d m P) : dIsE ml de ds ms P := h
theorem w_mIsE {ml : List (Str × Bool)} {c : Str} {ns : List Str} {b : Bool} (e : ml.lookup c = some b) (h : P (.bl b) m) : mIsE ml (.exc c ns xs) m P := by unfold mIsE; simp only [e]; exact h
def mFld (ml : List (Str × Bool)) (f : Str) (d : D) (m : MS) (P : D → MS → Prop) : Prop := match d with
  | .exc c ns xs => (ml.lookup c).isSome = true ∧ ∃ y, (ns.zip xs).lookup f = some y ∧ P y m
  | _ => False
theorem w_fld {ml : List (Str × Bool)} {f : Str} (h : ExG de ds ms fun d m => mFld ml f d m P) : dFld ml f de ds ms P := h
theorem w_mFld {ml : List (Str × Bool)} {f c : Str} {ns : List Str} {b : Bool} (e : ml.lookup c = some b) (e2 : (ns.zip xs).lookup f = some y) (h : P y m) : mFld ml f (.exc c ns xs) m P := by unfold mFld; simp only [e]; exact ⟨rfl, y, e2, h⟩
def mApp (aa : DA) (ds : DS) (d : D) (m : MS) (P : D → MS → Prop) : Prop := match d with
  | .opq (.ref p) => (∃ xs0, look m p = some xs0) ∧ aa ds m fun ys m2 => (match ys with
    | [y] => (match look m2 p with
      | some xs => xs.length < sizeLine ∧ P .non (put m2 p (xs ++ [y]))
      | none => False)
    | _ => False)
  | _ => False
def mApp2 (p : Addr) (ys : List D) (m : MS) (P : D → MS → Prop) : Prop := match ys with
  | [y] => (match look m p with
    | some xs => xs.length < sizeLine ∧ P .non (put m p (xs ++ [y]))
    | none => False)
  | _ => False
theorem w_append (h : ExG de ds ms fun d m => mApp aa ds d m P) : dAppend de aa ds ms P := h
theorem w_mApp (e : look m p = some xs) (h : ArG aa ds m fun ys m2 => mApp2 p ys m2 P) : mApp aa ds (.opq (.ref p)) m P := ⟨⟨_, e⟩, h⟩
theorem w_mApp2 {m' : MS} (e : look m p = some xs) (e2 : put m p (xs ++ [y]) = m') (h : xs.length < sizeLine ∧ P .non m') : mApp2 p [y] m P := by unfold mApp2; simp only [e, e2]; exact h
theorem put_new {p : Addr} {xs ys : List D} {m : MS} : put ((p, xs) :: m) p ys = (p, ys) :: m := by unfold put; rw [if_pos rfl]
theorem drp_new {p : Addr} {xs : List D} {m : MS} : drp ((p, xs) :: m) p = m := by unfold drp; rw [if_pos rfl]
def mFrz (d : D) (m : MS) (P : D → MS → Prop) : Prop := match d with
  | .opq (.ref p) => (match look m p with
    | some xs => P (.lst xs) (drp m p)
    | none => False)
  | _ => False
theorem w_frz (h : ExG de ds ms fun d m => mFrz d m P) : dFrz de ds ms P := h
theorem w_mFrz {m' : MS} (e : look m p = some xs) (e2 : drp m p = m') (h : P (.lst xs) m') : mFrz (.opq (.ref p)) m P := by unfold mFrz; simp only [e, e2]; exact h
theorem look_new {p : Addr} {xs : List D} {m : MS} : look ((p, xs) :: m) p = some xs := by unfold look; rw [if_pos rfl]
def mChain (f' : OF) (dc : DE) (ds : DS) (y z : D) (m : MS) (P : D → MS → Prop) : Prop := match z with
  | .bl k => if k = true then dc ds m fun w m4 => f' y w m4 P else P (.bl false) m
  | _ => False
theorem w_chain {f f' : OF} (h : ExG da ds ms fun x m1 => ExG db ds m1 fun y m2 => OpG f x y m2 fun z m3 => mChain f' dc ds y z m3 P) : dChain f f' da db dc ds ms P := h
theorem w_mChain {f' : OF} (h : if b = true then ExG dc ds m fun w m4 => OpG f' y w m4 P else P (.bl false) m) : mChain f' dc ds y (.bl b) m P := h
def mIs (neg : Bool) (x y : D) (m : MS) (P : D → MS → Prop) : Prop := fIsB neg x y m P
theorem w_is (h : mIs false x y ms P) : fIs x y ms P := h
theorem w_notIs (h : mIs true x y ms P) : fNotIs x y ms P := h
theorem w_mIsN {neg z : Bool} (e : nonD x = some z) (h : P (.bl (Bool.xor neg z)) ms) : mIs neg x .non ms P := by unfold mIs fIsB; simp only [e]; exact h
theorem w_mIsB {neg a c : Bool} (h : P (.bl (Bool.xor neg (decide (a = c)))) ms) : mIs neg (.bl a) (.bl c) ms P := h
end
end
section
variable {E : EN} {ds : DS} {ms : MS} {P : D → MS → Prop} {t u : DTS} {de da db : DE} {dt du : DT} {g : DG} {gs : DGs} {aa ak : DA} {di : DI} {d : D} {n k i : Nat} {PT : Bool → MS → Prop} {PS : DS → Prop} {f : OF} {c : CF} {is : List Nat} {fs : FS}
theorem r_nx (h : NxG E ds ms) : E.nx ds ms := h
theorem r_rt (h : RtG E d ms) : E.rt d ms := h
theorem r_seq (h : StG (dSeq t u) E ds ms) : dSeq t u E ds ms := h
theorem r_ret (h : StG (dRet de) E ds ms) : dRet de E ds ms := h
theorem r_ifS (h : StG (dIfS dt t u) E ds ms) : dIfS dt t u E ds ms := h
theorem r_asg (h : StG (dAsg de g) E ds ms) : dAsg de g E ds ms := h
theorem r_drop (h : StG (dDrop de) E ds ms) : dDrop de E ds ms := h
theorem r_for (h : StG (dFor di g t) E ds ms) : dFor di g t E ds ms := h
theorem r_exprZ {dz : ZD → DE} (h : StG (dExprZ dz) E ds ms) : dExprZ dz E ds ms := h
theorem r_name (h : TgG (sName i) d ds PS) : sName i d ds PS := h
theorem r_stup (h : TgG (sTup n gs) d ds PS) : sTup n gs d ds PS := h
theorem r_op (h : ExG (dOp f da db) ds ms P) : dOp f da db ds ms P := h
theorem r_call (h : ExG (dCall n k is fs aa ak) ds ms P) : dCall n k is fs aa ak ds ms P := h
theorem r_cb (h : ExG (dCB c aa) ds ms P) : dCB c aa ds ms P := h
theorem r_var (h : ExG (dVar i) ds ms P) : dVar i ds ms P := h
theorem r_c (h : ExG (dC d) ds ms P) : dC d ds ms P := h
theorem r_tup (h : ExG (dTup aa) ds ms P) : dTup aa ds ms P := h
theorem r_lst (h : ExG (dLst aa) ds ms P) : dLst aa ds ms P := h
theorem r_andV (h : ExG (dAndV da db) ds ms P) : dAndV da db ds ms P := h
theorem r_orV (h : ExG (dOrV da db) ds ms P) : dOrV da db ds ms P := h
theorem r_notV (h : ExG (dNotV da) ds ms P) : dNotV da ds ms P := h
theorem r_if (h : ExG (dIf dt da db) ds ms P) : dIf dt da db ds ms P := h
theorem r_test (h : TsG (dTest da) ds ms PT) : dTest da ds ms PT := h
theorem r_not (h : TsG (dNot dt) ds ms PT) : dNot dt ds ms PT := h
theorem r_and (h : TsG (dAnd dt du) ds ms PT) : dAnd dt du ds ms PT := h
theorem r_or (h : TsG (dOr dt du) ds ms PT) : dOr dt du ds ms PT := h
theorem r_lc {tt : DT} {te : DE} {vs : List Nat} (h : ExG (dLc di g tt te vs) ds ms P) : dLc di g tt te vs ds ms P := h
theorem r_sl {ol oh : DO} (h : ExG (dSl de ol oh) ds ms P) : dSl de ol oh ds ms P := h
theorem r_isi {T : Ty} (h : ExG (dIsi T de) ds ms P) : dIsi T de ds ms P := h
theorem r_chain {f' : OF} {dc : DE} (h : ExG (dChain f f' da db dc) ds ms P) : dChain f f' da db dc ds ms P := h
theorem r_neg (h : ExG (dNeg de) ds ms P) : dNeg de ds ms P := h
end
end DL
namespace DL
open PySem PySem.Spec PyProof.Rows L2
def EN.gone (E : EN) (i : Nat) : EN := { nx := fun ds m => E.nx (ds.set i none) m, rt := E.rt, bk := fun ds m => E.bk (ds.set i none) m, ct := fun ds m => E.ct (ds.set i none) m }
def mTryG (ml : List (Str × Bool)) (i : Nat) (ts : DTS) (E : EN) (c : Str) (ns : List Str) (xs : List D) (ds : DS) (ms : MS) : Prop := match ml.lookup c with
  | some true => ts (EN.gone E i) (setSlot ds i (.exc c ns xs)) ms
  | some false => E.ex c ns xs ds ms
  | none => False
def dTryG (ml : List (Str × Bool)) (i : Nat) (tb ts : DTS) : DTS := fun E ds ms => tb { E with ex := mTryG ml i ts E } ds ms
def dTryG0 (ml : List (Str × Bool)) (i : Nat) (tb ts : DTS) : DTS := fun E ds ms => dTryG ml i tb ts { E with ex := fun _ _ _ _ _ => False } ds ms
section
variable {ml : List (Str × Bool)} {i : Nat} {tb ts : DTS} {E : EN} {ds ds' : DS} {ms : MS} {c : Str} {ns : List Str} {xs : List D} {d : D}
theorem w_tryG (h : StG tb (EN.wx E (mTryG ml i ts E)) ds ms) : dTryG ml i tb ts E ds ms := h
theorem w_tryG0 (h : StG (dTryG ml i tb ts) (EN.wx E fun _ _ _ _ _ => False) ds ms) : dTryG0 ml i tb ts E ds ms := h
theorem w_mTryG (e : ml.lookup c = some true) (e2 : setSlot ds i (.exc c ns xs) = ds') (h : StG ts (EN.gone E i) ds' ms) : mTryG ml i ts E c ns xs ds ms := by
  unfold mTryG; rw [e]; subst e2; exact h
theorem w_mTryGF (e : ml.lookup c = some false) (h : XcG E c ns xs ds ms) : mTryG ml i ts E c ns xs ds ms := by
  unfold mTryG; rw [e]; exact h
theorem n_gone (e : ds.set i none = ds') (h : NxG E ds' ms) : NxG (EN.gone E i) ds ms := by subst e; exact h
theorem t_gone (h : RtG E d ms) : RtG (EN.gone E i) d ms := h
theorem b_gone (e : ds.set i none = ds') (h : BkG E ds' ms) : BkG (EN.gone E i) ds ms := by subst e; exact h
theorem c_gone (e : ds.set i none = ds') (h : CtG E ds' ms) : CtG (EN.gone E i) ds ms := by subst e; exact h
end
def dCallA (n m : Nat) (is : List Nat) (fs : FS) (dd : List D) (aa ak : DA) : DE := fun ds ms P => aa ds ms fun xs m1 => ak ds m1 fun zs m2 => xs.length = n ∧ zs.length = m ∧ fs (pick is (xs ++ (zs ++ dd))) m2 P
def dCallAZ (n m : Nat) (is : List Nat) (fx : FX) (dd : List D) (aa ak : DA) (Z : ZD) : DE := fun ds ms P => aa ds ms fun xs m1 => ak ds m1 fun zs m2 => xs.length = n ∧ zs.length = m ∧ fx (pick is (xs ++ (zs ++ dd))) m2 P fun c ns ys m' => Z c ns ys ds m'
section
variable {n k : Nat} {is : List Nat} {fs : FS} {fx : FX} {dd xs zs ys : List D} {aa ak : DA} {ds : DS} {ms m : MS} {P : D → MS → Prop} {Z : ZD}
def mCallA (n k : Nat) (is : List Nat) (fs : FS) (dd xs zs : List D) (m : MS) (P : D → MS → Prop) : Prop := xs.length = n ∧ zs.length = k ∧ fs (pick is (xs ++ (zs ++ dd))) m P
theorem w_callA (h : ArG aa ds ms fun xs m1 => ArG ak ds m1 fun zs m2 => mCallA n k is fs dd xs zs m2 P) : dCallA n k is fs dd aa ak ds ms P := h
theorem w_mCallA (e1 : xs.length = n) (e2 : zs.length = k) (e : pick is (xs ++ (zs ++ dd)) = ys) (h : fs ys m P) : mCallA n k is fs dd xs zs m P := ⟨e1, e2, by rw [e]; exact h⟩
def mCallAZ (n k : Nat) (is : List Nat) (fx : FX) (dd : List D) (Z : ZD) (ds : DS) (xs zs : List D) (m : MS) (P : D → MS → Prop) : Prop := xs.length = n ∧ zs.length = k ∧ fx (pick is (xs ++ (zs ++ dd))) m P fun c ns ys m' => Z c ns ys ds m'
theorem w_callAZ (h : ArG aa ds ms fun xs m1 => ArG ak ds m1 fun zs m2 => mCallAZ n k is fx dd Z ds xs zs m2 P) : dCallAZ n k is fx dd aa ak Z ds ms P := h
theorem w_mCallAZ (e1 : xs.length = n) (e2 : zs.length = k) (e : pick is (xs ++ (zs ++ dd)) = ys) (h : fx ys m P fun c ns ys m' => Z c ns ys ds m') : mCallAZ n k is fx dd Z ds xs zs m P := ⟨e1, e2, by rw [e]; exact h⟩
end
end DL
namespace DL
open PySem PySem.Spec PyProof.Rows L2
def asT (d : D) (ms : MS) : Option (List D) := match d with
  | .tup xs => some xs
  | d => asL d ms
def aStar (de : DE) (da : DA) : DA := fun ds ms P => de ds ms fun d m1 => match asT d m1 with
  | some xs => da ds m1 fun ys m2 => P (xs ++ ys) m2
  | none => False
section
variable {X : Cx} {K : PySem.W.Frag} {da : DE} {e : Expr} {es : List Expr} {p : Pos} {aa : DA}
theorem Rel.asT {F H : Hp} {ms : MS} (R : Rel K F H ms) {v : V} {d : D} {xs : List D} (r : DR K F v d) (h : asT d ms = some xs) : ∃ a vs, v = .ref a ∧ (SqT K H a vs ∨ SqL K H a vs) ∧ DRs K F vs xs := by
  cases r with
  | tup h1 h2 => cases h; exact ⟨_, _, rfl, .inl (R.sub.sqT h1), h2⟩
  | lst h1 h2 => obtain ⟨a, vs, e, h3, h4⟩ := R.asL (.lst h1 h2) h; exact ⟨a, vs, e, .inr h3, h4⟩
  | fro h1 h2 => obtain ⟨a, vs, e, h3, h4⟩ := R.asL (.fro h1 h2) h; exact ⟨a, vs, e, .inr h3, h4⟩
  | opq v => obtain ⟨a, vs, e, h3, h4⟩ := R.asL (.opq v) h; exact ⟨a, vs, e, .inr h3, h4⟩
  | _ => cases h
theorem pda_star (ha : PD X e da) (hr : PDA X es aa) (hs : starEach (.Starred e p :: es) X.env = (true, eval e X.env) :: starEach es X.env := by rfl) : PDA X (.Starred e p :: es) (aStar da aa) :=
  paImp (StX.pa_star ha hr hs) fun σ H Q ⟨F, ds, ms, P, R, S, h1, h2⟩ =>
    ⟨F, ds, ms, _, R, S, h1, fun dx m1 x F1 H1 p1 R1 s1 r1 => by
      revert p1
      split
      · rename_i xs e1
        intro p1
        obtain ⟨a, vs, rfl, h3, h4⟩ := R1.asT r1 e1
        exact ⟨a, vs, rfl, h3, F1, ds, m1, _, R1, S.mono s1.sub, p1, fun ys m2 ws F2 H2 p2 R2 s2 r2 =>
          h2 _ m2 (vs ++ ws) F2 H2 p2 R2 (s1.trans s2) ((h4.mono s2.sub).append r2)⟩
      · intro p1; exact p1.elim⟩
end
end DL
namespace DL
open PySem PySem.Spec PyProof.Rows L2
def dLcM (di : DI) (g : DG) (tt : DT) (te : DE) (vs : List Nat) : DE := fun ds ms P => di ds ms fun xs m => compD g tt te (wipeD ds vs) xs [] m fun ys m' => ∀ p, (∀ q ∈ m', q.1 ≠ p) → P (.opq (.ref p)) ((p, ys) :: m')
section
variable {K : PySem.W.Frag} {di : DI} {dg : DG} {tt : DT} {te : DE} {g : TG} {vs : List Nat}
theorem lift_lcM (hg : TgD K g dg vs) (hm : MonG g) : ∀ σ H Q, lift K (dLcM di dg tt te vs) σ H Q → tLc (liftI K di) g (liftT K tt) (lift K te) vs σ H Q := fun σ H Q ⟨F, ds, ms, P, R, S, h, q⟩ => by
  refine ⟨F, ds, ms, _, R, S, h, fun xs m F0 H0 J p0 R0 s0 wk L hL => ?_⟩
  have nL : F0 L = none := R0.sub.none hL
  have nM : ∀ p ∈ m, p.1 ≠ L := fun p hp => by
    obtain ⟨_, ws, h2, _⟩ := R0.mu p hp
    exact ne_of_none h2 hL
  refine lc_it wk (fun i H1 => ∃ F1 m1 acc av, Rel K F1 H1 m1 ∧ Stp F0 H0 m F1 H1 m1 ∧ H1 L = some (.lst av) ∧ F1 L = none ∧ (∀ p ∈ m1, p.1 ≠ L) ∧ DRs K F1 av acc ∧ compD dg tt te (wipeD ds vs) (xs.drop i) acc m1 fun ys m' => ∀ p, (∀ q ∈ m', q.1 ≠ p) → P (.opq (.ref p)) ((p, ys) :: m'))
    ⟨F0, m, [], [], R0.lay hL, ⟨Sub.refl F0, fun a u h1 _ _ => by rw [upd_ne (ne_of_none h1 hL)]; exact h1, fun _ _ h => .inl h, fun q hq => .inl ⟨q, hq, rfl⟩⟩, upd_same, nL, nM, .nil, p0⟩
    (fun i H1 _ ⟨F1, m1, acc, av, R1, s1, _⟩ => s1.sub.trans R1.sub) ?_ ?_
  · rintro i x H1 H2 hi ⟨F1, m1, acc, av, R1, s1, hD, hF, hM, ra, h1⟩ ⟨d, hd, hy⟩
    rw [drop_get hd] at h1
    have fin : ∀ {F2 : Hp} {x : V}, Rel K F2 H2 m1 → Stp F0 H0 m F2 H2 m1 → Sub F1 F2 → DR K F2 x d → H2 L = some (.lst av) → F2 L = none →
        g x (L2.wipe σ vs) H2 fun σ2 H3 => L2.wipe σ2 vs = L2.wipe σ vs ∧ liftT K tt σ2 H3 fun b H4 => if b = true then lift K te σ2 H4 fun y H5 => ∃ acc, H5 L = some (.lst acc) ∧ acc.length < sizeLine ∧
          (∃ F1 m1 acc' av, Rel K F1 (upd H5 L (.lst (acc ++ [y]))) m1 ∧ Stp F0 H0 m F1 (upd H5 L (.lst (acc ++ [y]))) m1 ∧ (upd H5 L (.lst (acc ++ [y]))) L = some (.lst av) ∧ F1 L = none ∧ (∀ p ∈ m1, p.1 ≠ L) ∧ DRs K F1 av acc' ∧ compD dg tt te (wipeD ds vs) (xs.drop (i + 1)) acc' m1 fun ys m' => ∀ p, (∀ q ∈ m', q.1 ≠ p) → P (.opq (.ref p)) ((p, ys) :: m'))
          else ∃ F1 m1 acc av, Rel K F1 H4 m1 ∧ Stp F0 H0 m F1 H4 m1 ∧ H4 L = some (.lst av) ∧ F1 L = none ∧ (∀ p ∈ m1, p.1 ≠ L) ∧ DRs K F1 av acc ∧ compD dg tt te (wipeD ds vs) (xs.drop (i + 1)) acc m1 fun ys m' => ∀ p, (∀ q ∈ m', q.1 ≠ p) → P (.opq (.ref p)) ((p, ys) :: m') := by
      intro F2 x R2 s2 s12 rx hD2 hF2
      have hw := hg.wip x (L2.wipe σ vs) H2 _ (hg.snd x (L2.wipe σ vs) F2 H2 (fun σ2 H3 => H3 = H2 ∧ ∃ ds2, Sl K F2 σ2 ds2 ∧ tt ds2 m1 fun b m3 => if b = true then te ds2 m3 fun y m4 => acc.length < sizeLine ∧ compD dg tt te (wipeD ds vs) (xs.drop (i + 1)) (acc ++ [y]) m4 fun ys m' => ∀ p, (∀ q ∈ m', q.1 ≠ p) → P (.opq (.ref p)) ((p, ys) :: m') else compD dg tt te (wipeD ds vs) (xs.drop (i + 1)) acc m3 fun ys m' => ∀ p, (∀ q ∈ m', q.1 ≠ p) → P (.opq (.ref p)) ((p, ys) :: m')) d (wipeD ds vs) _ R2.sub ((S.wipe vs).mono (s0.sub.trans s2.sub)) rx h1 fun ds2 σ2 h2 S2 => ⟨rfl, ds2, S2, h2⟩)
      refine hm _ _ _ _ _ ?_ hw
      rintro σ2 H3 ⟨e1, rfl, ds2, S2, h2⟩
      refine ⟨e1.trans (wipe_wipe fun u hu => hu), F2, ds2, m1, _, R2, S2, h2, fun b m4 F4 H4 p4 R4 s4 => ?_⟩
      obtain ⟨hD4, hF4, hM4⟩ := s4.kp hD2 hF2 hM
      cases b with
      | false =>
        rw [if_neg Bool.false_ne_true] at p4 ⊢
        exact ⟨F4, m4, acc, av, R4, s2.trans s4, hD4, hF4, hM4, (ra.mono s12).mono s4.sub, p4⟩
      | true =>
        rw [if_pos rfl] at p4 ⊢
        refine ⟨F4, ds2, m4, _, R4, S2.mono s4.sub, p4, fun y m5 v5 F5 H5 p5 R5 s5 r5 => ?_⟩
        obtain ⟨hD5, hF5, hM5⟩ := s5.kp hD4 hF4 hM4
        have ra5 := ((ra.mono s12).mono s4.sub).mono s5.sub
        have s05 := (s2.trans s4).trans s5
        refine ⟨av, hD5, by rw [ra.length]; exact p5.1, F5, m5, acc ++ [y], av ++ [v5], ?_, ?_, upd_same, hF5, hM5, ra5.append (.cons r5 .nil), p5.2⟩
        · refine ⟨fun b u e => ?_, fun p hp => ?_, R5.nd, R5.one⟩
          · rw [upd_ne (fun z => by rw [z, hF5] at e; cases e)]; exact R5.sub b u e
          · obtain ⟨z1, ws, z2, z3⟩ := R5.mu p hp
            exact ⟨z1, ws, by rw [upd_ne (hM5 p hp)]; exact z2, z3⟩
        · exact ⟨s05.sub, fun a u z1 z2 z3 => by rw [upd_ne (ne_of_none z1 hL)]; exact s05.keep a u z1 z2 z3, s05.newF, s05.newM⟩
    rcases hy with ⟨rfl, rx⟩ | ⟨T, a, b, da, db, rfl, hT, rfl, rfl, ra', rb'⟩
    · exact fin R1 s1 (Sub.refl F1) (rx.mono s1.sub) hD hF
    · have hne : L ≠ T := ne_of_none hD hT
      exact fin (R1.new hT) (s1.trans (Stp.new R1 hT)) (Sub.new (R1.sub.none hT)) (R1.newTup hT (.cons (ra'.mono s1.sub) (.cons (rb'.mono s1.sub) .nil))) (by rw [upd_ne hne]; exact hD) (by rw [upd_ne hne]; exact hF)
  · rintro H1 ⟨F1, m1, acc, av, R1, s1, hD, hF, hM, ra, h1⟩
    rw [List.drop_length] at h1
    refine q _ ((L, acc) :: m1) (.ref L) F1 H1 (h1 L hM) ?_ (s0.trans ?_) (.opq _)
    · refine ⟨R1.sub, fun p hp => ?_, ?_, R1.one⟩
      · rcases List.mem_cons.mp hp with rfl | hp
        · exact ⟨hF, av, hD, ra⟩
        · exact R1.mu p hp
      · rw [List.map_cons, List.nodup_cons]
        refine ⟨fun hm => ?_, R1.nd⟩
        obtain ⟨q, hq, e⟩ := List.mem_map.mp hm
        exact hM q hq e
    · refine ⟨s1.sub, s1.keep, s1.newF, fun p hp => ?_⟩
      rcases List.mem_cons.mp hp with rfl | hp
      · exact .inr (.inl hL)
      · exact s1.newM p hp
end
section
variable {X : Cx} {elt tg iter : Expr} {ifs : List Expr} {scope : Scope} {own : List (Str × Nat)} {pos spos py : Pos} {di : DI} {g : TG} {dg : DG} {tt : DT} {te : DE} {i : Nat} {y : Str}
theorem pd_lcM (hc : X.calm = true) (hN : X.N.Nodup) (hi : PDI X tg iter di) (ok : BlkOk X.N X.env.scope scope own)
    (hg : ∀ (s : Shared) (H : Hp) (C : Addr) (cl : List (Str × Addr)) (fp : List Addr), PG (X.blk s H scope (compEnvC scope cl C X.env) fp) tg g)
    (hd : TgD X.K g dg (own.map (·.2))) (hm : MonG g)
    (ht : ∀ (s : Shared) (H : Hp) (C : Addr) (cl : List (Str × Addr)) (fp : List Addr), PDTs (X.blk s H scope (compEnvC scope cl C X.env) fp) ifs tt)
    (he : ∀ (s : Shared) (H : Hp) (C : Addr) (cl : List (Str × Addr)) (fp : List Addr), PD (X.blk s H scope (compEnvC scope cl C X.env) fp) elt te)
    (hs : ∀ x, foldedSetIterable iter X.env x = pure x := by intro _; rfl) :
    PD X (.ListComp elt [⟨tg, iter, ifs, 0⟩] scope pos) (dLcM di dg tt te (own.map (·.2))) :=
  peImp (pe_lc hc hN hi ok hg ht he hs) (lift_lcM hd hm)
theorem pds_setLcM (hc : X.calm = true) (hN : X.N.Nodup) (hy : X.N[i]? = some y) (hyl : X.env.scope.names.lookup y = some .local)
    (hsw : swapsWith (.ListComp elt [⟨tg, iter, ifs, 0⟩] scope pos) (some (.Name y py)) spos.line X.env = pure true) (hi : PDI X tg iter di) (ok : BlkOk X.N X.env.scope scope own)
    (hg : ∀ (s : Shared) (H : Hp) (C : Addr) (cl : List (Str × Addr)) (fp : List Addr), PG (X.blk s H scope (compEnvC scope cl C X.env) fp) tg g)
    (hd : TgD X.K g dg (own.map (·.2))) (hm : MonG g)
    (ht : ∀ (s : Shared) (H : Hp) (C : Addr) (cl : List (Str × Addr)) (fp : List Addr), PDTs (X.blk s H scope (compEnvC scope cl C X.env) fp) ifs tt)
    (he : ∀ (s : Shared) (H : Hp) (C : Addr) (cl : List (Str × Addr)) (fp : List Addr), PD (X.blk s H scope (compEnvC scope cl C X.env) fp) elt te)
    (hs : ∀ x, foldedSetIterable iter X.env x = pure x := by intro _; rfl) :
    PDS X (.Assign [.Name y py] (.ListComp elt [⟨tg, iter, ifs, 0⟩] scope pos) spos) (dAsg (dLcM di dg tt te (own.map (·.2))) (sName i)) :=
  psImp (ps_setLc hc hN hy hyl hsw hi ok hg ht he hs) fun D σ H h => by
    obtain ⟨F, ds, ms, P, R, S, z1, z2⟩ := h
    exact lift_lcM hd hm σ H _ ⟨F, ds, ms, _, R, S, z1, fun d m v F1 H1 p1 R1 s1 r1 => z2.1 _ m _ F1 H1 p1 R1 s1 ((S.mono s1.sub).set r1 i)⟩
end
/-- a + b, lists, written to -/
def fAddM : OF := fun x y ms P => match x, y with
  | .lst a, .lst b => a.length + b.length ≤ sizeLine ∧ ∀ p, (∀ q ∈ ms, q.1 ≠ p) → P (.opq (.ref p)) ((p, a ++ b) :: ms)
  | _, _ => False
theorem opd_addM {K : PySem.W.Frag} : OpD K (rAddD K) fAddM := by
  intro F H ms x y dx dy P Q R rx ry h q
  cases rx with
  | lst h1 r1 => cases ry with
    | lst h2 r2 =>
      refine .inr (.inr (.inl ⟨_, _, _, _, rfl, rfl, R.sub _ _ h1, R.sub _ _ h2, by rw [r1.length, r2.length]; exact h.1, fun p hp => ?_⟩))
      exact q _ _ _ F _ (h.2 p (R.newMut hp (r1.append r2)).1) (R.newMut hp (r1.append r2)).2 (Stp.newMut hp) (.opq _)
    | _ => exact h.elim
  | _ => exact h.elim
/-- a * k, a list, written to -/
def fMulM : OF := fun x y ms P => match x, y with
  | .lst a, .int k => (-(2 ^ 63) ≤ k ∧ k < 2 ^ 63 ∧ a.length * k.toNat ≤ sizeLine) ∧ ∀ p, (∀ q ∈ ms, q.1 ≠ p) → P (.opq (.ref p)) ((p, (List.replicate k.toNat a).flatten) :: ms)
  | _, _ => False
theorem opd_mulM {K : PySem.W.Frag} : OpD K rMulD fMulM := by
  intro F H ms x y dx dy P Q R rx ry h q
  cases rx with
  | lst h1 r1 => cases ry with
    | int k =>
      obtain ⟨⟨z1, z2, z3⟩, z4⟩ := h
      refine .inr ⟨_, k, _, rfl, rfl, R.sub _ _ h1, z1, z2, by rw [r1.length]; exact z3, fun p hp => ?_⟩
      exact q _ _ _ F _ (z4 p (R.newMut hp (r1.rep k.toNat)).1) (R.newMut hp (r1.rep k.toNat)).2 (Stp.newMut hp) (.opq _)
    | _ => exact h.elim
  | _ => exact h.elim
/-- list(x), written to -/
def cListM : CF := fun xs ms P => match xs with
  | [.tup ys] => ∀ p, (∀ q ∈ ms, q.1 ≠ p) → P (.opq (.ref p)) ((p, ys) :: ms)
  | [.lst ys] => ∀ p, (∀ q ∈ ms, q.1 ≠ p) → P (.opq (.ref p)) ((p, ys) :: ms)
  | _ => False
theorem w_listM_t {ys : List D} {ms : MS} {P : D → MS → Prop} (h : ∀ p, (∀ q ∈ ms, q.1 ≠ p) → P (.opq (.ref p)) ((p, ys) :: ms)) : cListM [.tup ys] ms P := h
theorem w_listM_l {ys : List D} {ms : MS} {P : D → MS → Prop} (h : ∀ p, (∀ q ∈ ms, q.1 ≠ p) → P (.opq (.ref p)) ((p, ys) :: ms)) : cListM [.lst ys] ms P := h
/-- ahead of a statement a list that changes no more is made fast -/
def dFrzS (i : Nat) (t : DTS) : DTS := fun E ds ms => match slot ds i with
  | some (.opq (.ref p)) => (match look ms p with
    | some xs => t E (setSlot ds i (.lst xs)) (drp ms p)
    | none => False)
  | _ => False
theorem setSlot_σ : ∀ {K : PySem.W.Frag} {F : Hp} {σ : L2.St} {ds : DS} {i : Nat} {v : V} {d : D}, Sl K F σ ds → σ[i]? = some (some v) → DR K F v d → Sl K F σ (setSlot ds i d)
  | _, _, _, _, i, _, _, .nil, _, _ => by cases i <;> exact .nil
  | _, _, _, _, 0, _, _, .sm h r, e, q => by cases e; exact .sm q r
  | _, _, _, _, 0, _, _, .nn r, e, q => by
    have e' := Option.some.inj e
    subst e'
    exact .sm q r
  | _, _, _, _, i + 1, _, _, .sm h r, e, q => .sm h (setSlot_σ (i := i) r e q)
  | _, _, _, _, i + 1, _, _, .nn r, e, q => .nn (setSlot_σ (i := i) r e q)
theorem liftS_frz {K : PySem.W.Frag} {t : DTS} {i : Nat} : ∀ D σ H, liftS K (dFrzS i t) D σ H → liftS K t D σ H := fun D σ H ⟨F, ds, ms, E, R, S, h, n, r, k, q⟩ => by
  unfold dFrzS at h
  split at h
  · rename_i p e
    split at h
    · rename_i xs e1
      obtain ⟨v, hv, hr⟩ := S.get e
      cases hr
      obtain ⟨vs, z1, z2, z3⟩ := relFrz R e1
      exact ⟨_, _, _, E, z1, setSlot_σ (S.mono z2.sub) hv z3, h, fun ds' m' σ' F' H' h' R' s' S' => n ds' m' σ' F' H' h' R' (z2.trans s') S', fun d m' v' F' H' h' R' s' r' => r d m' v' F' H' h' R' (z2.trans s') r',
        fun ds' m' σ' F' H' h' R' s' S' => k ds' m' σ' F' H' h' R' (z2.trans s') S', fun ds' m' σ' F' H' h' R' s' S' => q ds' m' σ' F' H' h' R' (z2.trans s') S'⟩
    · exact h.elim
  · exact h.elim
theorem pds_frz {X : Cx} {st : Stmt} {t : DTS} {i : Nat} (h : PDS X st t) : PDS X st (dFrzS i t) := psImp h liftS_frz
theorem w_frzS {t : DTS} {E : EN} {ds ds' : DS} {ms ms' : MS} {i : Nat} {p : Addr} {xs : List D} (e : slot ds i = some (.opq (.ref p))) (e1 : look ms p = some xs) (e2 : setSlot ds i (.lst xs) = ds') (e3 : drp ms p = ms') (h : StG t E ds' ms') : dFrzS i t E ds ms := by
  unfold dFrzS; simp only [e, e1, e2, e3]; exact h
theorem w_lcM {di : DI} {g : DG} {tt : DT} {te : DE} {vs : List Nat} {ds : DS} {ms : MS} {P : D → MS → Prop} (h : ItG di ds ms fun xs m => compD g tt te (wipeD ds vs) xs [] m fun ys m' => ∀ p, (∀ q ∈ m', q.1 ≠ p) → P (.opq (.ref p)) ((p, ys) :: m')) : dLcM di g tt te vs ds ms P := h
theorem w_addM {a c : List D} {ms : MS} {P : D → MS → Prop} (h : a.length + c.length ≤ sizeLine ∧ ∀ p, (∀ q ∈ ms, q.1 ≠ p) → P (.opq (.ref p)) ((p, a ++ c) :: ms)) : fAddM (.lst a) (.lst c) ms P := h
mutual
def flat : D → Bool
  | .non => true
  | .bl _ => true
  | .int _ => true
  | .str _ => true
  | .tup xs => flats xs
  | .opq _ => true
  | .lst _ => false
  | .fro _ => false
  | .edic => false
  | .dct _ => false
  | .exc _ _ _ => false
def flats : List D → Bool
  | [] => true
  | x :: r => flat x && flats r
end
def flatM (ms : MS) : Prop := ∀ q ∈ ms, flats q.2 = true
def dLoan (i : Nat) (de : DE) : DE := fun ds ms P => match slot ds i with
  | some (.opq (.ref p)) => (match look ms p with
    | some xs => de (setSlot ds i (.lst xs)) (drp ms p) fun d m => flat d = true ∧ flatM m ∧ P d ((p, xs) :: m)
    | none => False)
  | _ => False
theorem w_loan {i : Nat} {de : DE} {ds ds' : DS} {ms ms' : MS} {P : D → MS → Prop} {p : Addr} {xs : List D} (e : slot ds i = some (.opq (.ref p))) (e1 : look ms p = some xs) (e2 : setSlot ds i (.lst xs) = ds') (e3 : drp ms p = ms') (h : ExG de ds' ms' fun d m => flat d = true ∧ flatM m ∧ P d ((p, xs) :: m)) : dLoan i de ds ms P := by
  unfold dLoan; simp only [e, e1, e2, e3]; exact h
def mSetIx (E : EN) (ds : DS) (v o i : D) (m3 : MS) : Prop := match o, i with
  | .opq (.ref p), .int k => (match look m3 p with
    | some xs => (match ixN xs.length k with
      | some j => E.nx ds (put m3 p (xs.set j v))
      | none => False)
    | none => False)
  | _, _ => False
theorem w_setIx {do_ di dv : DE} {E : EN} {ds : DS} {ms : MS} (h : ExG dv ds ms fun v m1 => ExG do_ ds m1 fun o m2 => ExG di ds m2 fun i m3 => mSetIx E ds v o i m3) : dSetIx do_ di dv E ds ms := h
theorem w_mSetIx {E : EN} {ds : DS} {v : D} {p : Addr} {k : Int} {m m' : MS} {xs : List D} {j : Nat} (e : look m p = some xs) (e2 : ixN xs.length k = some j) (e3 : put m p (xs.set j v) = m') (h : NxG E ds m') : mSetIx E ds v (.opq (.ref p)) (.int k) m := by
  unfold mSetIx; simp only [e, e2, e3]; exact h
end DL
namespace DL
open PySem PySem.Spec PyProof.Rows L2
/-- C(..), an own class without an __init__ -/
def dMk0 (c : Str) (aa : DA) : DE := fun ds ms P => aa ds ms fun xs m => xs.length ≤ sizeLine ∧ P (.exc c [] []) m
/-- C(..), an own class that keeps its arguments -/
def dMkI (c : Str) (fs : List Str) (aa : DA) : DE := fun ds ms P => aa ds ms fun xs m => xs.length = fs.length ∧ P (.exc c fs xs) m
structure CntOk (a : List D) (d : D) (n : Nat) : Prop where
  ex : ∃ ps q, toPys a = some ps ∧ toPy d = some q ∧ PyData.plainAll ps = true ∧ q.plain = true ∧ q.depth ≤ 60 ∧ n = ps.countP fun y => PyData.eqv y q
def dCount (dx : DE) (aa : DA) : DE := fun ds ms P => dx ds ms fun x m1 => match x with
  | .lst a => aa ds m1 fun ys m2 => (match ys with
    | [y] => ∃ n, CntOk a y n ∧ P (.int n) m2
    | _ => False)
  | _ => False
section
variable {ds : DS} {ms m : MS} {P : D → MS → Prop} {aa : DA} {dx : DE} {c : Str} {fs : List Str} {xs ys : List D} {A : Prop} {α β : Type} {u : List α} {v : List β}
theorem w_mk0 (h : ArG aa ds ms fun xs m => xs.length ≤ sizeLine ∧ P (.exc c [] []) m) : dMk0 c aa ds ms P := h
theorem w_mkI (h : ArG aa ds ms fun xs m => xs.length = fs.length ∧ P (.exc c fs xs) m) : dMkI c fs aa ds ms P := h
theorem w_lenq (e : u.length = v.length) (h : A) : u.length = v.length ∧ A := ⟨e, h⟩
def mCnt (aa : DA) (ds : DS) (x : D) (m : MS) (P : D → MS → Prop) : Prop := match x with
  | .lst a => aa ds m fun ys m2 => (match ys with
    | [y] => ∃ n, CntOk a y n ∧ P (.int n) m2
    | _ => False)
  | _ => False
def mCnt2 (a ys : List D) (m : MS) (P : D → MS → Prop) : Prop := match ys with
  | [y] => ∃ n, CntOk a y n ∧ P (.int n) m
  | _ => False
theorem w_count (h : ExG dx ds ms fun x m => mCnt aa ds x m P) : dCount dx aa ds ms P := h
theorem w_mCnt (h : ArG aa ds m fun ys m2 => mCnt2 xs ys m2 P) : mCnt aa ds (.lst xs) m P := h
end
end DL
namespace DL
open PySem PySem.Spec PyProof.Rows L2
abbrev MF := Str → List D → MS → (D → MS → Prop) → Prop
def dM1 (f : MF) (dx dy : DE) : DE := fun ds ms P => dx ds ms fun x m1 => match x with
  | .str a => dy ds m1 fun y m2 => f a [y] m2 P
  | _ => False
def mPart : MF := fun a ys ms P => match ys with
  | [.str b] => (b.length == 0) = false ∧ a.length ≤ sizeLine ∧ P (.tup [.str (Txt.partition a b).1, .str (Txt.partition a b).2.1, .str (Txt.partition a b).2.2]) ms
  | _ => False
def mStarts : MF := fun a ys ms P => match ys with
  | [.str b] => P (.bl (Txt.startswith a b)) ms
  | _ => False
def mEnds : MF := fun a ys ms P => match ys with
  | [.str b] => P (.bl (Txt.endswith a b)) ms
  | _ => False
def mSplit : MF := fun a ys ms P => match ys with
  | [.str b] => (b.length == 0) = false ∧ a.length + 2 ≤ sizeLine ∧ P (.lst ((Txt.split a b).map D.str)) ms
  | _ => False
def mZfill : MF := fun a ys ms P => match ys with
  | [.int i] => PadOk i = true ∧ P (.str (Txt.zfill a i)) ms
  | _ => False
def mRemSuf : MF := fun a ys ms P => match ys with
  | [.str b] => a.length ≤ sizeLine ∧ P (.str (Txt.removesuffix a b)) ms
  | _ => False
def dJoinRev (dx dy : DE) : DE := fun ds ms P => dx ds ms fun x m1 => match x with
  | .str a => dy ds m1 fun y m2 => ∃ zs : List Str, asL y m2 = some (zs.map D.str) ∧ (zs.reverse.map (·.length)).sum + zs.reverse.length * a.length ≤ 16777216 ∧ P (.str (Txt.join a zs.reverse)) m2
  | _ => False
def cDivmod : CF := fun xs ms P => match xs with
  | [.int i, .int j] => CDivP i j ∧ P (.tup [.int (i / j), .int (i % j)]) ms
  | _ => False
def fInS (neg : Bool) : OF := fun x y ms P => match x, y with
  | .str a, .str z => ∃ c : Nat, a = ⟨#[c]⟩ ∧ P (.bl (Bool.xor neg (decide (c ∈ z.cps.toList)))) ms
  | _, _ => False
def fInSign : OF := fInS false
def fNotInSign : OF := fInS true
theorem opd_inSign {K : PySem.W.Frag} : OpD K (fun x y H Q => ∃ (c : Nat) (z : Str), x = .str ⟨#[c]⟩ ∧ y = .str z ∧ Q (.bl (decide (c ∈ z.cps.toList))) H) fInSign := fun F H ms x y dx dy P Q R rx ry h q => by
  match dx, dy, h, rx, ry with
  | .str a, .str z, ⟨c, e, h⟩, .str _, .str _ => subst e; exact ⟨c, z, rfl, rfl, by simpa using q _ ms _ F H h R Stp.refl (.bl _)⟩
def dFmt (de : DE) : DE := fun ds ms P => de ds ms fun x m => match x with
  | .str y => y.length ≤ sizeLine ∧ P (.str y) m
  | .int i => i.natAbs.log2 < 1920 ∧ P (.str (toString i)) m
  | _ => False
def jsD : List DE → Str → DS → MS → (Str → MS → Prop) → Prop
  | [], acc, _, ms, P => P acc ms
  | t :: ts, acc, ds, ms, P => t ds ms fun x m => match x with
    | .str y => (acc ++ y).length ≤ sizeLine ∧ jsD ts (acc ++ y) ds m P
    | _ => False
def dJoined (ts : List DE) : DE := fun ds ms P => jsD ts Str.empty ds ms fun out m => P (.str out) m
section
variable {ds : DS} {ms m : MS} {P : D → MS → Prop} {dx dy de : DE} {f : MF} {a b z : Str} {i j : Int} {zs : List Str} {ts : List DE} {y d : D}
def mM1 (f : MF) (dy : DE) (ds : DS) (x : D) (m : MS) (P : D → MS → Prop) : Prop := match x with
  | .str a => dy ds m fun y m2 => f a [y] m2 P
  | _ => False
def MtG (f : MF) (a : Str) (ys : List D) (m : MS) (P : D → MS → Prop) : Prop := f a ys m P
theorem w_m1 (h : ExG dx ds ms fun x m => mM1 f dy ds x m P) : dM1 f dx dy ds ms P := h
theorem w_mM1 (h : ExG dy ds m fun y m2 => MtG f a [y] m2 P) : mM1 f dy ds (.str a) m P := h
theorem w_part (h : (b.length == 0) = false ∧ a.length ≤ sizeLine ∧ P (.tup [.str (Txt.partition a b).1, .str (Txt.partition a b).2.1, .str (Txt.partition a b).2.2]) ms) : MtG mPart a [.str b] ms P := h
theorem w_starts (h : P (.bl (Txt.startswith a b)) ms) : MtG mStarts a [.str b] ms P := h
theorem w_ends (h : P (.bl (Txt.endswith a b)) ms) : MtG mEnds a [.str b] ms P := h
theorem w_split (h : (b.length == 0) = false ∧ a.length + 2 ≤ sizeLine ∧ P (.lst ((Txt.split a b).map D.str)) ms) : MtG mSplit a [.str b] ms P := h
theorem w_zfill (h : PadOk i = true ∧ P (.str (Txt.zfill a i)) ms) : MtG mZfill a [.int i] ms P := h
theorem w_remSuf (h : a.length ≤ sizeLine ∧ P (.str (Txt.removesuffix a b)) ms) : MtG mRemSuf a [.str b] ms P := h
def mJr (dy : DE) (ds : DS) (x : D) (m : MS) (P : D → MS → Prop) : Prop := match x with
  | .str a => dy ds m fun y m2 => ∃ zs : List Str, asL y m2 = some (zs.map D.str) ∧ (zs.reverse.map (·.length)).sum + zs.reverse.length * a.length ≤ 16777216 ∧ P (.str (Txt.join a zs.reverse)) m2
  | _ => False
def mJr2 (a : Str) (y : D) (m : MS) (P : D → MS → Prop) : Prop := ∃ zs : List Str, asL y m = some (zs.map D.str) ∧ (zs.reverse.map (·.length)).sum + zs.reverse.length * a.length ≤ 16777216 ∧ P (.str (Txt.join a zs.reverse)) m
theorem w_joinRev (h : ExG dx ds ms fun x m => mJr dy ds x m P) : dJoinRev dx dy ds ms P := h
theorem w_mJr (h : ExG dy ds m fun y m2 => mJr2 a y m2 P) : mJr dy ds (.str a) m P := h
theorem w_divmod (h : CDivP i j ∧ P (.tup [.int (i / j), .int (i % j)]) ms) : cDivmod [.int i, .int j] ms P := h
theorem w_inSign {c : Nat} (h : P (.bl (decide (c ∈ z.cps.toList))) ms) : fInSign (.str ⟨#[c]⟩) (.str z) ms P := ⟨c, rfl, by simpa using h⟩
theorem w_notInSign {c : Nat} (h : P (.bl (!decide (c ∈ z.cps.toList))) ms) : fNotInSign (.str ⟨#[c]⟩) (.str z) ms P := ⟨c, rfl, by simpa using h⟩
def mFmt (x : D) (m : MS) (P : D → MS → Prop) : Prop := match x with
  | .str y => y.length ≤ sizeLine ∧ P (.str y) m
  | .int i => i.natAbs.log2 < 1920 ∧ P (.str (toString i)) m
  | _ => False
theorem w_fmt (h : ExG de ds ms fun x m => mFmt x m P) : dFmt de ds ms P := h
theorem w_mFmtS (h : a.length ≤ sizeLine ∧ P (.str a) m) : mFmt (.str a) m P := h
theorem w_mFmtI (h : i.natAbs.log2 < 1920 ∧ P (.str (toString i)) m) : mFmt (.int i) m P := h
def JsG (ts : List DE) (acc : Str) (ds : DS) (ms : MS) (P : Str → MS → Prop) : Prop := jsD ts acc ds ms P
def mJs (ts : List DE) (acc : Str) (ds : DS) (x : D) (m : MS) (P : Str → MS → Prop) : Prop := match x with
  | .str y => (acc ++ y).length ≤ sizeLine ∧ jsD ts (acc ++ y) ds m P
  | _ => False
theorem w_joined (h : JsG ts Str.empty ds ms fun out m => P (.str out) m) : dJoined ts ds ms P := h
theorem w_jsN {P : Str → MS → Prop} (h : P a ms) : JsG [] a ds ms P := h
theorem w_jsC {P : Str → MS → Prop} (h : ExG de ds ms fun x m => mJs ts a ds x m P) : JsG (de :: ts) a ds ms P := h
theorem w_mJs {P : Str → MS → Prop} (h : (a ++ b).length ≤ sizeLine ∧ JsG ts (a ++ b) ds m P) : mJs ts a ds (.str b) m P := h
end
end DL
namespace DL
open PySem PySem.Spec PyProof.Rows L2
def maxOf : List Int → Int → Int
  | [], d => d
  | n :: r, _ => r.foldl max n
def dMaxDef (aa ak : DA) : DE := fun ds ms P => aa ds ms fun xs m1 => ak ds m1 fun zs m2 => match xs, zs with
  | [.lst ys], [.int d] => ∃ ns : List Int, ys = ns.map D.int ∧ P (.int (maxOf ns d)) m2
  | _, _ => False
section
variable {ds : DS} {ms m : MS} {P : D → MS → Prop} {aa ak : DA}
def mMaxD (xs zs : List D) (m : MS) (P : D → MS → Prop) : Prop := match xs, zs with
  | [.lst ys], [.int d] => ∃ ns : List Int, ys = ns.map D.int ∧ P (.int (maxOf ns d)) m
  | _, _ => False
theorem w_maxDef (h : ArG aa ds ms fun xs m1 => ArG ak ds m1 fun zs m2 => mMaxD xs zs m2 P) : dMaxDef aa ak ds ms P := h
theorem w_mMaxD {ns : List Int} {d : Int} (h : P (.int (maxOf ns d)) m) : mMaxD [.lst (ns.map D.int)] [.int d] m P := ⟨ns, rfl, h⟩
end
section
variable {E : EN} {ds : DS} {ms : MS} {P : D → MS → Prop} {t : DTS} {de da db dc : DE} {g : DG} {aa : DA} {di : DI} {i : Nat} {f : MF} {ts : List DE}
theorem r_frzS (h : StG (dFrzS i t) E ds ms) : dFrzS i t E ds ms := h
theorem r_setIx (h : StG (dSetIx da db dc) E ds ms) : dSetIx da db dc E ds ms := h
theorem r_lcM {tt : DT} {te : DE} {vs : List Nat} (h : ExG (dLcM di g tt te vs) ds ms P) : dLcM di g tt te vs ds ms P := h
theorem r_m1 (h : ExG (dM1 f da db) ds ms P) : dM1 f da db ds ms P := h
theorem r_joined (h : ExG (dJoined ts) ds ms P) : dJoined ts ds ms P := h
theorem r_frz (h : ExG (dFrz de) ds ms P) : dFrz de ds ms P := h
theorem r_append (h : ExG (dAppend de aa) ds ms P) : dAppend de aa ds ms P := h
end
end DL
namespace DL
open PySem PySem.Spec PyProof.Rows L2 SX TL NumText
theorem cutL_to {α : Type} (l : List α) (i : Int) (h : 0 ≤ i) : cutL l none (some i) = l.take i.toNat := by
  obtain ⟨n, rfl⟩ := Int.eq_ofNat_of_zero_le h
  unfold cutL
  rw [show HT.sIx l.length l.length (some (n : Int)) = min n l.length from HT.sIx_nat _ _ n, HT.sIx_none, Int.toNat_natCast]
  show List.take (min n l.length - 0) (l.drop 0) = _
  rw [List.drop_zero, Nat.sub_zero, ← List.take_eq_take_min]
theorem cutL_from {α : Type} (l : List α) (i : Int) (h : 0 ≤ i) : cutL l (some i) none = l.drop i.toNat := by
  obtain ⟨n, rfl⟩ := Int.eq_ofNat_of_zero_le h
  unfold cutL
  rw [show HT.sIx l.length 0 (some (n : Int)) = min n l.length from HT.sIx_nat _ _ n, HT.sIx_none, Int.toNat_natCast]
  rw [List.take_of_length_le (by rw [List.length_drop]; omega)]
  by_cases hn : n ≤ l.length
  · rw [Nat.min_eq_left hn]
  · rw [Nat.min_eq_right (by omega), List.drop_length, List.drop_of_length_le (by omega)]
theorem cutL_mid {α : Type} (l : List α) (i j : Int) (h : 0 ≤ i) (hj : i ≤ j) : cutL l (some i) (some j) = (l.drop i.toNat).take (j - i).toNat := by
  obtain ⟨n, rfl⟩ := Int.eq_ofNat_of_zero_le h
  obtain ⟨m, rfl⟩ := Int.eq_ofNat_of_zero_le (Int.le_trans h hj)
  unfold cutL
  rw [show HT.sIx l.length 0 (some (n : Int)) = min n l.length from HT.sIx_nat _ _ n, show HT.sIx l.length l.length (some (m : Int)) = min m l.length from HT.sIx_nat _ _ m, Int.toNat_natCast]
  by_cases hn : n ≤ l.length
  · rw [Nat.min_eq_left hn]
    by_cases hm : m ≤ l.length
    · rw [Nat.min_eq_left hm]
      congr 1
      omega
    · rw [Nat.min_eq_right (by omega), List.take_of_length_le (by rw [List.length_drop]; omega), List.take_of_length_le (by rw [List.length_drop]; omega)]
  · rw [Nat.min_eq_right (show l.length ≤ n by omega), List.drop_length, List.take_nil, List.drop_of_length_le (by omega), List.take_nil]
section
variable {E : EN} {ds : DS} {ms m : MS} {P : D → MS → Prop} {PA : List D → MS → Prop} {c : DT} {tb : DTS} {de : DE} {aa : DA} {n : Nat} {z : Str} {i j k : Int}
def mStrI (d : D) (m : MS) (P : List D → MS → Prop) : Prop := match d with
  | .str z => P (strD z) m
  | _ => False
theorem w_istr (h : ExG de ds ms fun d m => mStrI d m PA) : iStrD de ds ms PA := h
theorem w_mStrI (h : PA (strD z) m) : mStrI (.str z) m PA := h
def mRng3 (xs : List D) (m : MS) (P : List D → MS → Prop) : Prop := match xs with
  | [.int i, .int j, .int c] => ∃ n, RgC i j c n ∧ P (rngC i c n) m
  | _ => False
theorem w_irng3 (h : ArG aa ds ms fun xs m => mRng3 xs m PA) : iRange3 aa ds ms PA := h
end
section
variable {m : MS} {P : Bool → Prop} {b : Bool} {xs : List D} {i : Int}
theorem w_truB (h : P b) : truD (.bl b) m P := h
theorem w_truL (h : P (!xs.isEmpty)) : truD (.lst xs) m P := h
theorem w_truI (h : P (i != 0)) : truD (.int i) m P := h
end
end DL
namespace DL
open PySem PySem.Spec PyProof.Rows L2
def sLst (n : Nat) (gs : DGs) : DG := fun d ds P => match d with
  | .lst xs => xs.length = n ∧ gs xs ds P
  | _ => False
section
variable {K : PySem.W.Frag}
theorem tg_lst {gs : TGs} {dgs : DGs} {vs : List Nat} {n : Nat} (hs : TgsD K gs dgs vs) : TgD K (gLst K n gs) (sLst n dgs) vs := by
  refine ⟨fun v σ F H Q d ds P sb S r hp q => ?_, fun v σ H Q h1 => ?_⟩
  · cases r with
    | lst h rs => exact ⟨_, _, rfl, SqL.of (sb _ _ h), by rw [rs.length]; exact hp.1, hs.snd _ _ F H _ _ _ _ sb S rs hp.2 q⟩
    | _ => exact hp.elim
  · obtain ⟨a, xs, e, h2, h3, h4⟩ := h1
    exact ⟨a, xs, e, h2, h3, hs.wip _ _ _ _ h4⟩
end
theorem w_slst {n : Nat} {gs : DGs} {xs : List D} {ds : DS} {PS : DS → Prop} (e : xs.length = n) (h : TgsG gs xs ds PS) : sLst n gs (.lst xs) ds PS := ⟨e, h⟩
end DL
namespace DL
open PySem PySem.W PySem.Calls PySem.PX
end DL
namespace DL
open PySem PySem.Spec PyProof.Rows L2
def getD (kvs : List (Str × Int)) (k : Str) : Option Int := (kvs.find? fun kv => decide (kv.1 = k)).map (·.2)
end DL
namespace DL
open PySem PySem.Spec PyProof.Rows L2
def mClear (x : D) (m : MS) (P : D → MS → Prop) : Prop := ∃ p xs, x = .opq (.ref p) ∧ look m p = some xs ∧ P .non (put m p [])
def dClear (dx : DE) : DE := fun ds ms P => dx ds ms fun x m => mClear x m P
section
variable {ds : DS} {ms m : MS} {P : D → MS → Prop} {de da db : DE} {di : DI} {g : DG} {tt : DT} {tk tv : DE} {vs : List Nat} {kvs : List (Str × Int)} {k : Str} {v : Int} {xs : List D} {a b : Int} {p : Addr} {d : D} {m' : MS}
theorem w_clear (h : ExG de ds ms fun x m => mClear x m P) : dClear de ds ms P := h
theorem w_mClear (e : look m p = some xs) (e2 : put m p [] = m') (h : P .non m') : mClear (.opq (.ref p)) m P := ⟨p, xs, rfl, e, by rw [e2]; exact h⟩
end
end DL
namespace DL
open PySem PySem.Spec PyProof.Rows L2
def dListR (da : DE) : DE := fun ds ms P => da ds ms fun d m => match d with
  | .int n => (0 ≤ n ∧ n ≤ 16777216) ∧ P (.lst (rng 0 n.toNat)) m
  | _ => False
theorem drs_rgV {K : PySem.W.Frag} {F : Hp} (n : Int) : DRs K F (rgV 0 n) (rng 0 n.toNat) := by
  unfold rgV rng
  rw [Int.sub_zero]
  have go : ∀ l : List Nat, DRs K F (l.map fun i => V.int (0 + (i : Nat))) (l.map fun i => D.int (0 + (i : Nat))) := fun l => by
    induction l with
    | nil => exact .nil
    | cons i r ih => exact .cons (.int _) ih
  exact go _
theorem pd_listR {X : Cx} {a : Expr} {da : DE} {p p2 pos pos2 : Pos} (hc : X.calm = true) (hl : Gl X "list") (ml : X.mg "list" = none) (hr : Gl X "range") (mr : X.mg "range" = none) (ha : PD X a da)
    (n1 : starEach [Expr.Call (.Name "range" p2) [a] [] pos2] X.env = (false, eval (Expr.Call (.Name "range" p2) [a] [] pos2) X.env) :: starEach [] X.env := by rfl) (n2 : starEach [a] X.env = (false, eval a X.env) :: starEach [] X.env := by rfl) :
    PD X (.Call (.Name "list" p) [.Call (.Name "range" p2) [a] [] pos2] [] pos) (dListR da) :=
  peImp (pe_listRg hc hl ml (prg_1 hr mr ha n2) n1) fun σ H Q ⟨F, ds, ms, P, R, S, h1, h2⟩ =>
    ⟨F, ds, ms, _, R, S, h1, fun d m v F1 H1 p1 R1 s1 r1 => by
      match d, r1, p1 with
      | .int n, .int _, p1 =>
        exact ⟨n, rfl, RgOk.of_le (Int.le_refl 0) p1.1.2 (by decide) p1.1.1, fun q hq => h2 _ m _ (upd F1 q (.lst (rgV 0 n))) _ p1.2 (R1.new hq) (s1.trans (Stp.new R1 hq)) (R1.newLst hq (drs_rgV n))⟩⟩
def mListR (d : D) (m : MS) (P : D → MS → Prop) : Prop := match d with
  | .int n => (0 ≤ n ∧ n ≤ 16777216) ∧ P (.lst (rng 0 n.toNat)) m
  | _ => False
theorem w_listR {da : DE} {ds : DS} {ms : MS} {P : D → MS → Prop} (h : ExG da ds ms fun x m => mListR x m P) : dListR da ds ms P := h
theorem w_mListR {n : Int} {m : MS} {P : D → MS → Prop} (e : 0 ≤ n ∧ n ≤ 16777216) (h : P (.lst (rng 0 n.toNat)) m) : mListR (.int n) m P := ⟨e, h⟩
mutual
inductive Der (ms : MS) : D → D → Prop
  | lst {xs ys : List D} : Ders ms xs ys → Der ms (.lst xs) (.lst ys)
  | tup {xs ys : List D} : Ders ms xs ys → Der ms (.tup xs) (.tup ys)
  | ref {p : Addr} {xs ys : List D} : look ms p = some xs → Ders ms xs ys → Der ms (.opq (.ref p)) (.lst ys)
  | same (d : D) : Der ms d d
inductive Ders (ms : MS) : List D → List D → Prop
  | nil : Ders ms [] []
  | cons {x y : D} {xs ys : List D} : Der ms x y → Ders ms xs ys → Ders ms (x :: xs) (y :: ys)
end
theorem Ders.same {ms : MS} : ∀ xs : List D, Ders ms xs xs
  | [] => .nil
  | x :: r => .cons (.same x) (Ders.same r)
def dPickZ (n : Nat) (is : List Nat) (fx1 fx2 : FX) (di : DE) (aa : DA) (Z : ZD) : DE := fun ds ms P => di ds ms fun d m =>
  (d = .int 0 ∧ aa ds m fun xs m1 => xs.length = n ∧ fx1 (pick is xs) m1 P fun c ns ys m' => Z c ns ys ds m') ∨
  (d = .int 1 ∧ aa ds m fun xs m1 => xs.length = n ∧ fx2 (pick is xs) m1 P fun c ns ys m' => Z c ns ys ds m')
def mPickZ (n : Nat) (is : List Nat) (fx1 fx2 : FX) (aa : DA) (Z : ZD) (ds : DS) (P : D → MS → Prop) (d : D) (m : MS) : Prop :=
  (d = .int 0 ∧ aa ds m fun xs m1 => xs.length = n ∧ fx1 (pick is xs) m1 P fun c ns ys m' => Z c ns ys ds m') ∨
  (d = .int 1 ∧ aa ds m fun xs m1 => xs.length = n ∧ fx2 (pick is xs) m1 P fun c ns ys m' => Z c ns ys ds m')
def mPickA (n : Nat) (is : List Nat) (fx : FX) (Z : ZD) (ds : DS) (P : D → MS → Prop) (xs : List D) (m : MS) : Prop := xs.length = n ∧ fx (pick is xs) m P fun c ns ys m' => Z c ns ys ds m'
theorem w_pickZ {n : Nat} {is : List Nat} {fx1 fx2 : FX} {di : DE} {aa : DA} {Z : ZD} {ds : DS} {ms : MS} {P : D → MS → Prop} (h : ExG di ds ms fun d m => mPickZ n is fx1 fx2 aa Z ds P d m) : dPickZ n is fx1 fx2 di aa Z ds ms P := h
theorem w_mPickZ0 {n : Nat} {is : List Nat} {fx1 fx2 : FX} {aa : DA} {Z : ZD} {ds : DS} {m : MS} {P : D → MS → Prop} (h : ArG aa ds m fun xs m1 => mPickA n is fx1 Z ds P xs m1) : mPickZ n is fx1 fx2 aa Z ds P (.int 0) m := .inl ⟨rfl, h⟩
theorem w_mPickZ1 {n : Nat} {is : List Nat} {fx1 fx2 : FX} {aa : DA} {Z : ZD} {ds : DS} {m : MS} {P : D → MS → Prop} (h : ArG aa ds m fun xs m1 => mPickA n is fx2 Z ds P xs m1) : mPickZ n is fx1 fx2 aa Z ds P (.int 1) m := .inr ⟨rfl, h⟩
theorem w_mPickA {n : Nat} {is : List Nat} {fx : FX} {Z : ZD} {ds : DS} {P : D → MS → Prop} {xs ys : List D} {m : MS} (e1 : xs.length = n) (e : pick is xs = ys) (h : fx ys m P fun c ns zs m' => Z c ns zs ds m') : mPickA n is fx Z ds P xs m := ⟨e1, by rw [e]; exact h⟩
end DL
namespace DL
open PySem PySem.Spec PyProof.Rows L2
structure FirstAt (is : List Int) (v : Int) (j : Nat) : Prop where
  at_ : is[j]? = some v
  no : ∀ k, k < j → is[k]? ≠ some v
def dIndex (dx : DE) (aa : DA) : DE := fun ds ms P => dx ds ms fun x m1 => match x with
  | .lst a => aa ds m1 fun ys m2 => (match ys with
    | [y] => ∃ (is : List Int) (v : Int) (j : Nat), a = is.map D.int ∧ y = .int v ∧ FirstAt is v j ∧ P (.int (j : Int)) m2
    | _ => False)
  | _ => False
def mIndex (aa : DA) (ds : DS) (x : D) (m : MS) (P : D → MS → Prop) : Prop := match x with
  | .lst a => aa ds m fun ys m2 => (match ys with
    | [y] => ∃ (is : List Int) (v : Int) (j : Nat), a = is.map D.int ∧ y = .int v ∧ FirstAt is v j ∧ P (.int (j : Int)) m2
    | _ => False)
  | _ => False
def mIndexA (a : List D) (ys : List D) (m : MS) (P : D → MS → Prop) : Prop := match ys with
  | [y] => ∃ (is : List Int) (v : Int) (j : Nat), a = is.map D.int ∧ y = .int v ∧ FirstAt is v j ∧ P (.int (j : Int)) m
  | _ => False
theorem w_index {dx : DE} {aa : DA} {ds : DS} {ms : MS} {P : D → MS → Prop} (h : ExG dx ds ms fun x m => mIndex aa ds x m P) : dIndex dx aa ds ms P := h
theorem w_mIndex {aa : DA} {ds : DS} {a : List D} {m : MS} {P : D → MS → Prop} (h : ArG aa ds m fun ys m2 => mIndexA a ys m2 P) : mIndex aa ds (.lst a) m P := h
end DL
namespace DL
open PySem PySem.Spec PyProof.Rows L2
end DL
namespace DL
open PySem PySem.Spec PyProof.Rows L2
def dSortSet (da : DE) : DE := fun ds ms P => da ds ms fun d m => match d with
  | .lst xs => ∃ is : List Int, xs = is.map D.int ∧ is.length ≤ 60 ∧ ∀ js : List Int, js.Pairwise (· < ·) → (∀ k, k ∈ js ↔ k ∈ is) → P (.lst (js.map D.int)) m
  | _ => False
def mSortSet (d : D) (m : MS) (P : D → MS → Prop) : Prop := match d with
  | .lst xs => ∃ is : List Int, xs = is.map D.int ∧ is.length ≤ 60 ∧ ∀ js : List Int, js.Pairwise (· < ·) → (∀ k, k ∈ js ↔ k ∈ is) → P (.lst (js.map D.int)) m
  | _ => False
theorem w_sortSet {da : DE} {ds : DS} {ms : MS} {P : D → MS → Prop} (h : ExG da ds ms fun d m => mSortSet d m P) : dSortSet da ds ms P := h
end DL
namespace DL
open PySem PySem.Spec PyProof.Rows L2
def mRevL (x : D) (m : MS) (P : D → MS → Prop) : Prop := match asL x m with
  | some xs => P (.lst xs.reverse) m
  | none => False
def dRevL (de : DE) : DE := fun ds ms P => de ds ms fun x m => mRevL x m P
theorem DRs.rev {K : PySem.W.Frag} {F : Hp} : ∀ {vs : List V} {us : List D}, DRs K F vs us → DRs K F vs.reverse us.reverse
  | _, _, .nil => .nil
  | _, _, .cons h t => by
    rw [List.reverse_cons, List.reverse_cons]
    exact t.rev.append (.cons h .nil)
theorem pd_revL {X : Cx} {e : Expr} {de : DE} {k : Nat} {p1 p2 p3 pos : Pos} (h : PD X e de) : PD X (.Subscript e (.Slice none none (some (.UnaryOp .USub (.Constant (.int 1) k p1) p2)) p3) pos) (dRevL de) :=
  peImp (pe_revL h) fun σ H Q ⟨F, ds, ms, P, R, S, h1, h2⟩ => ⟨F, ds, ms, _, R, S, h1, fun x m v F1 H1 p1 R1 s1 r1 => by
    unfold mRevL at p1
    cases e1 : asL x m with
    | none => rw [e1] at p1; exact p1.elim
    | some xs =>
      rw [e1] at p1
      obtain ⟨a, ws, rfl, z1, z2⟩ := R1.asL r1 e1
      exact ⟨a, ws, rfl, z1, fun p hp2 => h2 _ m _ _ _ p1 (R1.new hp2) (s1.trans (Stp.new R1 hp2)) (R1.newLst hp2 z2.rev)⟩⟩
section
variable {ds : DS} {ms m : MS} {P : D → MS → Prop} {de : DE} {xs : List D}
theorem w_revL (h : ExG de ds ms fun x m => mRevL x m P) : dRevL de ds ms P := h
theorem w_mRevL (h : P (.lst xs.reverse) m) : mRevL (.lst xs) m P := h
end
/-- what keeps no promise (the call of itself where it is not needed) -/
def noFS : FS := fun _ _ _ => False
theorem FnG.none {P : Program} {w : World} {K : PySem.W.Frag} {mg : Str → Option Value} {base : Heap} {k : Nat} {f : Addr} {fd : FuncData} {ps : List Str} : FnG P w K mg base k f fd ps (spD K noFS) :=
  ⟨fun _ _ _ _ ⟨_, _, _, _, _, _, h, _⟩ => h.elim, fun _ _ _ _ _ _ _ _ _ _ _ _ ⟨_, _, _, _, _, _, h, _⟩ => h.elim⟩
end DL
namespace DL
open PySem PySem.Spec PyProof.Rows L2
mutual
inductive Vw (L : MS) : D → D → Prop
  | same {d : D} : Vw L d d
  | tup {xs ys : List D} : VwS L xs ys → Vw L (.tup xs) (.tup ys)
  | lst {p : Addr} {xs ys : List D} : (p, xs) ∈ L → VwS L xs ys → Vw L (.opq (.ref p)) (.lst ys)
inductive VwS (L : MS) : List D → List D → Prop
  | nil : VwS L [] []
  | cons {x y : D} {xs ys : List D} : Vw L x y → VwS L xs ys → VwS L (x :: xs) (y :: ys)
end
theorem VwS.same {L : MS} : ∀ xs : List D, VwS L xs xs
  | [] => .nil
  | _ :: r => .cons .same (VwS.same r)
theorem VwS.app {L : MS} : ∀ {xs ys us vs : List D}, VwS L xs ys → VwS L us vs → VwS L (xs ++ us) (ys ++ vs)
  | [], [], _, _, .nil, h => h
  | _ :: _, _ :: _, _, _, .cons a r, h => .cons a (VwS.app r h)
open Classical in
/-- the lent lists too -/
noncomputable def lent (L : MS) (F H : Hp) : Hp := fun b => if ∃ q ∈ L, q.1 = b then H b else F b
section
variable {K : PySem.W.Frag} {F H : Hp} {L ms0 : MS}
theorem lent_in {b : Addr} (h : ∃ q ∈ L, q.1 = b) : lent L F H b = H b := if_pos h
theorem lent_out {b : Addr} (h : ¬ ∃ q ∈ L, q.1 = b) : lent L F H b = F b := if_neg h
theorem none_in (R : Rel K F H (L ++ ms0)) {b : Addr} (h : ∃ q ∈ L, q.1 = b) : F b = none := by
  obtain ⟨q, hq, rfl⟩ := h
  exact (R.mu q (List.mem_append_left _ hq)).1
theorem lent_sub (R : Rel K F H (L ++ ms0)) : Sub F (lent L F H) := fun b o e => by
  by_cases h : ∃ q ∈ L, q.1 = b
  · rw [none_in R h] at e; cases e
  · rw [lent_out h]; exact e
mutual
theorem DR.vw (R : Rel K F H (L ++ ms0)) : ∀ {d d' : D}, Vw L d d' → ∀ {v : V}, DR K F v d → DR K (lent L F H) v d'
  | _, _, .same, _, r => r.mono (lent_sub R)
  | _, _, .tup hs, _, r => by
    cases r with
    | tup hq rs => exact .tup ((lent_sub R).sqT hq) (DRs.vw R hs rs)
  | _, _, .lst (p := p) hm hs, _, r => by
    cases r
    obtain ⟨_, vs, h2, h3⟩ := R.mu _ (List.mem_append_left _ hm)
    exact .lst (by rw [lent_in ⟨_, hm, rfl⟩]; exact h2) (DRs.vw R hs h3)
theorem DRs.vw (R : Rel K F H (L ++ ms0)) : ∀ {ds ds' : List D}, VwS L ds ds' → ∀ {vs : List V}, DRs K F vs ds → DRs K (lent L F H) vs ds'
  | _, _, .nil, _, r => by cases r; exact .nil
  | _, _, .cons h hs, _, r => by
    cases r with
    | cons r1 r2 => exact .cons (DR.vw R h r1) (DRs.vw R hs r2)
end
theorem out_of (R : Rel K F H (L ++ ms0)) {q : Addr × List D} (hq : q ∈ ms0) : ¬ ∃ r ∈ L, r.1 = q.1 := by
  rintro ⟨r, hr, e⟩
  have nd := R.nd
  rw [List.map_append] at nd
  exact (List.nodup_append.mp nd).2.2 _ (List.mem_map_of_mem hr) _ (List.mem_map_of_mem hq) e
theorem relLent (R : Rel K F H (L ++ ms0)) : Rel K (lent L F H) H ms0 ∧ Stp F H (L ++ ms0) (lent L F H) H ms0 := by
  refine ⟨⟨fun b o e => ?_, fun q hq => ?_, ?_, R.one.mono (lent_sub R)⟩, ⟨lent_sub R, fun _ _ h _ _ => h, fun a o e => ?_, fun q hq => .inl ⟨q, List.mem_append_right _ hq, rfl⟩⟩⟩
  · by_cases h : ∃ q ∈ L, q.1 = b
    · rw [lent_in h] at e; exact e
    · rw [lent_out h] at e; exact R.sub b o e
  · obtain ⟨h1, vs, h2, h3⟩ := R.mu q (List.mem_append_right _ hq)
    exact ⟨by rw [lent_out (out_of R hq)]; exact h1, vs, h2, h3.mono (lent_sub R)⟩
  · have nd := R.nd
    rw [List.map_append] at nd
    exact (List.nodup_append.mp nd).2.1
  · by_cases h : ∃ q ∈ L, q.1 = a
    · obtain ⟨q, hq, e2⟩ := h
      exact .inr (.inr ⟨q, List.mem_append_left _ hq, e2⟩)
    · rw [lent_out h] at e; exact .inl e
end
/-- ahead of a statement a slot's lists are made fast -/
def dViewS (i : Nat) (t : DTS) : DTS := fun E ds ms => ∃ (L ms0 : MS) (d d' : D), ms = L ++ ms0 ∧ slot ds i = some d ∧ Vw L d d' ∧ t E (setSlot ds i d') ms0
theorem liftS_view {K : PySem.W.Frag} {t : DTS} {i : Nat} : ∀ D σ H, liftS K (dViewS i t) D σ H → liftS K t D σ H := fun D σ H ⟨F, ds, ms, E, R, S, h, n, r, k, q⟩ => by
  obtain ⟨L, ms0, d, d', rfl, e, vw, h⟩ := h
  obtain ⟨v, hv, hr⟩ := S.get e
  obtain ⟨z1, z2⟩ := relLent R
  exact ⟨_, _, _, E, z1, setSlot_σ (S.mono z2.sub) hv (hr.vw R vw), h, fun ds' m' σ' F' H' h' R' s' S' => n ds' m' σ' F' H' h' R' (z2.trans s') S', fun d m' v' F' H' h' R' s' r' => r d m' v' F' H' h' R' (z2.trans s') r',
    fun ds' m' σ' F' H' h' R' s' S' => k ds' m' σ' F' H' h' R' (z2.trans s') S', fun ds' m' σ' F' H' h' R' s' S' => q ds' m' σ' F' H' h' R' (z2.trans s') S'⟩
theorem pds_view {X : Cx} {st : Stmt} {t : DTS} {i : Nat} (h : PDS X st t) : PDS X st (dViewS i t) := psImp h liftS_view
theorem w_viewS {t : DTS} {E : EN} {ds ds' : DS} {ms : MS} {i : Nat} (L ms0 : MS) {d d' : D} (e : ms = L ++ ms0) (e1 : slot ds i = some d) (vw : Vw L d d') (e2 : setSlot ds i d' = ds') (h : StG t E ds' ms0) : dViewS i t E ds ms :=
  ⟨L, ms0, d, d', e, e1, vw, by rw [e2]; exact h⟩
end DL
namespace DL
open PySem PySem.Spec PyProof.Rows L2
end DL
namespace DL
open PySem PySem.Spec PyProof.Rows L2
end DL
namespace DL
open PySem PySem.Spec PyProof.Rows L2
end DL
namespace DL
open PySem PySem.Spec PyProof.Rows L2
end DL
namespace DL
open PySem PySem.Spec PyProof.Rows L2
end DL
namespace Pf
open PySem PySem.Spec PyProof.Rows L2 DL
local macro_rules | `(tactic| walk_at "dl") => `(tactic| simp only [dSeq, dWhile, dTest, dOp, dVar, dC, dPar, dRet, dRetN, dCB, dAsg, dIfS, dNext, dTup, dLst, dLstM, dCall, dNeg, dSetIx, dDrop, dAnd, dOr, dNot, dAndV, dOrV, dNotV, dIf, dFor, dLc, dSl, dIsi, dYes, dTru, truD, dAppend, dFrz,
  aNil, aCons, oNone, oSome, sName, sTup, sCons, sNil, iRange1, iRange2, iSeq, iTupD, iZipD, iEnumD, slot, setSlot, startD, List.length_nil, List.length_cons, Nat.reduceAdd, List.append_nil, List.cons_append, List.nil_append, pick, List.filterMap_cons, List.filterMap_nil, List.getElem?_cons_zero, List.getElem?_cons_succ,
  fI, fAdd, fSub, fMul, fDiv, fMod, fPow, fLt, fLe, fGt, fGe, fEq, fNe, cAbs, cMax2, cMin2, cInt1, cLen, cRepr, true_and, and_true, decide_eq_true_eq, if_true, dDoX, dRaise, dRaiseI, dExprZ, dRetZ, dAsgZ, dCallZ, dTry0, dTry, dIsE, dFld, dEdic, EN.lp, EN.wn, EN.wx])
theorem t9 : (10 : Int) ^ Int.toNat 9 = 1000000000 := by decide +kernel
theorem t6 : (10 : Int) ^ Int.toNat 6 = 1000000 := by decide +kernel
theorem t18 : (10 : Int) ^ Int.toNat 18 = 1000000000000000000 := by decide +kernel
theorem t30 : (10 : Int) ^ Int.toNat 30 = 1000000000000000000000000000000 := by decide +kernel
theorem t39 : (10 : Int) ^ Int.toNat 39 = 1000000000000000000000000000000000000000 := by decide +kernel
theorem t56 : (10 : Int) ^ Int.toNat 56 = 100000000000000000000000000000000000000000000000000000000 := by decide +kernel
theorem t60 : (10 : Int) ^ Int.toNat 60 = 1000000000000000000000000000000000000000000000000000000000000 := by decide +kernel
theorem t40 : (10 : Int) ^ Int.toNat 40 = 10000000000000000000000000000000000000000 := by decide +kernel
theorem t50 : (10 : Int) ^ Int.toNat 50 = 100000000000000000000000000000000000000000000000000 := by decide +kernel
theorem t59 : (10 : Int) ^ Int.toNat 59 = 100000000000000000000000000000000000000000000000000000000000 := by decide +kernel
theorem t58 : (10 : Int) ^ Int.toNat 58 = 10000000000000000000000000000000000000000000000000000000000 := by decide +kernel
theorem gcd_fmod (a b : Int) : Int.gcd b (a.fmod b) = Int.gcd a b := by
  have h : a.fmod b = a - b * a.fdiv b := by
    have := Int.mul_fdiv_add_fmod a b
    omega
  rw [h, Int.gcd_comm a b, Int.sub_eq_add_neg, ← Int.mul_neg, Int.gcd_add_mul_left_right]
theorem fmod_less {a b : Int} (h : b ≠ 0) : (a.fmod b).natAbs < b.natAbs := by
  have h1 := Int.emod_nonneg a h
  have h2 := Int.emod_lt a h
  rw [Int.fmod_eq_emod]
  split
  · rename_i hc
    omega
  · rename_i hc
    have hb : ¬ b ∣ a := fun z => hc (.inr z)
    have hb2 : ¬ 0 ≤ b := fun z => hc (.inl z)
    have h3 : a % b ≠ 0 := fun z => hb (Int.dvd_of_emod_eq_zero z)
    omega
/-- a fraction in lowest terms -/
def sgcd (a b : Int) : Int := if b < 0 then -(Int.gcd a b : Int) else Int.gcd a b
def lowT (a b : Int) : Int × Int := (a.fdiv (sgcd a b), b.fdiv (sgcd a b))
def fr (p : Int × Int) : D := .tup [.int p.1, .int p.2]
def addT (p q : Int × Int) : Int × Int := lowT (p.1 * q.2 + q.1 * p.2) (p.2 * q.2)
def mulT (p q : Int × Int) : Int × Int := lowT (p.1 * q.1) (p.2 * q.2)
def Bd (n : Nat) (x : Int) : Prop := x.natAbs < 2 ^ n
theorem Bd.mono {n m : Nat} {x : Int} (h : Bd n x) (hm : n ≤ m) : Bd m x := Nat.lt_of_lt_of_le h (Nat.pow_le_pow_right (by decide) hm)
theorem Bd.mul {n m : Nat} {x y : Int} (h : Bd n x) (h2 : Bd m y) : Bd (n + m) (x * y) := by
  unfold Bd at *
  rw [Int.natAbs_mul, Nat.pow_add]
  exact Nat.mul_lt_mul'' h h2
theorem Bd.add {n : Nat} {x y : Int} (h : Bd n x) (h2 : Bd n y) : Bd (n + 1) (x + y) := by
  unfold Bd at *
  have := Int.natAbs_add_le x y
  rw [Nat.pow_succ]
  omega
theorem Bd.neg {n : Nat} {x : Int} (h : Bd n x) : Bd n (-x) := by
  unfold Bd at *; rw [Int.natAbs_neg]; exact h
theorem Bd.neg0 {n : Nat} {x : Int} (h : Bd n x) : Bd n (0 - x) := by rw [Int.zero_sub]; exact h.neg
theorem Bd.log {n : Nat} {x : Int} (h : Bd n x) (h0 : 0 < n) : x.natAbs.log2 < n := PySem.Flt.log2_lt_of h0 h
theorem Bd.mulOk {n m : Nat} {x y : Int} (h : Bd n x) (h2 : Bd m y) (h0 : 0 < n) (h1 : 0 < m) (hs : n + m ≤ 1000000) : CMulD x y := .inl (wide_mul h h2 h0 h1 hs)
theorem sgcd_ne {a b : Int} (h : b ≠ 0) : sgcd a b ≠ 0 := by
  have : Int.gcd a b ≠ 0 := fun z => h (Int.gcd_eq_zero_iff.mp z).2
  unfold sgcd
  split <;> omega
theorem sgcd_le {a b : Int} (h : b ≠ 0) : (sgcd a b).natAbs ≤ b.natAbs := by
  have h1 : Int.gcd a b ∣ b.natAbs := Int.gcd_dvd_natAbs_right a b
  have h2 := Nat.le_of_dvd (by omega) h1
  unfold sgcd
  split <;> omega
theorem sgcd_ok {n : Nat} {a b : Int} (h : b ≠ 0) (hb : Bd n b) (hn : 0 < n) (hn2 : n ≤ 9000) (x : Int) : CDivA x (sgcd a b) :=
  ⟨sgcd_ne h, Nat.lt_of_lt_of_le (Bd.log (n := n) (Nat.lt_of_le_of_lt (sgcd_le h) hb) hn) hn2⟩
mutual
def wt : PyData → Nat
  | .none => 10
  | .bool _ => 10
  | .int _ => 2000
  | .str x => 10 * x.length + 10
  | .list xs => wts xs + 10
  | .tuple xs => wts xs + 10
  | .dict _ => 10
def wts : List PyData → Nat
  | [] => 0
  | x :: r => wt x + 2 + wts r
end
mutual
def lay1 : PyData → Bool
  | .none => true
  | .bool _ => true
  | .int _ => true
  | .str x => x.cps.all (· < 0x110000)
  | .list xs => lay1s xs
  | .tuple xs => lay1s xs
  | .dict kvs => kvs.isEmpty
def lay1s : List PyData → Bool
  | [] => true
  | x :: r => lay1 x && lay1s r
end
mutual
theorem lay1_of : ∀ p : PyData, p.canLay0 = true → lay1 p = true
  | .none, _ => rfl
  | .bool _, _ => rfl
  | .int _, _ => rfl
  | .str x, h => h
  | .list xs, h => lay1s_of xs h
  | .tuple xs, h => lay1s_of xs h
  | .dict _, h => by cases h
theorem lay1s_of : ∀ xs : List PyData, PyData.canLayAll0 xs = true → lay1s xs = true
  | [], _ => rfl
  | x :: r, h => by
    obtain ⟨a1, a2⟩ := Bool.and_eq_true_iff.mp h
    show (lay1 x && lay1s r) = true
    rw [lay1_of x a1, lay1s_of r a2]; rfl
end
theorem listText_le (ts : List Str) : (listText ts).length ≤ piled ts + 4 := by
  have e : (listText ts).length = (textFrom 0 "[" ts).length + 1 := by
    show (textFrom 0 "[" ts ++ "]").length = _
    rw [strLen_append]; rfl
  cases ts with
  | nil => rw [e]; decide +kernel
  | cons t r =>
    have h1 : textFrom 0 "[" (t :: r) = textFrom 1 ("[" ++ (if 0 > 0 then ", " else "" : String) ++ t) r := rfl
    have h2 := textFrom_length_pos r 1 ("[" ++ (if 0 > 0 then ", " else "" : String) ++ t) (by decide)
    have h3 : (("[" : Str) ++ ((if 0 > 0 then ", " else "" : String) : Str) ++ t).length = 1 + t.length := by
      rw [strLen_append, strLen_append]
      show 1 + 0 + t.length = _
      omega
    rw [e, h1, h2, h3, piled_cons]
    omega
mutual
theorem shown_le : ∀ p : PyData, lay1 p = true → p.showable = true → p.shown.length ≤ wt p
  | .none, _, _ => by decide +kernel
  | .bool b, _, _ => by cases b <;> decide +kernel
  | .int i, _, h => by
    have := int_text_len_1921 (i := i) (of_decide_eq_true h)
    show (Str.ofString (toString i)).length ≤ 2000
    omega
  | .str x, h, _ => by
    have h' : x.cps.all (· < 0x110000) = true := h
    have := StrLaws.reprText_len x fun c hc => by
      rw [Array.all_eq_true'] at h'
      have z := of_decide_eq_true (h' c (Array.mem_toList_iff.mp hc))
      exact Nat.lt_trans z (by decide)
    show (reprText x).length ≤ 10 * x.length + 10
    omega
  | .list xs, h, h2 => by
    have := shownAll_le xs h h2
    have h3 := listText_le (PyData.shownAll xs)
    show (listText (PyData.shownAll xs)).length ≤ wts xs + 10
    omega
  | .tuple xs, h, h2 => by
    have := shownAll_le xs h h2
    have h3 := fmt_text (PyData.shownAll xs)
    show (tupleText (PyData.shownAll xs)).length ≤ wts xs + 10
    omega
  | .dict kvs, h, _ => by
    cases kvs with
    | nil => exact (by decide +kernel : (PyData.dict []).shown.length ≤ 10)
    | cons _ _ => cases h
theorem shownAll_le : ∀ xs : List PyData, lay1s xs = true → PyData.showableAll xs = true → piled (PyData.shownAll xs) ≤ wts xs
  | [], _, _ => Nat.le_refl 0
  | x :: r, h, h2 => by
    obtain ⟨a1, a2⟩ := Bool.and_eq_true_iff.mp h
    obtain ⟨b1, b2⟩ := Bool.and_eq_true_iff.mp h2
    have z1 := shown_le x a1 b1
    have z2 := shownAll_le r a2 b2
    show piled (PyData.shown x :: PyData.shownAll r) ≤ wt x + 2 + wts r
    rw [piled_cons]
    omega
end
structure Sm (d : D) (n k : Nat) : Prop where
  ex : ∃ p, toPy d = some p ∧ p.canLay0 = true ∧ p.showable = true ∧ wt p ≤ n ∧ p.depth ≤ k
theorem Sm.mono {d : D} {n k n' k' : Nat} (h : Sm d n k) (h1 : n ≤ n') (h2 : k ≤ k') : Sm d n' k' := by
  obtain ⟨p, a, b, c, e, f⟩ := h.ex
  exact ⟨p, a, b, c, Nat.le_trans e h1, Nat.le_trans f h2⟩
theorem Sm.shw {d : D} {n k : Nat} (h : Sm d n k) (hn : n ≤ 16000000 := by decide) (hk : k ≤ 60 := by decide) : Shw d := by
  obtain ⟨p, a, b, c, e, f⟩ := h.ex
  exact ⟨p, a, c, by omega, Nat.le_trans (shown_le p (lay1_of p b) c) (Nat.le_trans e (Nat.le_trans hn (by decide)))⟩
theorem Sm.sh {d : D} {n k : Nat} (h : Sm d n k) (hk : k ≤ 60 := by decide) : ShD d := by
  obtain ⟨p, a, b, c, e, f⟩ := h.ex
  refine ⟨p, a, ?_⟩
  unfold SeqAt.shaped
  rw [b, decide_eq_true (by omega : p.depth ≤ 64)]
  rfl
theorem sm_int {n : Nat} {i : Int} (h : Bd n i) (hn : n ≤ 1900 := by decide) : Sm (.int i) 2000 0 := by
  refine ⟨_, rfl, rfl, ?_, Nat.le_refl _, Nat.le_refl _⟩
  refine decide_eq_true (Nat.lt_of_lt_of_le (Bd.log (n := n + 1) (h.mono (Nat.le_succ n)) (Nat.succ_pos n)) (by omega))
theorem sm_bl (b : Bool) : Sm (.bl b) 10 0 := ⟨_, rfl, rfl, rfl, Nat.le_refl _, Nat.le_refl _⟩
theorem sm_non : Sm .non 10 0 := ⟨_, rfl, rfl, rfl, Nat.le_refl _, Nat.le_refl _⟩
theorem sm_str (x : Str) (h : x.cps.all (· < 0x110000) = true) : Sm (.str x) (10 * x.length + 10) 0 := ⟨_, rfl, h, rfl, Nat.le_refl _, Nat.le_refl _⟩
theorem forall2 {p : D → Prop} {x y : D} (h1 : p x) (h2 : p y) : ∀ z ∈ [x, y], p z := fun z hz => by
  rcases List.mem_cons.mp hz with rfl | hz
  · exact h1
  · rw [List.mem_singleton.mp hz]; exact h2
/-- the same, empty dicts too: for repr alone -/
structure Sd (d : D) (n k : Nat) : Prop where
  ex : ∃ p, toPy d = some p ∧ lay1 p = true ∧ p.showable = true ∧ wt p ≤ n ∧ p.depth ≤ k
theorem Sm.sd {d : D} {n k : Nat} (h : Sm d n k) : Sd d n k := by
  obtain ⟨p, a, b, c, e, f⟩ := h.ex
  exact ⟨p, a, lay1_of p b, c, e, f⟩
theorem Sd.mono {d : D} {n k n' k' : Nat} (h : Sd d n k) (h1 : n ≤ n') (h2 : k ≤ k') : Sd d n' k' := by
  obtain ⟨p, a, b, c, e, f⟩ := h.ex
  exact ⟨p, a, b, c, Nat.le_trans e h1, Nat.le_trans f h2⟩
theorem Sd.shw {d : D} {n k : Nat} (h : Sd d n k) (hn : n ≤ 16000000 := by decide) (hk : k ≤ 60 := by decide) : Shw d := by
  obtain ⟨p, a, b, c, e, f⟩ := h.ex
  exact ⟨p, a, c, by omega, Nat.le_trans (shown_le p b c) (Nat.le_trans e (Nat.le_trans hn (by decide)))⟩
theorem sd_edic : Sd .edic 10 1 := ⟨_, rfl, rfl, rfl, Nat.le_refl _, by decide⟩
theorem sd_all {n k : Nat} : ∀ xs : List D, (∀ x ∈ xs, Sd x n k) → ∃ ps, toPys xs = some ps ∧ lay1s ps = true ∧ PyData.showableAll ps = true ∧ wts ps ≤ (n + 2) * xs.length ∧ PyData.depthAll ps ≤ k
  | [], _ => ⟨[], rfl, rfl, rfl, Nat.zero_le _, Nat.zero_le _⟩
  | x :: r, h => by
    obtain ⟨p, a, b, c, e, f⟩ := (h x List.mem_cons_self).ex
    obtain ⟨ps, a2, b2, c2, e2, f2⟩ := sd_all r fun y hy => h y (List.mem_cons_of_mem _ hy)
    refine ⟨p :: ps, by unfold toPys; rw [a, a2], Bool.and_eq_true_iff.mpr ⟨b, b2⟩, Bool.and_eq_true_iff.mpr ⟨c, c2⟩, ?_, Nat.max_le.mpr ⟨f, f2⟩⟩
    show wt p + 2 + wts ps ≤ (n + 2) * (r.length + 1)
    rw [Nat.mul_succ]
    omega
theorem sd_lst {n k : Nat} {xs : List D} (h : ∀ x ∈ xs, Sd x n k) : Sd (.lst xs) ((n + 2) * xs.length + 10) (k + 1) := by
  obtain ⟨ps, a, b, c, e, f⟩ := sd_all xs h
  refine ⟨.list ps, by unfold toPy; rw [a]; rfl, b, c, ?_, Nat.succ_le_succ f⟩
  show wts ps + 10 ≤ _
  omega
mutual
def plain : D → Bool
  | .non => true
  | .bl _ => true
  | .int _ => true
  | .str _ => true
  | .lst xs => plains xs
  | .tup xs => plains xs
  | .fro _ => false
  | .edic => true
  | .dct _ => false
  | .opq _ => false
  | .exc _ _ _ => false
def plains : List D → Bool
  | [] => true
  | x :: r => plain x && plains r
end
theorem plains_iff : ∀ {xs : List D}, plains xs = true ↔ ∀ x ∈ xs, plain x = true
  | [] => ⟨fun _ _ h => (by cases h), fun _ => rfl⟩
  | x :: r => by
    show (plain x && plains r) = true ↔ _
    rw [Bool.and_eq_true_iff, plains_iff (xs := r)]
    exact ⟨fun h y hy => (List.mem_cons.mp hy).elim (fun e => e ▸ h.1) (h.2 y), fun h => ⟨h x List.mem_cons_self, fun y hy => h y (List.mem_cons_of_mem _ hy)⟩⟩
/-- plain data that repr shows -/
structure Gd (d : D) (n k : Nat) : Prop where
  pl : plain d = true
  sd : Sd d n k
theorem Gd.mono {d : D} {n k n' k' : Nat} (h : Gd d n k) (h1 : n ≤ n') (h2 : k ≤ k') : Gd d n' k' := ⟨h.pl, h.sd.mono h1 h2⟩
theorem gd_int {n : Nat} {i : Int} (h : Bd n i) (hn : n ≤ 1900 := by decide) : Gd (.int i) 2000 0 := ⟨rfl, (sm_int h hn).sd⟩
theorem gd_lst {n k : Nat} {xs : List D} (h : ∀ x ∈ xs, Gd x n k) : Gd (.lst xs) ((n + 2) * xs.length + 10) (k + 1) := ⟨plains_iff.mpr fun x hx => (h x hx).pl, sd_lst fun x hx => (h x hx).sd⟩
theorem all_nil {p : D → Prop} : ∀ x ∈ ([] : List D), p x := fun _ h => by cases h
theorem all_cons {p : D → Prop} {x : D} {r : List D} (h : p x) (t : ∀ y ∈ r, p y) : ∀ y ∈ x :: r, p y := fun y hy => by
  rcases List.mem_cons.mp hy with rfl | hy
  · exact h
  · exact t y hy
theorem ofString_ok (s : String) : (Str.ofString s).cps.all (· < 0x110000) = true := by
  rw [Array.all_eq_true']
  intro c hc
  rw [← Array.mem_toList_iff, PyProof.Rows.signs_ofString, List.mem_map] at hc
  obtain ⟨ch, _, rfl⟩ := hc
  have := ch.valid
  rcases this with h | ⟨_, h⟩
  · exact decide_eq_true (Nat.lt_trans h (by decide))
  · exact decide_eq_true h
theorem gd_str (x : Str) (h : x.cps.all (· < 0x110000) = true) : Gd (.str x) (10 * x.length + 10) 0 := ⟨rfl, (sm_str x h).sd⟩
theorem gd_lit (s : String) : Gd (.str s) (10 * (Str.ofString s).length + 10) 0 := gd_str _ (ofString_ok s)
theorem atI_0 {α : Type} (x : α) (r : List α) : atI (x :: r) 0 = some x := atI_nat (j := 0) rfl
theorem atI_1 {α : Type} (x y : α) (r : List α) : atI (x :: y :: r) 1 = some y := atI_nat (j := 1) rfl
theorem atI_mem {α : Type} {xs : List α} {i : Int} (h0 : 0 ≤ i) (h1 : i < (xs.length : Int)) : ∃ w, atI xs i = some w ∧ w ∈ xs := by
  obtain ⟨j, rfl⟩ : ∃ j : Nat, i = (j : Int) := ⟨i.toNat, by omega⟩
  have hj : j < xs.length := by omega
  exact ⟨xs[j], atI_nat (List.getElem?_eq_getElem hj), List.getElem_mem hj⟩
theorem w_ixm {xs : List D} {i : Int} {ms : MS} {P : D → MS → Prop} (h0 : 0 ≤ i) (h1 : i < (xs.length : Int)) (h : ∀ d ∈ xs, P d ms) : fIx (.lst xs) (.int i) ms P := by
  obtain ⟨d, e, hd⟩ := atI_mem h0 h1
  exact w_ix_l e (h d hd)
theorem rng_mem {lo : Int} {n : Nat} {x : D} (h : x ∈ rng lo n) : ∃ i : Nat, i < n ∧ x = .int (lo + i) := by
  unfold rng at h
  obtain ⟨i, hi, rfl⟩ := List.mem_map.mp h
  exact ⟨i, List.mem_range.mp hi, rfl⟩
theorem rng_len {lo : Int} {n : Nat} : (rng lo n).length = n := by unfold rng; rw [List.length_map, List.length_range]
theorem ints_of {n : Nat} : ∀ ys : List D, (∀ y ∈ ys, ∃ i : Int, y = .int i ∧ Bd n i) → ∃ is : List Int, ys = is.map D.int ∧ (∀ i ∈ is, Bd n i) ∧ is.length = ys.length
  | [], _ => ⟨[], rfl, (fun _ h => by cases h), rfl⟩
  | y :: r, h => by
    obtain ⟨t, rfl, ht⟩ := h y List.mem_cons_self
    obtain ⟨ts, e, h2, h3⟩ := ints_of r fun z hz => h z (List.mem_cons_of_mem _ hz)
    refine ⟨t :: ts, by rw [e]; rfl, fun x hx => ?_, by rw [List.length_cons, List.length_cons, h3]⟩
    rcases List.mem_cons.mp hx with rfl | hx
    · exact ht
    · exact h2 x hx
theorem comp_pure {g : DG} {te : DE} {ds : DS} {ms : MS} (f : D → D) : ∀ (xs acc : List D) (P : List D → MS → Prop), acc.length + xs.length ≤ 1000000 → (∀ x ∈ xs, ∀ P0 : D → MS → Prop, P0 (f x) ms → g x ds fun ds2 => te ds2 ms P0) →
    P (acc ++ xs.map f) ms → compD g dYes te ds xs acc ms P
  | [], acc, P, _, _, h => by rw [List.map_nil, List.append_nil] at h; exact h
  | x :: r, acc, P, hl, t, h => by
    rw [List.length_cons] at hl
    unfold compD
    simp only [dYes, if_true]
    refine t x List.mem_cons_self _ ⟨Nat.lt_of_lt_of_le (by omega : acc.length < 1000001) (by decide), comp_pure f r _ P (by rw [List.length_append, List.length_singleton]; omega) (fun y hy => t y (List.mem_cons_of_mem _ hy)) ?_⟩
    rw [List.append_assoc]
    exact h
theorem comp_filt {g : DG} {tt : DT} {te : DE} {ds : DS} {ms : MS} (p : D → Bool) (f : D → D) : ∀ (xs acc : List D) (P : List D → MS → Prop), acc.length + xs.length ≤ 1000000 →
    (∀ x ∈ xs, ∀ (K : D → MS → Prop) (L : MS → Prop), (p x = true → K (f x) ms) → (p x = false → L ms) → g x ds fun ds2 => tt ds2 ms fun b m3 => if b = true then te ds2 m3 K else L m3) →
    P (acc ++ (xs.filter p).map f) ms → compD g tt te ds xs acc ms P
  | [], acc, P, _, _, h => by rw [List.filter_nil, List.map_nil, List.append_nil] at h; exact h
  | x :: r, acc, P, hl, t, h => by
    rw [List.length_cons] at hl
    unfold compD
    refine t x List.mem_cons_self (fun y m4 => acc.length < sizeLine ∧ compD g tt te ds r (acc ++ [y]) m4 P) (fun m3 => compD g tt te ds r acc m3 P) (fun e => ?_) fun e => ?_
    · refine ⟨Nat.lt_of_lt_of_le (by omega : acc.length < 1000001) (by decide), comp_filt p f r _ P (by rw [List.length_append, List.length_singleton]; omega) (fun y hy => t y (List.mem_cons_of_mem _ hy)) ?_⟩
      rw [List.filter_cons, if_pos e, List.map_cons] at h
      rw [List.append_assoc]
      exact h
    · refine comp_filt p f r _ P (by omega) (fun y hy => t y (List.mem_cons_of_mem _ hy)) ?_
      rw [List.filter_cons, if_neg (by rw [e]; decide)] at h
      exact h
theorem comp_e {α : Type} {g : DG} {te : DE} {ds : DS} {ms : MS} (e : α → D) (f : α → D) : ∀ (xs : List α) (acc : List D) (P : List D → MS → Prop), acc.length + xs.length ≤ 1000000 →
    (∀ x ∈ xs, ∀ P0 : D → MS → Prop, P0 (f x) ms → g (e x) ds fun ds2 => te ds2 ms P0) → P (acc ++ xs.map f) ms → compD g dYes te ds (xs.map e) acc ms P
  | [], acc, P, _, _, h => by rw [List.map_nil, List.append_nil] at h; exact h
  | x :: r, acc, P, hl, t, h => by
    rw [List.length_cons] at hl
    rw [List.map_cons]
    unfold compD
    simp only [dYes, if_true]
    refine t x List.mem_cons_self _ ⟨Nat.lt_of_lt_of_le (by omega : acc.length < 1000001) (by decide), comp_e e f r _ P (by rw [List.length_append, List.length_singleton]; omega) (fun y hy => t y (List.mem_cons_of_mem _ hy)) ?_⟩
    rw [List.append_assoc]
    exact h
theorem bls_map {α : Type} (f : α → Bool) : ∀ xs : List α, blsOf (xs.map fun x => D.bl (f x)) = some (xs.map f)
  | [] => rfl
  | x :: r => by rw [List.map_cons, List.map_cons]; unfold blsOf; rw [bls_map f r]; rfl
local macro_rules | `(tactic| walk_at "d2") => `(tactic| simp only [dSeq, dWhile, dTest, dOp, dVar, dC, dPar, dRet, dRetN, dCB, dAsg, dIfS, dNext, dTup, dLst, dLstM, dCall, dNeg, dSetIx, dDrop, dAnd, dOr, dNot, dAndV, dOrV, dNotV, dIf, dFor, dLc, dSl, dIsi, dYes, dTru, truD, dAppend, dFrz,
  aNil, aCons, oNone, oSome, sName, sTup, sCons, sNil, iRange1, iRange2, iSeq, iTupD, iZipD, iEnumD, slot, setSlot, startD, List.length_nil, List.length_cons, Nat.reduceAdd, List.append_nil, List.cons_append, List.nil_append, pick, List.filterMap_cons, List.filterMap_nil, List.getElem?_cons_zero, List.getElem?_cons_succ,
  fI, fAdd, fSub, fMul, fDiv, fMod, fPow, fLt, fLe, fGt, fGe, fEq, fNe, cAbs, cMax2, cMin2, cInt1, cLen, cRepr, true_and, and_true, decide_eq_true_eq, if_true, dDoX, dRaise, dRaiseI, dExprZ, dRetZ, dAsgZ, dCallZ, dTry0, dTry, dIsE, dFld, dEdic, EN.lp, EN.wn, EN.wx, cTuple, cList, cStr, cAll, cAny, cSum, fSl, asL, fIx, atI_0, atI_1, fIn, fNotIn, fInB, wipeD, List.set, dChain])
local macro_rules | `(tactic| walk_at "s1") => `(tactic| (fail))
local macro_rules | `(tactic| walk_at "s1.ExG") => `(tactic| (fail))
local macro_rules | `(tactic| walk_at "s1.ArG") => `(tactic| (fail))
local macro_rules | `(tactic| walk_at "s1.OpG") => `(tactic| (fail))
local macro_rules | `(tactic| walk_at "s1.TgG") => `(tactic| (fail))
local macro_rules | `(tactic| walk_at "s1.StG") => `(tactic| (fail))
local macro_rules | `(tactic| walk_at "s1.TsG") => `(tactic| (fail))
local macro_rules | `(tactic| walk_at "s1.CbG") => `(tactic| (fail))
local macro_rules | `(tactic| walk_at "s1.ItG") => `(tactic| (fail))
local macro_rules | `(tactic| walk_at "s1.OgG") => `(tactic| (fail))
local macro_rules | `(tactic| walk_at "s1.TgsG") => `(tactic| (fail))
local macro_rules | `(tactic| walk_at "s1.SlG") => `(tactic| (fail))
local macro_rules | `(tactic| walk_at "s1") => `(tactic| (with_reducible refine r_neg ?_))
local macro_rules | `(tactic| walk_at "s1") => `(tactic| (with_reducible refine r_chain ?_))
local macro_rules | `(tactic| walk_at "s1") => `(tactic| (with_reducible refine r_isi ?_))
local macro_rules | `(tactic| walk_at "s1") => `(tactic| (with_reducible refine r_sl ?_))
local macro_rules | `(tactic| walk_at "s1") => `(tactic| (with_reducible refine r_lc ?_))
local macro_rules | `(tactic| walk_at "s1") => `(tactic| (with_reducible refine r_or ?_))
local macro_rules | `(tactic| walk_at "s1") => `(tactic| (with_reducible refine r_and ?_))
local macro_rules | `(tactic| walk_at "s1") => `(tactic| (with_reducible refine r_not ?_))
local macro_rules | `(tactic| walk_at "s1") => `(tactic| (with_reducible refine r_if ?_))
local macro_rules | `(tactic| walk_at "s1") => `(tactic| (with_reducible refine r_notV ?_))
local macro_rules | `(tactic| walk_at "s1") => `(tactic| (with_reducible refine r_orV ?_))
local macro_rules | `(tactic| walk_at "s1") => `(tactic| (with_reducible refine r_andV ?_))
local macro_rules | `(tactic| walk_at "s1") => `(tactic| (with_reducible refine r_lst ?_))
local macro_rules | `(tactic| walk_at "s1") => `(tactic| (with_reducible refine r_tup ?_))
local macro_rules | `(tactic| walk_at "s1") => `(tactic| (with_reducible refine r_c ?_))
local macro_rules | `(tactic| walk_at "s1") => `(tactic| (with_reducible refine r_var ?_))
local macro_rules | `(tactic| walk_at "s1") => `(tactic| (with_reducible refine r_cb ?_))
local macro_rules | `(tactic| walk_at "s1") => `(tactic| (with_reducible refine r_exprZ ?_))
local macro_rules | `(tactic| walk_at "s1") => `(tactic| (with_reducible refine r_for ?_))
local macro_rules | `(tactic| walk_at "s1") => `(tactic| (with_reducible refine r_drop ?_))
local macro_rules | `(tactic| walk_at "s1") => `(tactic| (with_reducible refine r_asg ?_))
local macro_rules | `(tactic| walk_at "s1") => `(tactic| (with_reducible refine r_ifS ?_))
local macro_rules | `(tactic| walk_at "s1") => `(tactic| (with_reducible refine r_ret ?_))
local macro_rules | `(tactic| walk_at "s1") => `(tactic| (with_reducible refine r_stup ?_))
local macro_rules | `(tactic| walk_at "s1") => `(tactic| (with_reducible refine r_test ?_))
local macro_rules | `(tactic| walk_at "s1") => `(tactic| (with_reducible refine r_call ?_))
local macro_rules | `(tactic| walk_at "s1") => `(tactic| (with_reducible refine r_op ?_))
local macro_rules | `(tactic| walk_at "s1") => `(tactic| (with_reducible refine r_seq ?_))
local macro_rules | `(tactic| walk_at "s1") => `(tactic| (with_reducible refine r_name ?_))
local macro_rules | `(tactic| walk_at "s1") => `(tactic| (with_reducible refine r_rt ?_))
local macro_rules | `(tactic| walk_at "s1") => `(tactic| (with_reducible refine r_nx ?_))
local macro_rules | `(tactic| walk_at "s1") => `(tactic| ((with_reducible refine' w_mIsN ?wa ?wz); (case wa => rfl)))
local macro_rules | `(tactic| walk_at "s1") => `(tactic| ((with_reducible refine' w_mApp2 ?wa ?wv ?wz); (case wa => (first | assumption | exact look_new)); (case wv => (first | exact put_new | rfl))))
local macro_rules | `(tactic| walk_at "s1") => `(tactic| ((with_reducible refine' w_mApp ?wa ?wz); (case wa => (first | assumption | exact look_new))))
local macro_rules | `(tactic| walk_at "s1") => `(tactic| ((with_reducible refine' w_mFld (b := true) ?wa ?wv ?wz); (case wa => decide +kernel); (case wv => rfl)))
local macro_rules | `(tactic| walk_at "s1") => `(tactic| ((with_reducible refine w_mIsE (b := false) ?wa ?wz); (case wa => decide +kernel)))
local macro_rules | `(tactic| walk_at "s1") => `(tactic| ((with_reducible refine w_mIsE (b := true) ?wa ?wz); (case wa => decide +kernel)))
local macro_rules | `(tactic| walk_at "s1") => `(tactic| ((with_reducible refine w_mTryF ?wa ?wz); (case wa => decide +kernel)))
local macro_rules | `(tactic| walk_at "s1") => `(tactic| ((with_reducible refine' w_mTry ?wa ?wv ?wz); (case wa => decide +kernel); (case wv => (first | (simp only [setSlot, List.set]; done) | (simp only [setSlot, List.set]; rfl) | rfl))))
local macro_rules | `(tactic| walk_at "s1") => `(tactic| (with_reducible refine t_gone ?_))
local macro_rules | `(tactic| walk_at "s1") => `(tactic| ((with_reducible refine' n_gone ?wa ?wz); (case wa => (first | (simp only [setSlot, List.set]; done) | (simp only [setSlot, List.set]; rfl) | rfl))))
local macro_rules | `(tactic| walk_at "s1") => `(tactic| ((with_reducible refine w_mTryGF ?wa ?wz); (case wa => decide +kernel)))
local macro_rules | `(tactic| walk_at "s1") => `(tactic| ((with_reducible refine' w_mTryG ?wa ?wv ?wz); (case wa => decide +kernel); (case wv => (first | (simp only [setSlot, List.set]; done) | (simp only [setSlot, List.set]; rfl) | rfl))))
local macro_rules | `(tactic| walk_at "s1") => `(tactic| ((with_reducible refine w_mRng ?wa ?wz); (case wa => decide)))
local macro_rules | `(tactic| walk_at "s1") => `(tactic| ((with_reducible refine' w_mIsiF ?wa ?wc ?wz); (case wa => rfl); (case wc => rfl)))
local macro_rules | `(tactic| walk_at "s1") => `(tactic| ((with_reducible refine' w_mIsiT ?wa ?wc ?wz); (case wa => rfl); (case wc => rfl)))
local macro_rules | `(tactic| walk_at "s1") => `(tactic| (with_reducible refine w_mNot ?_))
local macro_rules | `(tactic| walk_at "s1") => `(tactic| ((with_reducible refine w_mNotF ?wa ?wz); (case wa => rfl)))
local macro_rules | `(tactic| walk_at "s1") => `(tactic| ((with_reducible refine w_mNotT ?wa ?wz); (case wa => rfl)))
local macro_rules | `(tactic| walk_at "s1") => `(tactic| ((with_reducible refine' w_mPar ?wa ?wz); (case wa => (first | (simp only [setSlot, startD]; done) | (simp only [setSlot, startD]; rfl) | rfl))))
local macro_rules | `(tactic| walk_at "s1") => `(tactic| (with_reducible refine w_mIsB ?_))
local macro_rules | `(tactic| walk_at "s1") => `(tactic| (with_reducible refine w_mChain ?_))
local macro_rules | `(tactic| walk_at "s1") => `(tactic| (with_reducible refine w_mEnum ?_))
local macro_rules | `(tactic| walk_at "s1") => `(tactic| (with_reducible refine w_mZip ?_))
local macro_rules | `(tactic| walk_at "s1") => `(tactic| (with_reducible refine w_mTupI ?_))
local macro_rules | `(tactic| walk_at "s1") => `(tactic| (with_reducible refine w_mSeqF ?_))
local macro_rules | `(tactic| walk_at "s1") => `(tactic| (with_reducible refine w_mSeq ?_))
local macro_rules | `(tactic| walk_at "s1") => `(tactic| (with_reducible refine w_mSome ?_))
local macro_rules | `(tactic| walk_at "s1") => `(tactic| (with_reducible refine w_mOr ?_))
local macro_rules | `(tactic| walk_at "s1") => `(tactic| (with_reducible refine w_mAnd ?_))
local macro_rules | `(tactic| walk_at "s1") => `(tactic| (with_reducible refine w_mNeg ?_))
local macro_rules | `(tactic| walk_at "s1") => `(tactic| (with_reducible refine c_wx ?_))
local macro_rules | `(tactic| walk_at "s1") => `(tactic| (with_reducible refine c_lp ?_))
local macro_rules | `(tactic| walk_at "s1") => `(tactic| (with_reducible refine c_wn ?_))
local macro_rules | `(tactic| walk_at "s1") => `(tactic| (with_reducible refine b_wx ?_))
local macro_rules | `(tactic| walk_at "s1") => `(tactic| (with_reducible refine b_lp ?_))
local macro_rules | `(tactic| walk_at "s1") => `(tactic| (with_reducible refine b_wn ?_))
local macro_rules | `(tactic| walk_at "s1.SlG") => `(tactic| (with_reducible refine w_sl_t ?_))
local macro_rules | `(tactic| walk_at "s1.SlG") => `(tactic| (with_reducible refine w_sl_s ?_))
local macro_rules | `(tactic| walk_at "s1.SlG") => `(tactic| (with_reducible refine w_sl_f ?_))
local macro_rules | `(tactic| walk_at "s1.SlG") => `(tactic| (with_reducible refine w_sl_l ?_))
local macro_rules | `(tactic| walk_at "s1") => `(tactic| ((with_reducible refine SlG.out ?_); (walk_at "s1.SlG")))
local macro_rules | `(tactic| walk_at "s1.OgG") => `(tactic| (with_reducible refine w_osome ?_))
local macro_rules | `(tactic| walk_at "s1.OgG") => `(tactic| (with_reducible refine w_onone ?_))
local macro_rules | `(tactic| walk_at "s1") => `(tactic| ((with_reducible refine OgG.out ?_); (walk_at "s1.OgG")))
local macro_rules | `(tactic| walk_at "s1.ItG") => `(tactic| (with_reducible refine w_itup ?_))
local macro_rules | `(tactic| walk_at "s1.ItG") => `(tactic| (with_reducible refine w_ienum ?_))
local macro_rules | `(tactic| walk_at "s1.ItG") => `(tactic| (with_reducible refine w_izip ?_))
local macro_rules | `(tactic| walk_at "s1.ItG") => `(tactic| (with_reducible refine w_iseq ?_))
local macro_rules | `(tactic| walk_at "s1") => `(tactic| ((with_reducible refine' w_mCallZ ?wa ?wv ?wc ?wz); (case wa => rfl); (case wv => rfl); (case wc => (first | (simp only [pick, List.append_nil, List.cons_append, List.nil_append, List.filterMap_cons, List.filterMap_nil, List.getElem?_cons_zero, List.getElem?_cons_succ]; done) | (simp only [pick, List.append_nil, List.cons_append, List.nil_append, List.filterMap_cons, List.filterMap_nil, List.getElem?_cons_zero, List.getElem?_cons_succ]; rfl) | rfl))))
local macro_rules | `(tactic| walk_at "s1") => `(tactic| ((with_reducible refine' w_mCallAZ ?wa ?wv ?wc ?wz); (case wa => rfl); (case wv => rfl); (case wc => (first | (simp only [pick, List.append_nil, List.cons_append, List.nil_append, List.filterMap_cons, List.filterMap_nil, List.getElem?_cons_zero, List.getElem?_cons_succ]; done) | (simp only [pick, List.append_nil, List.cons_append, List.nil_append, List.filterMap_cons, List.filterMap_nil, List.getElem?_cons_zero, List.getElem?_cons_succ]; rfl) | rfl))))
local macro_rules | `(tactic| walk_at "s1") => `(tactic| ((with_reducible refine' w_mCallA ?wa ?wv ?wc ?wz); (case wa => rfl); (case wv => rfl); (case wc => (first | (simp only [pick, List.append_nil, List.cons_append, List.nil_append, List.filterMap_cons, List.filterMap_nil, List.getElem?_cons_zero, List.getElem?_cons_succ]; done) | (simp only [pick, List.append_nil, List.cons_append, List.nil_append, List.filterMap_cons, List.filterMap_nil, List.getElem?_cons_zero, List.getElem?_cons_succ]; rfl) | rfl))))
local macro_rules | `(tactic| walk_at "s1") => `(tactic| ((with_reducible refine w_iteF ?wa ?wz); (case wa => rfl)))
local macro_rules | `(tactic| walk_at "s1") => `(tactic| ((with_reducible refine w_iteT ?wa ?wz); (case wa => rfl)))
local macro_rules | `(tactic| walk_at "s1") => `(tactic| ((with_reducible refine w_sizeL ?wa ?wz); (case wa => exact Nat.le_of_ble_eq_true rfl)))
local macro_rules | `(tactic| walk_at "s1.CbG") => `(tactic| (with_reducible refine w_str_i ?_))
local macro_rules | `(tactic| walk_at "s1.CbG") => `(tactic| (with_reducible refine w_str_l ?_))
local macro_rules | `(tactic| walk_at "s1.CbG") => `(tactic| (with_reducible refine w_str_s ?_))
local macro_rules | `(tactic| walk_at "s1.CbG") => `(tactic| (with_reducible refine w_tuple_t ?_))
local macro_rules | `(tactic| walk_at "s1.CbG") => `(tactic| (with_reducible refine w_tuple_l ?_))
local macro_rules | `(tactic| walk_at "s1.CbG") => `(tactic| (with_reducible refine w_list_t ?_))
local macro_rules | `(tactic| walk_at "s1.CbG") => `(tactic| (with_reducible refine w_list_f ?_))
local macro_rules | `(tactic| walk_at "s1.CbG") => `(tactic| (with_reducible refine w_list_l ?_))
local macro_rules | `(tactic| walk_at "s1.CbG") => `(tactic| (with_reducible refine w_abs ?_))
local macro_rules | `(tactic| walk_at "s1.CbG") => `(tactic| (with_reducible refine w_int_i ?_))
local macro_rules | `(tactic| walk_at "s1.CbG") => `(tactic| (with_reducible refine w_min2 ?_))
local macro_rules | `(tactic| walk_at "s1.CbG") => `(tactic| (with_reducible refine w_max2 ?_))
local macro_rules | `(tactic| walk_at "s1.CbG") => `(tactic| (with_reducible refine w_len_s ?_))
local macro_rules | `(tactic| walk_at "s1.CbG") => `(tactic| (with_reducible refine w_len_t ?_))
local macro_rules | `(tactic| walk_at "s1.CbG") => `(tactic| (with_reducible refine w_len_f ?_))
local macro_rules | `(tactic| walk_at "s1.CbG") => `(tactic| (with_reducible refine w_repr ?_))
local macro_rules | `(tactic| walk_at "s1.CbG") => `(tactic| (with_reducible refine w_len_l ?_))
local macro_rules | `(tactic| walk_at "s1.TsG") => `(tactic| (with_reducible refine w_tru ?_))
local macro_rules | `(tactic| walk_at "s1.TsG") => `(tactic| (with_reducible refine w_yes ?_))
local macro_rules | `(tactic| walk_at "s1.TsG") => `(tactic| (with_reducible refine w_and ?_))
local macro_rules | `(tactic| walk_at "s1.TsG") => `(tactic| (with_reducible refine w_or ?_))
local macro_rules | `(tactic| walk_at "s1.TsG") => `(tactic| (with_reducible refine w_not ?_))
local macro_rules | `(tactic| walk_at "s1.StG") => `(tactic| (with_reducible refine w_cont ?_))
local macro_rules | `(tactic| walk_at "s1.StG") => `(tactic| (with_reducible refine w_break ?_))
local macro_rules | `(tactic| walk_at "s1.StG") => `(tactic| (with_reducible refine w_retN ?_))
local macro_rules | `(tactic| walk_at "s1.StG") => `(tactic| (with_reducible refine w_raiseI ?_))
local macro_rules | `(tactic| walk_at "s1.StG") => `(tactic| (with_reducible refine w_raise ?_))
local macro_rules | `(tactic| walk_at "s1.StG") => `(tactic| (with_reducible refine w_try ?_))
local macro_rules | `(tactic| walk_at "s1.StG") => `(tactic| (with_reducible refine w_tryG ?_))
local macro_rules | `(tactic| walk_at "s1.StG") => `(tactic| (with_reducible refine w_tryG0 ?_))
local macro_rules | `(tactic| walk_at "s1.StG") => `(tactic| (with_reducible refine w_try0 ?_))
local macro_rules | `(tactic| walk_at "s1.StG") => `(tactic| (with_reducible refine w_asgZ ?_))
local macro_rules | `(tactic| walk_at "s1.StG") => `(tactic| (with_reducible refine w_retZ ?_))
local macro_rules | `(tactic| walk_at "s1.StG") => `(tactic| (with_reducible refine w_exprZ ?_))
local macro_rules | `(tactic| walk_at "s1.StG") => `(tactic| (with_reducible refine w_par ?_))
local macro_rules | `(tactic| walk_at "s1.StG") => `(tactic| (with_reducible refine w_next ?_))
local macro_rules | `(tactic| walk_at "s1") => `(tactic| (with_reducible refine n_mk ?_))
local macro_rules | `(tactic| walk_at "s1") => `(tactic| (with_reducible refine t_wx ?_))
local macro_rules | `(tactic| walk_at "s1") => `(tactic| (with_reducible refine x_mk ?_))
local macro_rules | `(tactic| walk_at "s1") => `(tactic| (with_reducible refine x_wx ?_))
local macro_rules | `(tactic| walk_at "s1") => `(tactic| (with_reducible refine x_lp ?_))
local macro_rules | `(tactic| walk_at "s1") => `(tactic| (with_reducible refine x_wn ?_))
local macro_rules | `(tactic| walk_at "s1") => `(tactic| (with_reducible refine n_wx ?_))
local macro_rules | `(tactic| walk_at "s1") => `(tactic| (with_reducible refine t_mk ?_))
local macro_rules | `(tactic| walk_at "s1") => `(tactic| (with_reducible refine t_lp ?_))
local macro_rules | `(tactic| walk_at "s1") => `(tactic| (with_reducible refine t_wn ?_))
local macro_rules | `(tactic| walk_at "s1.TgG") => `(tactic| ((with_reducible refine w_stup ?wa ?wz); (case wa => rfl)))
local macro_rules | `(tactic| walk_at "s1.OpG") => `(tactic| (with_reducible refine w_notIs ?_))
local macro_rules | `(tactic| walk_at "s1.OpG") => `(tactic| (with_reducible refine w_is ?_))
local macro_rules | `(tactic| walk_at "s1.OpG") => `(tactic| ((with_reducible refine' w_add_ol ?wa ?wz); (case wa => (first | assumption | exact look_new))))
local macro_rules | `(tactic| walk_at "s1.OpG") => `(tactic| (with_reducible refine w_notIn_t ?_))
local macro_rules | `(tactic| walk_at "s1.OpG") => `(tactic| (with_reducible refine w_notIn_l ?_))
local macro_rules | `(tactic| walk_at "s1.OpG") => `(tactic| (with_reducible refine w_in_t ?_))
local macro_rules | `(tactic| walk_at "s1.OpG") => `(tactic| (with_reducible refine w_in_l ?_))
local macro_rules | `(tactic| walk_at "s1.OpG") => `(tactic| (with_reducible refine w_ne_tt ?_))
local macro_rules | `(tactic| walk_at "s1.OpG") => `(tactic| (with_reducible refine w_ne_lc ?_))
local macro_rules | `(tactic| walk_at "s1.OpG") => `(tactic| (with_reducible refine w_eq_tt ?_))
local macro_rules | `(tactic| walk_at "s1.OpG") => `(tactic| (with_reducible refine w_eq_lc ?_))
local macro_rules | `(tactic| walk_at "s1.OpG") => `(tactic| (with_reducible refine w_mul_l ?_))
local macro_rules | `(tactic| walk_at "s1.OpG") => `(tactic| (with_reducible refine w_add_ss ?_))
local macro_rules | `(tactic| walk_at "s1.OpG") => `(tactic| (with_reducible refine w_ne_bb ?_))
local macro_rules | `(tactic| walk_at "s1.OpG") => `(tactic| (with_reducible refine w_eq_bb ?_))
local macro_rules | `(tactic| walk_at "s1.OpG") => `(tactic| (with_reducible refine w_ne_l0 ?_))
local macro_rules | `(tactic| walk_at "s1.OpG") => `(tactic| (with_reducible refine w_eq_l0 ?_))
local macro_rules | `(tactic| walk_at "s1.OpG") => `(tactic| (with_reducible refine w_add_ll ?_))
local macro_rules | `(tactic| walk_at "s1.OpG") => `(tactic| ((with_reducible refine' w_pow ?wa ?wc ?wz); (case wa => decide); (case wc => (first | exact t9 | exact t6 | exact t18 | exact t39 | exact t58 | exact t30))))
local macro_rules | `(tactic| walk_at "s1.OpG") => `(tactic| (with_reducible refine w_mod ?_))
local macro_rules | `(tactic| walk_at "s1.OpG") => `(tactic| (with_reducible refine w_div ?_))
local macro_rules | `(tactic| walk_at "s1.OpG") => `(tactic| (with_reducible refine w_ne_ss ?_))
local macro_rules | `(tactic| walk_at "s1.OpG") => `(tactic| (with_reducible refine w_eq_ss ?_))
local macro_rules | `(tactic| walk_at "s1.OpG") => `(tactic| (with_reducible refine w_ge ?_))
local macro_rules | `(tactic| walk_at "s1.OpG") => `(tactic| (with_reducible refine w_le ?_))
local macro_rules | `(tactic| walk_at "s1.OpG") => `(tactic| (with_reducible refine w_gt ?_))
local macro_rules | `(tactic| walk_at "s1.OpG") => `(tactic| (with_reducible refine w_lt ?_))
local macro_rules | `(tactic| walk_at "s1.OpG") => `(tactic| (with_reducible refine w_ne_ii ?_))
local macro_rules | `(tactic| walk_at "s1.OpG") => `(tactic| (with_reducible refine w_eq_ii ?_))
local macro_rules | `(tactic| walk_at "s1.OpG") => `(tactic| ((with_reducible refine' w_ix_l ?wa ?wz); (case wa => (first | exact w_at0 _ _ | exact w_at1 _ _ _ | exact w_at2 _ _ _ _ | exact w_at3 _ _ _ _ _))))
local macro_rules | `(tactic| walk_at "s1.OpG") => `(tactic| ((with_reducible refine' w_ix_t ?wa ?wz); (case wa => (first | exact w_at0 _ _ | exact w_at1 _ _ _ | exact w_at2 _ _ _ _ | exact w_at3 _ _ _ _ _))))
local macro_rules | `(tactic| walk_at "s1.ExG") => `(tactic| (with_reducible refine w_edic ?_))
local macro_rules | `(tactic| walk_at "s1.ExG") => `(tactic| (with_reducible refine w_neg ?_))
local macro_rules | `(tactic| walk_at "s1.ExG") => `(tactic| (with_reducible refine w_chain ?_))
local macro_rules | `(tactic| walk_at "s1.ExG") => `(tactic| (with_reducible refine w_fld ?_))
local macro_rules | `(tactic| walk_at "s1.ExG") => `(tactic| (with_reducible refine w_isE ?_))
local macro_rules | `(tactic| walk_at "s1.ExG") => `(tactic| (with_reducible refine w_callAZ ?_))
local macro_rules | `(tactic| walk_at "s1.ExG") => `(tactic| (with_reducible refine w_callA ?_))
local macro_rules | `(tactic| walk_at "s1.ExG") => `(tactic| (with_reducible refine w_callZ ?_))
local macro_rules | `(tactic| walk_at "s1.ExG") => `(tactic| (with_reducible refine w_sl ?_))
local macro_rules | `(tactic| walk_at "s1.ExG") => `(tactic| (with_reducible refine w_isi ?_))
local macro_rules | `(tactic| walk_at "s1.ExG") => `(tactic| (with_reducible refine w_if ?_))
local macro_rules | `(tactic| walk_at "s1.ExG") => `(tactic| (with_reducible refine w_notV ?_))
local macro_rules | `(tactic| walk_at "s1.ExG") => `(tactic| (with_reducible refine w_orV ?_))
local macro_rules | `(tactic| walk_at "s1.ExG") => `(tactic| (with_reducible refine w_andV ?_))
local macro_rules | `(tactic| walk_at "s1.OpG") => `(tactic| (with_reducible refine w_add_tt ?_))
local macro_rules | `(tactic| walk_at "s1") => `(tactic| (with_reducible refine t_gone ?_))
local macro_rules | `(tactic| walk_at "s1") => `(tactic| ((with_reducible refine' c_gone ?wa ?wz); (case wa => (first | (simp only [setSlot, List.set]; done) | (simp only [setSlot, List.set]; rfl) | rfl))))
local macro_rules | `(tactic| walk_at "s1") => `(tactic| ((with_reducible refine' b_gone ?wa ?wz); (case wa => (first | (simp only [setSlot, List.set]; done) | (simp only [setSlot, List.set]; rfl) | rfl))))
local macro_rules | `(tactic| walk_at "s1") => `(tactic| ((with_reducible refine' n_gone ?wa ?wz); (case wa => (first | (simp only [setSlot, List.set]; done) | (simp only [setSlot, List.set]; rfl) | rfl))))
local macro_rules | `(tactic| walk_at "s1.CbG") => `(tactic| (with_reducible refine w_listM_l ?_))
local macro_rules | `(tactic| walk_at "s1.CbG") => `(tactic| (with_reducible refine w_listM_t ?_))
local macro_rules | `(tactic| walk_at "s1.OpG") => `(tactic| (with_reducible refine w_addM ?_))
local macro_rules | `(tactic| walk_at "s1.StG") => `(tactic| ((with_reducible refine' w_frzS ?wa ?wb ?wc ?wd ?wz); (case wa => rfl); (case wb => (first | assumption | exact look_new)); (case wc => (first | (simp only [setSlot, startD]; done) | (simp only [setSlot, startD]; rfl) | rfl)); (case wd => (first | exact drp_new | rfl))))
local macro_rules | `(tactic| walk_at "s1.ExG") => `(tactic| ((with_reducible refine' w_loan ?wa ?wb ?wc ?wd ?wz); (case wa => rfl); (case wb => (first | assumption | exact look_new)); (case wc => (first | (simp only [setSlot, startD]; done) | (simp only [setSlot, startD]; rfl) | rfl)); (case wd => (first | exact drp_new | rfl))))
local macro_rules | `(tactic| walk_at "s1.ExG") => `(tactic| (with_reducible refine w_lcM ?_))
local macro_rules | `(tactic| walk_at "s1") => `(tactic| (with_reducible refine w_mCnt ?_))
local macro_rules | `(tactic| walk_at "s1") => `(tactic| ((with_reducible refine w_lenq ?wa ?wz); (case wa => rfl)))
local macro_rules | `(tactic| walk_at "s1.ExG") => `(tactic| (with_reducible refine w_count ?_))
local macro_rules | `(tactic| walk_at "s1.ExG") => `(tactic| (with_reducible refine w_mkI ?_))
local macro_rules | `(tactic| walk_at "s1.ExG") => `(tactic| (with_reducible refine w_mk0 ?_))
local macro_rules | `(tactic| walk_at "s1.CbG") => `(tactic| (with_reducible refine w_divmod ?_))
local macro_rules | `(tactic| walk_at "s1.OpG") => `(tactic| (with_reducible refine w_notInSign ?_))
local macro_rules | `(tactic| walk_at "s1.OpG") => `(tactic| (with_reducible refine w_inSign ?_))
local macro_rules | `(tactic| walk_at "s1") => `(tactic| (with_reducible refine w_mMaxD ?_))
local macro_rules | `(tactic| walk_at "s1") => `(tactic| (with_reducible refine w_mJs ?_))
local macro_rules | `(tactic| walk_at "s1") => `(tactic| (with_reducible refine w_jsC ?_))
local macro_rules | `(tactic| walk_at "s1") => `(tactic| (with_reducible refine w_jsN ?_))
local macro_rules | `(tactic| walk_at "s1") => `(tactic| (with_reducible refine w_mFmtI ?_))
local macro_rules | `(tactic| walk_at "s1") => `(tactic| (with_reducible refine w_mFmtS ?_))
local macro_rules | `(tactic| walk_at "s1") => `(tactic| (with_reducible refine w_mJr ?_))
local macro_rules | `(tactic| walk_at "s1") => `(tactic| (with_reducible refine w_remSuf ?_))
local macro_rules | `(tactic| walk_at "s1") => `(tactic| (with_reducible refine w_zfill ?_))
local macro_rules | `(tactic| walk_at "s1") => `(tactic| (with_reducible refine w_split ?_))
local macro_rules | `(tactic| walk_at "s1") => `(tactic| (with_reducible refine w_ends ?_))
local macro_rules | `(tactic| walk_at "s1") => `(tactic| (with_reducible refine w_starts ?_))
local macro_rules | `(tactic| walk_at "s1") => `(tactic| (with_reducible refine w_part ?_))
local macro_rules | `(tactic| walk_at "s1") => `(tactic| (with_reducible refine w_mM1 ?_))
local macro_rules | `(tactic| walk_at "s1.ExG") => `(tactic| (with_reducible refine w_maxDef ?_))
local macro_rules | `(tactic| walk_at "s1.ExG") => `(tactic| (with_reducible refine w_joined ?_))
local macro_rules | `(tactic| walk_at "s1.ExG") => `(tactic| (with_reducible refine w_fmt ?_))
local macro_rules | `(tactic| walk_at "s1.ExG") => `(tactic| (with_reducible refine w_joinRev ?_))
local macro_rules | `(tactic| walk_at "s1.ExG") => `(tactic| (with_reducible refine w_m1 ?_))
local macro_rules | `(tactic| walk_at "s1.OpG") => `(tactic| ((with_reducible refine' w_pow ?wa ?wc ?wz); (case wa => decide); (case wc => (first | exact t56 | exact t60 | exact t40 | exact t50 | exact t59))))
local macro_rules | `(tactic| walk_at "s1") => `(tactic| (with_reducible refine r_append ?_))
local macro_rules | `(tactic| walk_at "s1") => `(tactic| (with_reducible refine r_frz ?_))
local macro_rules | `(tactic| walk_at "s1") => `(tactic| (with_reducible refine r_joined ?_))
local macro_rules | `(tactic| walk_at "s1") => `(tactic| (with_reducible refine r_m1 ?_))
local macro_rules | `(tactic| walk_at "s1") => `(tactic| (with_reducible refine r_lcM ?_))
local macro_rules | `(tactic| walk_at "s1") => `(tactic| (with_reducible refine r_setIx ?_))
local macro_rules | `(tactic| walk_at "s1") => `(tactic| (with_reducible refine r_frzS ?_))
local macro_rules | `(tactic| walk_at "s1") => `(tactic| (with_reducible refine w_mStrI ?_))
local macro_rules | `(tactic| walk_at "s1.ItG") => `(tactic| (with_reducible refine w_irng3 ?_))
local macro_rules | `(tactic| walk_at "s1.ItG") => `(tactic| (with_reducible refine w_istr ?_))
local macro_rules | `(tactic| walk_at "s1") => `(tactic| (with_reducible refine w_truI ?_))
local macro_rules | `(tactic| walk_at "s1") => `(tactic| (with_reducible refine w_truL ?_))
local macro_rules | `(tactic| walk_at "s1") => `(tactic| (with_reducible refine w_truB ?_))
local macro_rules | `(tactic| walk_at "s1.TgG") => `(tactic| ((with_reducible refine w_slst ?wa ?wz); (case wa => rfl)))
local macro_rules | `(tactic| walk_at "s1") => `(tactic| (with_reducible refine w_mTest ?_))
local macro_rules | `(tactic| walk_at "s1.TsG") => `(tactic| (with_reducible refine w_test ?_))
local macro_rules | `(tactic| walk_at "s1.StG") => `(tactic| (with_reducible refine w_ifS ?_))
local macro_rules | `(tactic| walk_at "s1.CbG") => `(tactic| (with_reducible refine w_int_b ?_))
local macro_rules | `(tactic| walk_at "s1.ExG") => `(tactic| (with_reducible refine w_lc (fun _ => rfl) ?_))
local macro_rules | `(tactic| walk_at "s1") => `(tactic| ((with_reducible refine TgsG.out ?_); (walk_at "s1.TgsG")))
local macro_rules | `(tactic| walk_at "s1") => `(tactic| ((with_reducible refine ItG.out ?_); (walk_at "s1.ItG")))
local macro_rules | `(tactic| walk_at "s1") => `(tactic| ((with_reducible refine TsG.out ?_); (walk_at "s1.TsG")))
local macro_rules | `(tactic| walk_at "s1") => `(tactic| ((with_reducible refine CbG.out ?_); (walk_at "s1.CbG")))
local macro_rules | `(tactic| walk_at "s1") => `(tactic| (with_reducible refine n_lp ?_))
local macro_rules | `(tactic| walk_at "s1.ExG") => `(tactic| (with_reducible refine w_cb ?_))
local macro_rules | `(tactic| walk_at "s1.StG") => `(tactic| (with_reducible refine w_for ?_))
local macro_rules | `(tactic| walk_at "s1.ExG") => `(tactic| (with_reducible refine w_lstM ?_))
local macro_rules | `(tactic| walk_at "s1") => `(tactic| ((with_reducible refine' w_mFrz ?wa ?wv ?wz); (case wa => (first | assumption | exact look_new)); (case wv => (first | exact drp_new | rfl))))
local macro_rules | `(tactic| walk_at "s1.StG") => `(tactic| (with_reducible refine w_ret ?_))
local macro_rules | `(tactic| walk_at "s1.StG") => `(tactic| (with_reducible refine w_setIx ?_))
local macro_rules | `(tactic| walk_at "s1.TgsG") => `(tactic| (with_reducible refine w_snil ?_))
local macro_rules | `(tactic| walk_at "s1.ExG") => `(tactic| (with_reducible refine w_frz ?_))
local macro_rules | `(tactic| walk_at "s1.ExG") => `(tactic| (with_reducible refine w_append ?_))
local macro_rules | `(tactic| walk_at "s1.StG") => `(tactic| (with_reducible refine w_drop ?_))
local macro_rules | `(tactic| walk_at "s1.ItG") => `(tactic| (with_reducible refine w_irng1 ?_))
local macro_rules | `(tactic| walk_at "s1.OpG") => `(tactic| (with_reducible refine w_mul ?_))
local macro_rules | `(tactic| walk_at "s1.ExG") => `(tactic| (with_reducible refine w_tup ?_))
local macro_rules | `(tactic| walk_at "s1.ExG") => `(tactic| (with_reducible refine w_lst ?_))
local macro_rules | `(tactic| walk_at "s1.OpG") => `(tactic| (with_reducible refine w_sub ?_))
local macro_rules | `(tactic| walk_at "s1.OpG") => `(tactic| (with_reducible refine w_add_ii ?_))
local macro_rules | `(tactic| walk_at "s1.TgsG") => `(tactic| (with_reducible refine w_scons ?_))
local macro_rules | `(tactic| walk_at "s1.ExG") => `(tactic| (with_reducible refine w_call ?_))
local macro_rules | `(tactic| walk_at "s1") => `(tactic| ((with_reducible refine' w_mCall ?wa ?wv ?wc ?wz); (case wa => rfl); (case wv => rfl); (case wc => (first | (simp only [pick, List.append_nil, List.cons_append, List.nil_append, List.filterMap_cons, List.filterMap_nil, List.getElem?_cons_zero, List.getElem?_cons_succ]; done) | (simp only [pick, List.append_nil, List.cons_append, List.nil_append, List.filterMap_cons, List.filterMap_nil, List.getElem?_cons_zero, List.getElem?_cons_succ]; rfl) | rfl))))
local macro_rules | `(tactic| walk_at "s1") => `(tactic| ((with_reducible refine w_size ?wa ?wz); (case wa => exact Nat.le_of_ble_eq_true rfl)))
local macro_rules | `(tactic| walk_at "s1.StG") => `(tactic| (with_reducible refine w_asg ?_))
local macro_rules | `(tactic| walk_at "s1") => `(tactic| (with_reducible refine n_wn ?_))
local macro_rules | `(tactic| walk_at "s1.StG") => `(tactic| (with_reducible refine w_seq ?_))
local macro_rules | `(tactic| walk_at "s1.TgG") => `(tactic| ((with_reducible refine' w_name ?wa ?wz); (case wa => (first | (simp only [setSlot, startD]; done) | (simp only [setSlot, startD]; rfl) | rfl))))
local macro_rules | `(tactic| walk_at "s1.ExG") => `(tactic| (with_reducible refine w_op ?_))
local macro_rules | `(tactic| walk_at "s1.ExG") => `(tactic| (with_reducible refine w_c ?_))
local macro_rules | `(tactic| walk_at "s1.ArG") => `(tactic| (with_reducible refine w_anil ?_))
local macro_rules | `(tactic| walk_at "s1.ArG") => `(tactic| (with_reducible refine w_acons ?_))
local macro_rules | `(tactic| walk_at "s1.ExG") => `(tactic| ((with_reducible refine' w_var ?wa ?wz); (case wa => rfl)))
local macro_rules | `(tactic| walk_at "s1") => `(tactic| ((with_reducible refine StG.out ?_); (walk_at "s1.StG")))
local macro_rules | `(tactic| walk_at "s1") => `(tactic| ((with_reducible refine TgG.out ?_); (walk_at "s1.TgG")))
local macro_rules | `(tactic| walk_at "s1") => `(tactic| ((with_reducible refine OpG.out ?_); (walk_at "s1.OpG")))
local macro_rules | `(tactic| walk_at "s1") => `(tactic| ((with_reducible refine ArG.out ?_); (walk_at "s1.ArG")))
local macro_rules | `(tactic| walk_at "s1") => `(tactic| ((with_reducible refine ExG.out ?_); (walk_at "s1.ExG")))
local macro_rules | `(tactic| walk_at "st") => `(tactic| repeat (walk_at "s1"))
theorem loop_inv {g : DG} {tb : DTS} {E : EN} (I : DS → MS → Prop) : ∀ (xs : List D) (ds : DS) (ms : MS), I ds ms →
    (∀ x ∈ xs, ∀ ds ms, I ds ms → ∀ N : DS → MS → Prop, (∀ ds' ms', I ds' ms' → N ds' ms') → g x ds fun ds1 => tb (EN.lp E N) ds1 ms) →
    (∀ ds ms, I ds ms → E.nx ds ms) → loopD g tb E xs ds ms
  | [], ds, ms, h, _, q => q ds ms h
  | x :: r, ds, ms, h, t, q => t x List.mem_cons_self ds ms h _ fun ds' ms' h' => loop_inv I r ds' ms' h' (fun y hy => t y (List.mem_cons_of_mem _ hy)) q
theorem loop_all {α : Type} {g : DG} {tb : DTS} {E : EN} {ms : MS} (e : α → D) (ok : α → Bool) (I : DS → Prop) : ∀ (xs : List α) (ds : DS), I ds →
    (∀ x ∈ xs, ∀ ds, I ds → ∀ G : DS → MS → Prop, (ok x = true → ∀ ds', I ds' → G ds' ms) → (ok x = false → E.rt (.bl false) ms) → g (e x) ds fun ds1 => tb (EN.lp E G) ds1 ms) →
    (xs.all ok = true → ∀ ds, I ds → E.nx ds ms) → (xs.all ok = false → E.rt (.bl false) ms) → loopD g tb E (xs.map e) ds ms
  | [], ds, h, _, q, _ => q rfl ds h
  | x :: r, ds, h, t, q, q2 => t x List.mem_cons_self ds h _ (fun hx ds' h' => loop_all e ok I r ds' h' (fun y hy => t y (List.mem_cons_of_mem _ hy)) (fun hr => q (by rw [List.all_cons, hx, hr]; rfl)) fun hr => q2 (by rw [List.all_cons, hr, Bool.and_false])) fun hx => q2 (by rw [List.all_cons, hx, Bool.false_and])
theorem filt_empty (p : D → Bool) : ∀ xs : List D, ((xs.filter fun x => !p x).map fun x => x).isEmpty = xs.all p
  | [] => rfl
  | x :: r => by
    rw [List.filter_cons, List.all_cons]
    cases h : p x with
    | true => simp only [Bool.not_true, Bool.false_eq_true, if_false, Bool.true_and]; exact filt_empty p r
    | false => simp
theorem cut_1 {α : Type} (x : α) (r : List α) : cutL (x :: r) (some 1) none = r := by
  unfold cutL
  rw [show HT.sIx (x :: r).length 0 (some 1) = min 1 (x :: r).length from HT.sIx_nat _ 0 1, HT.sIx_none]
  rw [show min 1 (x :: r).length = 1 by rw [List.length_cons]; omega]
  show List.take ((x :: r).length - 1) r = r
  rw [List.length_cons, Nat.add_sub_cancel]
  exact List.take_length
theorem cut_to {α : Type} (xs : List α) (n : Nat) (h : n ≤ xs.length) : cutL xs none (some (n : Int)) = xs.take n := by
  unfold cutL
  rw [show HT.sIx xs.length xs.length (some (n : Int)) = min n xs.length from HT.sIx_nat _ _ n, HT.sIx_none, Nat.min_eq_left h]
  rfl
theorem fdiv_dvd {g x : Int} (h0 : g ≠ 0) (h : g ∣ x) : ∃ q, x.fdiv g = q ∧ x = g * q ∧ q.natAbs ≤ x.natAbs := by
  obtain ⟨q, rfl⟩ := h
  refine ⟨q, ?_, rfl, ?_⟩
  · rw [Int.mul_comm]; exact Int.mul_fdiv_cancel q h0
  · rw [Int.natAbs_mul]
    exact Nat.le_mul_of_pos_left _ (by omega)
theorem sgcd_dvd (a b : Int) : sgcd a b ∣ a ∧ sgcd a b ∣ b := by
  unfold sgcd
  split
  · exact ⟨Int.neg_dvd.mpr (Int.gcd_dvd_left a b), Int.neg_dvd.mpr (Int.gcd_dvd_right a b)⟩
  · exact ⟨Int.gcd_dvd_left a b, Int.gcd_dvd_right a b⟩
theorem lowT_spec {a b : Int} (h : b ≠ 0) : ∃ x y, lowT a b = (x, y) ∧ a = sgcd a b * x ∧ b = sgcd a b * y ∧ 0 < y ∧ x.natAbs ≤ a.natAbs ∧ y.natAbs ≤ b.natAbs := by
  obtain ⟨d1, d2⟩ := sgcd_dvd a b
  obtain ⟨x, e1, f1, n1⟩ := fdiv_dvd (sgcd_ne (a := a) h) d1
  obtain ⟨y, e2, f2, n2⟩ := fdiv_dvd (sgcd_ne (a := a) h) d2
  refine ⟨x, y, by unfold lowT; rw [e1, e2], f1, f2, ?_, n1, n2⟩
  have hg := sgcd_ne (a := a) h
  by_cases hb : b < 0
  · have hs : sgcd a b < 0 := by
      have : sgcd a b = -(Int.gcd a b : Int) := by unfold sgcd; rw [if_pos hb]
      omega
    refine Int.lt_of_not_ge fun hy => ?_
    have := Int.mul_nonneg_of_nonpos_of_nonpos (Int.le_of_lt hs) hy
    omega
  · have hs : 0 < sgcd a b := by
      have : sgcd a b = (Int.gcd a b : Int) := by unfold sgcd; rw [if_neg hb]
      omega
    refine Int.lt_of_not_ge fun hy => ?_
    have := Int.mul_nonpos_of_nonneg_of_nonpos (Int.le_of_lt hs) hy
    omega
theorem lowT_zero {b : Int} (h : b ≠ 0) : lowT 0 b = (0, 1) := by
  have hg : sgcd 0 b = b := by
    unfold sgcd
    rw [Int.gcd_zero_left]
    split <;> omega
  unfold lowT
  rw [hg, Int.zero_fdiv, Int.fdiv_self h]
/-- a fraction so large -/
structure FB (n m : Nat) (t : Int × Int) : Prop where
  top : Bd n t.1
  bot : Bd m t.2
  pos : 0 < t.2
  nil : t.1 = 0 → t.2 = 1
theorem FB.mono {n m n' m' : Nat} {t : Int × Int} (h : FB n m t) (h1 : n ≤ n') (h2 : m ≤ m') : FB n' m' t := ⟨h.top.mono h1, h.bot.mono h2, h.pos, h.nil⟩
theorem fb_low {n m : Nat} {a b : Int} (ha : Bd n a) (hb : Bd m b) (h : b ≠ 0) : FB n m (lowT a b) := by
  obtain ⟨x, y, e, f1, f2, p, n1, n2⟩ := lowT_spec (a := a) h
  rw [e]
  refine ⟨Nat.lt_of_le_of_lt n1 ha, Nat.lt_of_le_of_lt n2 hb, p, fun z => ?_⟩
  have z' : x = 0 := z
  subst z'
  rw [Int.mul_zero] at f1
  rw [f1, lowT_zero h] at e
  exact (congrArg Prod.snd e).symm
theorem FB.ne {n m : Nat} {t : Int × Int} (h : FB n m t) : t.2 ≠ 0 := by have := h.pos; omega
theorem fb_mul {n m n' m' : Nat} {t u : Int × Int} (h : FB n m t) (h2 : FB n' m' u) : FB (n + n') (m + m') (mulT t u) := fb_low (h.top.mul h2.top) (h.bot.mul h2.bot) (Int.mul_ne_zero h.ne h2.ne)
theorem fb_add {n m n' m' k : Nat} {t u : Int × Int} (h : FB n m t) (h2 : FB n' m' u) (k1 : n + m' ≤ k) (k2 : n' + m ≤ k) : FB (k + 1) (m + m') (addT t u) :=
  fb_low (((h.top.mul h2.bot).mono k1).add ((h2.top.mul h.bot).mono k2)) (h.bot.mul h2.bot) (Int.mul_ne_zero h.ne h2.ne)
theorem fb_int {n : Nat} {a : Int} (h : Bd n a) : FB n 1 (a, 1) := ⟨h, show Bd 1 (1 : Int) by unfold Bd; decide, show (0 : Int) < 1 by decide, fun _ => rfl⟩
/-- a line's worth, as it is added up from the left -/
def worGo : Int × Int → List Int → List (Int × Int) → Int × Int
  | t, f :: fs, n :: ns => worGo (addT t (mulT (f, 1) n)) fs ns
  | t, [], _ => t
  | t, _ :: _, [] => t
def val (p : Int × Int) : Rat := (p.1 : Rat) / (p.2 : Rat)
structure Low (p : Int × Int) : Prop where
  pos : 0 < p.2
  cop : Int.gcd p.1 p.2 = 1
theorem rne {b : Int} (h : b ≠ 0) : (b : Rat) ≠ 0 := fun z => h (Rat.intCast_inj.mp (z.trans Rat.intCast_zero.symm))
theorem sgcd_abs (a b : Int) : (sgcd a b).natAbs = Int.gcd a b := by
  unfold sgcd; split <;> omega
theorem low_low {a b : Int} (h : b ≠ 0) : Low (lowT a b) := by
  obtain ⟨x, y, e, f1, f2, p, _, _⟩ := lowT_spec (a := a) h
  rw [e]
  refine ⟨p, ?_⟩
  have hg := sgcd_ne (a := a) h
  have h1 : Int.gcd (sgcd a b * x) (sgcd a b * y) = (sgcd a b).natAbs * Int.gcd x y := Int.gcd_mul_left ..
  rw [← f1, ← f2, sgcd_abs] at h1
  have hg2 : 0 < Int.gcd a b := by rw [← sgcd_abs]; omega
  have h2 : Int.gcd a b * 1 = Int.gcd a b * Int.gcd x y := by omega
  exact (Nat.eq_of_mul_eq_mul_left hg2 h2).symm
theorem val_low {a b : Int} (h : b ≠ 0) : val (lowT a b) = (a : Rat) / (b : Rat) := by
  obtain ⟨x, y, e, f1, f2, p, _, _⟩ := lowT_spec (a := a) h
  have hg := sgcd_ne (a := a) h
  rw [e]
  show (x : Rat) / (y : Rat) = _
  have hy : (y : Rat) ≠ 0 := rne (by omega)
  have hgr : (sgcd a b : Rat) ≠ 0 := rne hg
  have ha : (a : Rat) = (sgcd a b : Rat) * (x : Rat) := by rw [← Rat.intCast_mul, ← f1]
  have hb : (b : Rat) = (sgcd a b : Rat) * (y : Rat) := by rw [← Rat.intCast_mul, ← f2]
  rw [ha, hb]
  generalize (sgcd a b : Rat) = g at *
  generalize (x : Rat) = u at *
  generalize (y : Rat) = v at *
  grind
theorem cross_eq {p q : Int × Int} (hp : 0 < p.2) (hq : 0 < q.2) : val p = val q ↔ p.1 * q.2 = q.1 * p.2 := by
  have h1 : (p.2 : Rat) ≠ 0 := rne (by omega)
  have h2 : (q.2 : Rat) ≠ 0 := rne (by omega)
  unfold val
  rw [← Rat.intCast_inj, Rat.intCast_mul, Rat.intCast_mul]
  generalize (p.1 : Rat) = a at *
  generalize (p.2 : Rat) = b at *
  generalize (q.1 : Rat) = c at *
  generalize (q.2 : Rat) = d at *
  constructor
  · intro h
    grind
  · intro h
    grind
theorem rpos {b : Int} (h : 0 < b) : (0 : Rat) < (b : Rat) := by
  rw [← Rat.intCast_zero]; exact Rat.intCast_lt_intCast.mpr h
theorem cross_lt {p q : Int × Int} (hp : 0 < p.2) (hq : 0 < q.2) : val p < val q ↔ p.1 * q.2 < q.1 * p.2 := by
  have h1 := rpos hp
  have h2 := rpos hq
  unfold val
  rw [← Rat.intCast_lt_intCast, Rat.intCast_mul, Rat.intCast_mul]
  generalize (p.1 : Rat) = a at *
  generalize (p.2 : Rat) = b at *
  generalize (q.1 : Rat) = c at *
  generalize (q.2 : Rat) = d at *
  rw [Rat.div_lt_iff h1]
  have e : c / d * b = (c * b) / d := by grind
  rw [e, Rat.lt_div_iff h2]
theorem val_inj {p q : Int × Int} (hp : Low p) (hq : Low q) (h : val p = val q) : p = q := by
  have h := (cross_eq hp.pos hq.pos).mp h
  obtain ⟨a, b⟩ := p
  obtain ⟨c, d⟩ := q
  obtain ⟨p1, p2⟩ := hp
  obtain ⟨q1, q2⟩ := hq
  simp only at *
  have d1 : b ∣ d := by
    have : b ∣ a * d := ⟨c, by rw [h, Int.mul_comm]⟩
    have h3 := Int.dvd_gcd_mul_iff_dvd_mul.mpr this
    rw [Int.gcd_comm, p2] at h3
    simpa using h3
  have d2 : d ∣ b := by
    have : d ∣ c * b := ⟨a, by rw [← h, Int.mul_comm]⟩
    have h3 := Int.dvd_gcd_mul_iff_dvd_mul.mpr this
    rw [Int.gcd_comm, q2] at h3
    simpa using h3
  have hbd : b = d := Int.dvd_antisymm (by omega) (by omega) d1 d2
  subst hbd
  have : a = c := Int.eq_of_mul_eq_mul_right (by omega) h
  rw [this]
theorem val_int (a : Int) : val (a, 1) = (a : Rat) := by unfold val; simp; grind
theorem low_int (a : Int) : Low (a, 1) := ⟨(show (0 : Int) < 1 by decide), by simp⟩
theorem low_add {p q : Int × Int} (hp : p.2 ≠ 0) (hq : q.2 ≠ 0) : Low (addT p q) := low_low (Int.mul_ne_zero hp hq)
theorem low_mul {p q : Int × Int} (hp : p.2 ≠ 0) (hq : q.2 ≠ 0) : Low (mulT p q) := low_low (Int.mul_ne_zero hp hq)
theorem val_add {p q : Int × Int} (hp : p.2 ≠ 0) (hq : q.2 ≠ 0) : val (addT p q) = val p + val q := by
  unfold addT
  rw [val_low (Int.mul_ne_zero hp hq)]
  have h1 := rne hp
  have h2 := rne hq
  unfold val
  rw [Rat.intCast_add, Rat.intCast_mul, Rat.intCast_mul, Rat.intCast_mul]
  generalize (p.1 : Rat) = a at *
  generalize (p.2 : Rat) = b at *
  generalize (q.1 : Rat) = c at *
  generalize (q.2 : Rat) = d at *
  grind
theorem val_mul {p q : Int × Int} (hp : p.2 ≠ 0) (hq : q.2 ≠ 0) : val (mulT p q) = val p * val q := by
  unfold mulT
  rw [val_low (Int.mul_ne_zero hp hq)]
  have h1 := rne hp
  have h2 := rne hq
  unfold val
  rw [Rat.intCast_mul, Rat.intCast_mul]
  generalize (p.1 : Rat) = a at *
  generalize (p.2 : Rat) = b at *
  generalize (q.1 : Rat) = c at *
  generalize (q.2 : Rat) = d at *
  grind
theorem Low.ne {p : Int × Int} (h : Low p) : p.2 ≠ 0 := by have := h.pos; omega
theorem val_nonneg {p : Int × Int} (h : 0 < p.2) : 0 ≤ val p ↔ 0 ≤ p.1 := by
  have := cross_lt (p := p) (q := (0, 1)) h (by decide)
  have e : val (0, 1) = 0 := by rw [val_int]; rfl
  rw [e] at this
  simp only [Int.mul_one, Int.zero_mul] at this
  rw [← Rat.not_lt, this]
  omega
/-- a wish: least or just -/
def wdD (j : Bool) : D := .str (if j then "just" else "least")
/-- wishes, as they are drawn -/
structure Wi where
  j : Bool
  l : Int
  fs : List Int
def wiD (w : Wi) : D := .tup [wdD w.j, .lst (.int w.l :: w.fs.map D.int)]
def Wi.ls (w : Wi) : List Int := w.l :: w.fs
theorem wiD_ls (w : Wi) : wiD w = .tup [wdD w.j, .lst (w.ls.map D.int)] := rfl
structure Rw where
  s : Int
  t : Int
  ws : List Wi
def rwD (r : Rw) : D := .tup [.int r.s, .int r.t, .lst (r.ws.map wiD)]
structure Pg where
  nm : List Str
  pm : List Str
  rs : List Rw
def pgD (g : Pg) : D := .tup [.lst (g.nm.map D.str), .lst (g.pm.map D.str), .lst (g.rs.map rwD)]
/-- a name: one to six small letters -/
def goodNm (x : Str) : Bool := decide (1 ≤ x.length) && decide (x.length ≤ 6) && x.cps.toList.all fun c => decide (97 ≤ c) && decide (c < 123)
structure NmOk (most : Nat) (xs : List Str) : Prop where
  l1 : 1 ≤ xs.length
  l2 : xs.length ≤ most
  nd : xs.Nodup
  ok : ∀ x ∈ xs, goodNm x = true
structure WiOk (B n : Nat) (w : Wi) : Prop where
  bd : ∀ x ∈ w.ls, Bd B x
  ln : w.fs.length = n
structure RwOk (B sz pl : Nat) (r : Rw) : Prop where
  s0 : 0 ≤ r.s
  s1 : r.s < pl
  t0 : 0 ≤ r.t
  t1 : r.t < pl
  wl : r.ws.length ≤ 12
  wo : ∀ w ∈ r.ws, WiOk B (2 * sz) w
structure PgOk (B : Nat) (g : Pg) : Prop where
  nm : NmOk 3 g.nm
  pm : NmOk 6 g.pm
  rl : g.rs.length ≤ 10
  ro : ∀ r ∈ g.rs, RwOk B g.nm.length g.pm.length r
theorem WiOk.mono {B B' n : Nat} {w : Wi} (h : WiOk B n w) (hb : B ≤ B') : WiOk B' n w := ⟨fun x hx => (h.bd x hx).mono hb, h.ln⟩
/-- the number of one of so many -/
def isAt (n : Int) (d : D) : Bool := match d with
  | .int i => decide (0 ≤ i) && decide (i < n)
  | _ => false
theorem nm_ok {x : Str} (h : goodNm x = true) : x.cps.all (· < 0x110000) = true := by
  unfold goodNm at h
  rw [Bool.and_eq_true_iff, Bool.and_eq_true_iff] at h
  obtain ⟨⟨h1, h2⟩, h3⟩ := h
  rw [Array.all_eq_true']
  intro c hc
  have h4 := List.all_eq_true.mp h3 c (Array.mem_toList_iff.mpr hc)
  rw [Bool.and_eq_true_iff] at h4
  have h5 := of_decide_eq_true h4.2
  exact decide_eq_true (by omega)
theorem enum_mem {α : Type} {f : α → D} {xs : List α} {d : D} (h : d ∈ enumD (xs.map f)) : ∃ (k : Nat) (hk : k < xs.length), d = .tup [.int (k : Int), f xs[k]] := by
  unfold enumD at h
  obtain ⟨k, hk, e⟩ := List.mem_iff_getElem.mp h
  rw [List.length_zipWith, rng_len, List.length_map] at hk
  have hk' : k < xs.length := by omega
  refine ⟨k, hk', ?_⟩
  rw [List.getElem_zipWith] at e
  rw [← e]
  unfold rng
  simp
theorem rep_flat0 (n : Nat) : (List.replicate n [D.int 0]).flatten = (List.replicate n (0 : Int)).map D.int := by
  rw [List.map_replicate]
  induction n with
  | zero => rfl
  | succ n ih => rw [List.replicate_succ, List.flatten_cons, ih, List.replicate_succ]; rfl
theorem zeros_ok {n : Int} (h0 : 0 ≤ n) (h1 : n ≤ 100) : (-(2 ^ 63) ≤ n ∧ n < 2 ^ 63 ∧ [D.int 0].length * n.toNat ≤ sizeLine) := ⟨by omega, by omega, Nat.le_trans (show 1 * n.toNat ≤ 100 by omega) (by decide)⟩
theorem size_ok {n : Nat} (h : n ≤ 1000) : n ≤ sizeLine := Nat.le_trans h (by decide)
/-- a weighing: a line for each place -/
abbrev Tb := List (Int × List Int)
def lnT (p : Int × List Int) : D := .lst ((p.1 :: p.2).map D.int)
def tbD (t : Tb) : D := .lst (t.map lnT)
structure TbOk (B n : Nat) (t : Tb) : Prop where
  bd : ∀ p ∈ t, ∀ x ∈ p.1 :: p.2, Bd B x
  ln : ∀ p ∈ t, p.2.length = n
theorem tb_at {t : Tb} {i : Int} (h0 : 0 ≤ i) (h1 : i < (t.length : Int)) : ∃ p ∈ t, t[i.toNat]? = some p ∧ atI (t.map lnT) i = some (lnT p) := by
  obtain ⟨j, rfl⟩ : ∃ j : Nat, i = (j : Int) := ⟨i.toNat, by omega⟩
  have hj : j < t.length := by omega
  refine ⟨t[j], List.getElem_mem hj, List.getElem?_eq_getElem hj, atI_nat ?_⟩
  rw [List.getElem?_map, List.getElem?_eq_getElem hj]; rfl
theorem all_true {α : Type} (f : α → D) (hf : ∀ x, f x = .bl true) : ∀ xs : List α, ∃ bs, blsOf (xs.map f) = some bs ∧ bs.all id = true
  | [] => ⟨[], rfl, rfl⟩
  | x :: r => by
    obtain ⟨bs, e, h⟩ := all_true f hf r
    exact ⟨true :: bs, by rw [List.map_cons, hf x]; unfold blsOf; rw [e]; rfl, h⟩
theorem mem_at {α : Type} {xs : List α} {i : Nat} {x : α} (h : xs[i]? = some x) : x ∈ xs := by
  obtain ⟨hi, e⟩ := List.getElem?_eq_some_iff.mp h
  exact e ▸ List.getElem_mem hi
structure Gds (xs : List D) (n k : Nat) : Prop where
  pl : plains xs = true
  ex : ∃ ps, toPys xs = some ps ∧ lay1s ps = true ∧ PyData.showableAll ps = true ∧ wts ps ≤ n ∧ PyData.depthAll ps ≤ k
theorem gds_nil {k : Nat} : Gds [] 0 k := ⟨rfl, [], rfl, rfl, rfl, Nat.zero_le _, Nat.zero_le _⟩
theorem gds_cons {x : D} {r : List D} {n m k : Nat} (h : Gd x n k) (t : Gds r m k) : Gds (x :: r) (n + 2 + m) k := by
  obtain ⟨p, a, b, c, e, f⟩ := h.sd.ex
  obtain ⟨pt, ps, a2, b2, c2, e2, f2⟩ := t
  refine ⟨Bool.and_eq_true_iff.mpr ⟨h.pl, pt⟩, p :: ps, by unfold toPys; rw [a, a2], Bool.and_eq_true_iff.mpr ⟨b, b2⟩, Bool.and_eq_true_iff.mpr ⟨c, c2⟩, ?_, Nat.max_le.mpr ⟨f, f2⟩⟩
  show wt p + 2 + wts ps ≤ n + 2 + m
  omega
theorem gd_tupS {xs : List D} {n k : Nat} (h : Gds xs n k) : Gd (.tup xs) (n + 10) (k + 1) := by
  obtain ⟨pt, ps, a, b, c, e, f⟩ := h
  refine ⟨pt, .tuple ps, by unfold toPy; rw [a]; rfl, b, c, ?_, Nat.succ_le_succ f⟩
  show wts ps + 10 ≤ _
  omega
theorem gd_nm {x : Str} (h : goodNm x = true) : Gd (.str x) 70 0 := by
  have h0 := nm_ok h
  unfold goodNm at h
  rw [Bool.and_eq_true_iff, Bool.and_eq_true_iff] at h
  have h2 := of_decide_eq_true h.1.2
  exact (gd_str x h0).mono (by omega) (by decide)
theorem gd_ints {n : Nat} {is : List Int} (h : ∀ i ∈ is, Bd n i) (hn : n ≤ 1900 := by decide) : ∀ x ∈ is.map D.int, Gd x 2000 0 := fun x hx => by
  obtain ⟨i, hi, rfl⟩ := List.mem_map.mp hx
  exact gd_int (h i hi) hn
theorem gd_line {n m : Nat} {is : List Int} (h : ∀ i ∈ is, Bd n i) (hl : is.length ≤ m) (hn : n ≤ 1900 := by decide) : Gd (.lst (is.map D.int)) (2002 * m + 10) 1 :=
  (gd_lst (gd_ints h hn)).mono (by rw [List.length_map]; exact Nat.add_le_add_right (Nat.mul_le_mul_left _ hl) _) (by decide)
theorem gd_wi {B n : Nat} {w : Wi} (h : WiOk B n w) (hn : n ≤ 6) (hB : B ≤ 1900 := by decide) : Gd (wiD w) 14200 2 := by
  have g1 := gd_line (m := 7) h.bd (by have := h.ln; show w.fs.length + 1 ≤ 7; omega) hB
  have g2 : Gd (wdD w.j) 60 0 := by
    unfold wdD
    cases w.j
    · exact (gd_lit "least").mono (by decide +kernel) (by decide)
    · exact (gd_lit "just").mono (by decide +kernel) (by decide)
  rw [wiD_ls]
  exact (gd_tupS (gds_cons (g2.mono (Nat.le_refl _) (by decide)) (gds_cons g1 gds_nil))).mono (by decide) (by decide)
theorem gd_rw {B sz pl : Nat} {r : Rw} (h : RwOk B sz pl r) (hsz : sz ≤ 3) (hpl : pl ≤ 6) (hB : B ≤ 1900 := by decide) : Gd (rwD r) 175000 4 := by
  have g1 : Gd (.lst (r.ws.map wiD)) 170434 3 := by
    refine (gd_lst (n := 14200) (k := 2) fun x hx => ?_).mono ?_ (by decide)
    · obtain ⟨w, hw, rfl⟩ := List.mem_map.mp hx
      exact gd_wi (h.wo w hw) (by omega) hB
    · have := h.wl
      rw [List.length_map]; omega
  have g2 : ∀ i : Int, 0 ≤ i → i < pl → Gd (.int i) 2000 3 := fun i h0 h1 => (gd_int (n := 3) (by unfold Bd; omega)).mono (by decide) (by decide)
  exact (gd_tupS (gds_cons (g2 _ h.s0 h.s1) (gds_cons (g2 _ h.t0 h.t1) (gds_cons g1 gds_nil)))).mono (by decide) (by decide)
theorem gd_nms {most : Nat} {xs : List Str} (h : NmOk most xs) (hm : most ≤ 6) : Gd (.lst (xs.map D.str)) 442 1 := by
  refine (gd_lst (n := 70) (k := 0) fun x hx => ?_).mono ?_ (by decide)
  · obtain ⟨s, hs, rfl⟩ := List.mem_map.mp hx
    exact gd_nm (h.ok s hs)
  · have := h.l2
    rw [List.length_map]; omega
theorem gd_pg {B : Nat} {g : Pg} (h : PgOk B g) (hB : B ≤ 1900 := by decide) : Gd (pgD g) 1800000 6 := by
  have g1 : Gd (.lst (g.rs.map rwD)) 1750030 5 := by
    refine (gd_lst (n := 175000) (k := 4) fun x hx => ?_).mono ?_ (by decide)
    · obtain ⟨r, hr, rfl⟩ := List.mem_map.mp hx
      exact gd_rw (h.ro r hr) h.nm.l2 h.pm.l2 hB
    · have := h.rl
      rw [List.length_map]; omega
  exact (gd_tupS (gds_cons ((gd_nms h.nm (by decide)).mono (Nat.le_refl _) (by decide)) (gds_cons ((gd_nms h.pm (by decide)).mono (Nat.le_refl _) (by decide)) (gds_cons g1 gds_nil)))).mono (by decide) (by decide)
def mStarA (da : DA) (ds : DS) (d : D) (m : MS) (P : List D → MS → Prop) : Prop := match asT d m with
  | some xs => da ds m fun ys m2 => P (xs ++ ys) m2
  | none => False
theorem w_aStar {de : DE} {da : DA} {ds : DS} {ms : MS} {P : List D → MS → Prop} (h : ExG de ds ms fun d m => mStarA da ds d m P) : ArG (aStar de da) ds ms P := h
theorem w_mStarA {da : DA} {ds : DS} {m : MS} {xs : List D} {P : List D → MS → Prop} (h : ArG da ds m fun ys m2 => P (xs ++ ys) m2) : mStarA da ds (.lst xs) m P := h
local macro_rules | `(tactic| walk_at "s1") => `(tactic| (with_reducible refine w_mStarA ?_))
local macro_rules | `(tactic| walk_at "s1") => `(tactic| (with_reducible refine w_aStar ?_))
local macro_rules | `(tactic| walk_at "s1") => `(tactic| ((with_reducible refine' w_mClear ?wa ?wb ?wz); (case wa => (first | assumption | exact look_new)); (case wb => (first | exact put_new | rfl))))
local macro_rules | `(tactic| walk_at "s1") => `(tactic| ((with_reducible refine' w_mPickA ?wa ?wb ?wz); (case wa => rfl); (case wb => rfl)))
local macro_rules | `(tactic| walk_at "s1") => `(tactic| (with_reducible refine w_mPickZ1 ?_))
local macro_rules | `(tactic| walk_at "s1") => `(tactic| (with_reducible refine w_mPickZ0 ?_))
local macro_rules | `(tactic| walk_at "s1.ExG") => `(tactic| (with_reducible refine w_listR ?_))
local macro_rules | `(tactic| walk_at "s1.ExG") => `(tactic| (with_reducible refine w_clear ?_))
local macro_rules | `(tactic| walk_at "s1.ExG") => `(tactic| (with_reducible refine w_pickZ ?_))
local macro_rules | `(tactic| walk_at "s1") => `(tactic| (with_reducible refine w_mIndex ?_))
local macro_rules | `(tactic| walk_at "s1.ExG") => `(tactic| (with_reducible refine w_sortSet ?_))
local macro_rules | `(tactic| walk_at "s1.ExG") => `(tactic| (with_reducible refine w_index ?_))
inductive Any (c : Bool) (n L : Nat) : Nat → D → Prop
  | non {k : Nat} : Any c n L k .non
  | bl {k : Nat} (b : Bool) : Any c n L k (.bl b)
  | int {k : Nat} {i : Int} : Bd n i → Any c n L k (.int i)
  | str {k : Nat} {x : Str} : x.length ≤ L → x.cps.all (· < 0x110000) = true → Any c n L k (.str x)
  | edic {k : Nat} : c = true → Any c n L k .edic
  | lst {k : Nat} {xs : List D} : xs.length ≤ L → (∀ x ∈ xs, Any c n L k x) → Any c n L (k + 1) (.lst xs)
  | tup {k : Nat} {xs : List D} : xs.length ≤ L → (∀ x ∈ xs, Any c n L k x) → Any c n L (k + 1) (.tup xs)
theorem Any.mono {c c' : Bool} {n n' L L' k : Nat} {d : D} (h : Any c n L k d) (hc : c = true → c' = true) (hn : n ≤ n') (hL : L ≤ L') : ∀ {k' : Nat}, k ≤ k' → Any c' n' L' k' d := by
  induction h with
  | non => intro k' _; exact .non
  | bl b => intro k' _; exact .bl b
  | int h => intro k' _; exact .int (h.mono hn)
  | str h1 h2 => intro k' _; exact .str (by omega) h2
  | edic h => intro k' _; exact .edic (hc h)
  | lst h1 h2 ih =>
    intro k' hk
    obtain ⟨j, rfl⟩ : ∃ j, k' = j + 1 := ⟨k' - 1, by omega⟩
    exact .lst (by omega) fun x hx => ih x hx (by omega)
  | tup h1 h2 ih =>
    intro k' hk
    obtain ⟨j, rfl⟩ : ∃ j, k' = j + 1 := ⟨k' - 1, by omega⟩
    exact .tup (by omega) fun x hx => ih x hx (by omega)
theorem Any.up {c : Bool} {n L k k' : Nat} {d : D} (h : Any c n L k d) (hk : k ≤ k') : Any c n L k' d := h.mono id (Nat.le_refl _) (Nat.le_refl _) hk
theorem Any.ty {c : Bool} {n L k : Nat} {d : D} (h : Any c n L k d) : ∃ a, tyD d = some a := by cases h <;> exact ⟨_, rfl⟩
theorem any_pys {c : Bool} {n L k : Nat} : ∀ xs : List D, (∀ x ∈ xs, c = false → ∃ p, toPy x = some p ∧ p.canLay0 = true ∧ p.depth ≤ k) → c = false → ∃ ps, toPys xs = some ps ∧ PyData.canLayAll0 ps = true ∧ PyData.depthAll ps ≤ k
  | [], _, _ => ⟨[], rfl, rfl, Nat.zero_le _⟩
  | x :: r, h, hc => by
    obtain ⟨p, a, b, e⟩ := h x List.mem_cons_self hc
    obtain ⟨ps, a2, b2, e2⟩ := any_pys (n := n) (L := L) r (fun y hy => h y (List.mem_cons_of_mem _ hy)) hc
    exact ⟨p :: ps, by unfold toPys; rw [a, a2], Bool.and_eq_true_iff.mpr ⟨b, b2⟩, Nat.max_le.mpr ⟨e, e2⟩⟩
theorem Any.py {c : Bool} {n L k : Nat} {d : D} (h : Any c n L k d) : c = false → ∃ p, toPy d = some p ∧ p.canLay0 = true ∧ p.depth ≤ k := by
  induction h with
  | non => exact fun _ => ⟨_, rfl, rfl, Nat.zero_le _⟩
  | bl b => exact fun _ => ⟨_, rfl, rfl, Nat.zero_le _⟩
  | int h => exact fun _ => ⟨_, rfl, rfl, Nat.zero_le _⟩
  | str h1 h2 => exact fun _ => ⟨_, rfl, h2, Nat.zero_le _⟩
  | edic h => exact fun hc => by rw [hc] at h; cases h
  | lst h1 h2 ih =>
    intro hc
    obtain ⟨ps, a, b, e⟩ := any_pys (n := n) (L := L) _ ih hc
    exact ⟨.list ps, by unfold toPy; rw [a]; rfl, b, Nat.succ_le_succ e⟩
  | tup h1 h2 ih =>
    intro hc
    obtain ⟨ps, a, b, e⟩ := any_pys (n := n) (L := L) _ ih hc
    exact ⟨.tuple ps, by unfold toPy; rw [a]; rfl, b, Nat.succ_le_succ e⟩
theorem Any.sh {n L k : Nat} {d : D} (h : Any false n L k d) (hk : k ≤ 60) : ShD d := by
  obtain ⟨p, a, b, e⟩ := h.py rfl
  refine ⟨p, a, ?_⟩
  unfold SeqAt.shaped
  rw [b, decide_eq_true (by omega : p.depth ≤ 64)]; rfl
/-- any data: ints below 2 ^ n -/
structure AnyX (n : Nat) (d : D) : Prop where
  ex : ∃ k, Any true n 1000 k d
theorem AnyX.ty {n : Nat} {d : D} (h : AnyX n d) : ∃ a, tyD d = some a := h.ex.elim fun _ h => h.ty
theorem AnyX.mono {n n' : Nat} {d : D} (h : AnyX n d) (hn : n ≤ n') : AnyX n' d := h.ex.elim fun k h => ⟨k, h.mono id hn (Nat.le_refl _) (Nat.le_refl _)⟩
theorem AnyX.lst {n : Nat} {xs : List D} (h : AnyX n (.lst xs)) : xs.length ≤ 1000 ∧ ∀ x ∈ xs, AnyX n x := h.ex.elim fun k h => by
  cases h with
  | lst h1 h2 => exact ⟨h1, fun x hx => ⟨_, h2 x hx⟩⟩
theorem AnyX.tup {n : Nat} {xs : List D} (h : AnyX n (.tup xs)) : xs.length ≤ 1000 ∧ ∀ x ∈ xs, AnyX n x := h.ex.elim fun k h => by
  cases h with
  | tup h1 h2 => exact ⟨h1, fun x hx => ⟨_, h2 x hx⟩⟩
theorem AnyX.int {n : Nat} {i : Int} (h : AnyX n (.int i)) : Bd n i := h.ex.elim fun k h => by
  cases h with
  | int h => exact h
theorem AnyX.int' {n : Nat} {i : Int} (h : Bd n i) : AnyX n (.int i) := ⟨0, .int h⟩
theorem anyx_all {n : Nat} : ∀ xs : List D, (∀ x ∈ xs, AnyX n x) → ∃ k, ∀ x ∈ xs, Any true n 1000 k x
  | [], _ => ⟨0, fun x h => by cases h⟩
  | x :: r, h => by
    obtain ⟨k1, h1⟩ := (h x List.mem_cons_self).ex
    obtain ⟨k2, h2⟩ := anyx_all r fun y hy => h y (List.mem_cons_of_mem _ hy)
    refine ⟨max k1 k2, fun z hz => ?_⟩
    rcases List.mem_cons.mp hz with rfl | hz
    · exact h1.up (Nat.le_max_left ..)
    · exact (h2 z hz).up (Nat.le_max_right ..)
theorem AnyX.mkL {n : Nat} {xs : List D} (hl : xs.length ≤ 1000) (h : ∀ x ∈ xs, AnyX n x) : AnyX n (.lst xs) := (anyx_all xs h).elim fun k h => ⟨k + 1, .lst hl h⟩
/-- the truth of a claim -/
noncomputable def tf (G : Prop) : Bool := @decide G (Classical.propDecidable G)
theorem tf_iff {G : Prop} : tf G = true ↔ G := by unfold tf; exact @decide_eq_true_iff G (Classical.propDecidable G)
theorem tf_yes {G : Prop} (h : G) : tf G = true := tf_iff.mpr h
theorem tf_no {G : Prop} (h : ¬ G) : tf G = false := by
  cases e : tf G with
  | false => rfl
  | true => exact absurd (tf_iff.mp e) h
theorem tf_f {G : Prop} {ms : MS} {Q : D → MS → Prop} (h : Q (.bl (tf G)) ms) (n : ¬ G) : Q (.bl false) ms := tf_no n ▸ h
theorem tf_t {G : Prop} {ms : MS} {Q : D → MS → Prop} (h : Q (.bl (tf G)) ms) (n : G) : Q (.bl true) ms := tf_yes n ▸ h
theorem tf_e {G : Prop} {ms : MS} {Q : D → MS → Prop} {b : Bool} (h : Q (.bl (tf G)) ms) (e : b = true ↔ G) : Q (.bl b) ms := by
  have : b = tf G := by rw [Bool.eq_iff_iff, tf_iff]; exact e
  rw [this]; exact h
/-- row numbers -/
def natL (is : List Nat) : List D := is.map fun (k : Nat) => D.int (k : Int)
theorem natL_inj : ∀ {is js : List Nat}, natL is = natL js → is = js
  | [], [], _ => rfl
  | [], _ :: _, h => by cases h
  | _ :: _, [], h => by cases h
  | s :: ss, t :: ts, h => by
    have h : D.int (s : Int) :: natL ss = D.int (t : Int) :: natL ts := h
    injection h with h1 h2
    injection h1 with h1
    rw [natL_inj h2, Int.ofNat_inj.mp h1]
theorem zipD_mp {α β : Type} (f : α → D) (g : β → D) : ∀ (as : List α) (bs : List β), zipD (as.map f) (bs.map g) = (as.zip bs).map fun p => .tup [f p.1, g p.2]
  | [], _ => rfl
  | _ :: _, [] => rfl
  | a :: as, b :: bs => by
    rw [List.map_cons, List.map_cons, List.zip_cons_cons, List.map_cons, ← zipD_mp f g as bs]
    rfl
theorem zipD_m1 {α : Type} (f : α → D) (as : List α) (bs : List D) : zipD (as.map f) bs = (as.zip bs).map fun p => .tup [f p.1, p.2] := by
  have := zipD_mp f (fun x : D => x) as bs
  rw [List.map_id'] at this
  exact this
theorem tfs_all {α : Type} (G : α → Prop) : ∀ xs : List α, (xs.all fun x => tf (G x)) = true ↔ ∀ x ∈ xs, G x
  | [] => ⟨fun _ x h => (by cases h), fun _ => rfl⟩
  | x :: r => by
    rw [List.all_cons, Bool.and_eq_true_iff, tf_iff, tfs_all G r]
    exact ⟨fun h y hy => (List.mem_cons.mp hy).elim (fun e => e ▸ h.1) (h.2 y), fun h => ⟨h x List.mem_cons_self, fun y hy => h y (List.mem_cons_of_mem _ hy)⟩⟩
theorem all_id {α : Type} (f : α → Bool) (xs : List α) : (xs.map f).all id = xs.all f := by rw [List.all_map]; rfl
local macro_rules | `(tactic| walk_at "s1") => `(tactic| (with_reducible refine w_mRevL ?_))
local macro_rules | `(tactic| walk_at "s1.ExG") => `(tactic| (with_reducible refine w_revL ?_))
theorem loop_allD {g : DG} {tb : DTS} {E : EN} {ms : MS} (ok : D → Bool) (I : DS → Prop) (xs : List D) (ds : DS) (h : I ds)
    (t : ∀ x ∈ xs, ∀ ds, I ds → ∀ G : DS → MS → Prop, (ok x = true → ∀ ds', I ds' → G ds' ms) → (ok x = false → E.rt (.bl false) ms) → g x ds fun ds1 => tb (EN.lp E G) ds1 ms)
    (q : xs.all ok = true → ∀ ds, I ds → E.nx ds ms) (q2 : xs.all ok = false → E.rt (.bl false) ms) : loopD g tb E xs ds ms := by
  have := loop_all (g := g) (tb := tb) (E := E) (ms := ms) (fun x : D => x) ok I xs ds h t q q2
  rwa [List.map_id'] at this
def topS (i : Nat) : Stmt := PySem.Challenge.pw_downweigh_k43_ranks_looked_at.main.body.getD i (.Pass ⟨0, 0, 0, 0⟩)
abbrev s_p_is_whole : Stmt := topS 6
theorem sc_p_is_whole : FnScope ["thing"] ["thing"] (defScope s_p_is_whole) :=
  ⟨rfl, rfl, rfl, by decide +kernel, rfl, by decide +kernel, by decide +kernel⟩
abbrev s_p_common : Stmt := topS 7
theorem sc_p_common : FnScope ["one", "other"] ["one", "other"] (defScope s_p_common) :=
  ⟨rfl, rfl, rfl, by decide +kernel, rfl, by decide +kernel, by decide +kernel⟩
abbrev s_p_is_fraction : Stmt := topS 8
theorem sc_p_is_fraction : FnScope ["thing", "top", "bottom"] ["thing"] (defScope s_p_is_fraction) :=
  ⟨rfl, rfl, rfl, by decide +kernel, rfl, by decide +kernel, by decide +kernel⟩
abbrev s_p_lowest : Stmt := topS 9
theorem sc_p_lowest : FnScope ["top", "bottom", "shared"] ["top", "bottom"] (defScope s_p_lowest) :=
  ⟨rfl, rfl, rfl, by decide +kernel, rfl, by decide +kernel, by decide +kernel⟩
abbrev s_p_plus : Stmt := topS 10
theorem sc_p_plus : FnScope ["one", "other"] ["one", "other"] (defScope s_p_plus) :=
  ⟨rfl, rfl, rfl, by decide +kernel, rfl, by decide +kernel, by decide +kernel⟩
abbrev s_p_times : Stmt := topS 11
theorem sc_p_times : FnScope ["one", "other"] ["one", "other"] (defScope s_p_times) :=
  ⟨rfl, rfl, rfl, by decide +kernel, rfl, by decide +kernel, by decide +kernel⟩
abbrev s_p_is_below : Stmt := topS 12
theorem sc_p_is_below : FnScope ["one", "other"] ["one", "other"] (defScope s_p_is_below) :=
  ⟨rfl, rfl, rfl, by decide +kernel, rfl, by decide +kernel, by decide +kernel⟩
abbrev s_p_is_one_of : Stmt := topS 14
theorem sc_p_is_one_of : FnScope ["many", "thing"] ["many", "thing"] (defScope s_p_is_one_of) :=
  ⟨rfl, rfl, rfl, by decide +kernel, rfl, by decide +kernel, by decide +kernel⟩
abbrev s_p_is_rising : Stmt := topS 15
theorem sc_p_is_rising : FnScope ["many", "thing", "one", "other", "at"] ["many", "thing"] (defScope s_p_is_rising) :=
  ⟨rfl, rfl, rfl, by decide +kernel, rfl, by decide +kernel, by decide +kernel⟩
abbrev s_p_look_at_many : Stmt := topS 20
theorem sc_p_look_at_many : FnScope ["many"] ["many"] (defScope s_p_look_at_many) :=
  ⟨rfl, rfl, rfl, by decide +kernel, rfl, by decide +kernel, by decide +kernel⟩
abbrev s_p_is_line : Stmt := topS 21
theorem sc_p_is_line : FnScope ["many", "thing", "part"] ["many", "thing"] (defScope s_p_is_line) :=
  ⟨rfl, rfl, rfl, by decide +kernel, rfl, by decide +kernel, by decide +kernel⟩
abbrev s_p_is_wish : Stmt := topS 22
theorem sc_p_is_wish : FnScope ["many", "thing", "word", "line"] ["many", "thing"] (defScope s_p_is_wish) :=
  ⟨rfl, rfl, rfl, by decide +kernel, rfl, by decide +kernel, by decide +kernel⟩
abbrev s_p_is_shares : Stmt := topS 24
theorem sc_p_is_shares : FnScope ["wishes", "thing", "share", "word", "line"] ["wishes", "thing"] (defScope s_p_is_shares) :=
  ⟨rfl, rfl, rfl, by decide +kernel, rfl, by decide +kernel, by decide +kernel⟩
abbrev s_p_added_over : Stmt := topS 25
theorem sc_p_added_over : FnScope ["wishes", "shares", "width", "total", "word", "line", "share", "place", "sofar", "number"] ["wishes", "shares", "width"] (defScope s_p_added_over) :=
  ⟨rfl, rfl, rfl, by decide +kernel, rfl, by decide +kernel, by decide +kernel⟩
abbrev s_p_carries : Stmt := topS 26
theorem sc_p_carries : FnScope ["wishes", "line", "thing", "total", "factor"] ["wishes", "line", "thing"] (defScope s_p_carries) :=
  ⟨rfl, rfl, rfl, by decide +kernel, rfl, by decide +kernel, by decide +kernel⟩
abbrev s_p_minus_one : Stmt := topS 28
theorem sc_p_minus_one : FnScope ["many"] ["many"] (defScope s_p_minus_one) :=
  ⟨rfl, rfl, rfl, by decide +kernel, rfl, by decide +kernel, by decide +kernel⟩
abbrev s_p_is_letters : Stmt := topS 36
theorem sc_p_is_letters : FnScope ["thing", "most", "sign"] ["thing", "most"] (defScope s_p_is_letters) :=
  ⟨rfl, rfl, rfl, by decide +kernel, rfl, by decide +kernel, by decide +kernel⟩
abbrev s_p_is_name : Stmt := topS 37
theorem sc_p_is_name : FnScope ["thing"] ["thing"] (defScope s_p_is_name) :=
  ⟨rfl, rfl, rfl, by decide +kernel, rfl, by decide +kernel, by decide +kernel⟩
abbrev s_p_look_at_names : Stmt := topS 38
theorem sc_p_look_at_names : FnScope ["part", "thing", "most", "at", "name"] ["part", "thing", "most"] (defScope s_p_look_at_names) :=
  ⟨rfl, rfl, rfl, by decide +kernel, rfl, by decide +kernel, by decide +kernel⟩
abbrev s_p_is_wishes : Stmt := topS 39
theorem sc_p_is_wishes : FnScope ["many", "thing", "wish"] ["many", "thing"] (defScope s_p_is_wishes) :=
  ⟨rfl, rfl, rfl, by decide +kernel, rfl, by decide +kernel, by decide +kernel⟩
abbrev s_p_is_row : Stmt := topS 40
theorem sc_p_is_row : FnScope ["names", "places", "thing", "start", "to", "wishes"] ["names", "places", "thing"] (defScope s_p_is_row) :=
  ⟨rfl, rfl, rfl, by decide +kernel, rfl, by decide +kernel, by decide +kernel⟩
abbrev s_p_look_at_rows : Stmt := topS 41
theorem sc_p_look_at_rows : FnScope ["names", "places", "thing", "at", "row"] ["names", "places", "thing"] (defScope s_p_look_at_rows) :=
  ⟨rfl, rfl, rfl, by decide +kernel, rfl, by decide +kernel, by decide +kernel⟩
abbrev s_p_look_at : Stmt := topS 42
theorem sc_p_look_at : FnScope ["thing", "names", "places", "rows"] ["thing"] (defScope s_p_look_at) :=
  ⟨rfl, rfl, rfl, by decide +kernel, rfl, by decide +kernel, by decide +kernel⟩
abbrev s_p_line_ahead : Stmt := topS 44
theorem sc_p_line_ahead : FnScope ["line"] ["line"] (defScope s_p_line_ahead) :=
  ⟨rfl, rfl, rfl, by decide +kernel, rfl, by decide +kernel, by decide +kernel⟩
abbrev s_p_line_behind : Stmt := topS 45
theorem sc_p_line_behind : FnScope ["line"] ["line"] (defScope s_p_line_behind) :=
  ⟨rfl, rfl, rfl, by decide +kernel, rfl, by decide +kernel, by decide +kernel⟩
abbrev s_p_is_weighing : Stmt := topS 47
theorem sc_p_is_weighing : FnScope ["program", "thing", "names", "places", "rows", "line"] ["program", "thing"] (defScope s_p_is_weighing) :=
  ⟨rfl, rfl, rfl, by decide +kernel, rfl, by decide +kernel, by decide +kernel⟩
abbrev s_p_rise_by : Stmt := topS 48
theorem sc_p_rise_by : FnScope ["row", "weighing", "start", "to", "wishes", "ahead", "more", "less"] ["row", "weighing"] (defScope s_p_rise_by) :=
  ⟨rfl, rfl, rfl, by decide +kernel, rfl, by decide +kernel, by decide +kernel⟩
abbrev s_p_fall_by : Stmt := topS 49
theorem sc_p_fall_by : FnScope ["row", "weighing", "number"] ["row", "weighing"] (defScope s_p_fall_by) :=
  ⟨rfl, rfl, rfl, by decide +kernel, rfl, by decide +kernel, by decide +kernel⟩
abbrev s_p_rows_that_go : Stmt := topS 51
theorem sc_p_rows_that_go : FnScope ["program", "thing", "names", "places", "rows", "still", "row", "shares", "one"] ["program", "thing"] (defScope s_p_rows_that_go) :=
  ⟨rfl, rfl, rfl, by decide +kernel, rfl, by decide +kernel, by decide +kernel⟩
abbrev s_p_fall_asked : Stmt := topS 52
theorem sc_p_fall_asked : FnScope ["way", "weighing", "falls", "line"] ["way", "weighing", "falls"] (defScope s_p_fall_asked) :=
  ⟨rfl, rfl, rfl, by decide +kernel, rfl, by decide +kernel, by decide +kernel⟩
abbrev s_p_lets_entry : Stmt := topS 53
theorem sc_p_lets_entry : FnScope ["program", "weighing", "row", "thing", "number", "falls", "fall", "bound", "way"] ["program", "weighing", "row", "thing"] (defScope s_p_lets_entry) :=
  ⟨rfl, rfl, rfl, by decide +kernel, rfl, by decide +kernel, by decide +kernel⟩
abbrev s_p_left_behind : Stmt := topS 54
theorem sc_p_left_behind : FnScope ["program", "left", "thing", "weighing", "entries", "row", "entry"] ["program", "left", "thing"] (defScope s_p_left_behind) :=
  ⟨rfl, rfl, rfl, by decide +kernel, rfl, by decide +kernel, by decide +kernel⟩
abbrev s_p_left_by : Stmt := topS 55
theorem sc_p_left_by : FnScope ["program", "never", "ranks", "left", "rank"] ["program", "never", "ranks"] (defScope s_p_left_by) :=
  ⟨rfl, rfl, rfl, by decide +kernel, rfl, by decide +kernel, by decide +kernel⟩
abbrev s_p_lets_ranks : Stmt := topS 56
theorem sc_p_lets_ranks : FnScope ["program", "never", "ranks"] ["program", "never", "ranks"] (defScope s_p_lets_ranks) :=
  ⟨rfl, rfl, rfl, by decide +kernel, rfl, by decide +kernel, by decide +kernel⟩
abbrev s_L_pool : Stmt := topS 58
theorem sc_L_pool : FnScope ["_law_script", "_law_k", "_law_cell", "_law_seed"] ["_law_script", "_law_k"] (defScope s_L_pool) :=
  ⟨rfl, rfl, rfl, by decide +kernel, rfl, by decide +kernel, by decide +kernel⟩
abbrev s_L_take : Stmt := topS 59
theorem sc_L_take : FnScope ["_law_pool_here", "_law_many", "_law_digit"] ["_law_pool_here", "_law_many"] (defScope s_L_take) :=
  ⟨rfl, rfl, rfl, by decide +kernel, rfl, by decide +kernel, by decide +kernel⟩
abbrev s_L_line : Stmt := topS 60
theorem sc_L_line : FnScope ["_law_pool_here", "_law_many", "_law_far", "_law_k"] ["_law_pool_here", "_law_many", "_law_far"] (defScope s_L_line) :=
  ⟨rfl, rfl, rfl, by decide +kernel, rfl, by decide +kernel, by decide +kernel⟩
abbrev s_L_fall : Stmt := topS 61
theorem sc_L_fall : FnScope ["_law_table", "_law_row_here", "_law_start", "_law_to", "_law_wishes", "_law_many", "_law_line_here", "_law_k"] ["_law_table", "_law_row_here"] (defScope s_L_fall) :=
  ⟨rfl, rfl, rfl, by decide +kernel, rfl, by decide +kernel, by decide +kernel⟩
abbrev s_L_low : Stmt := topS 62
theorem sc_L_low : FnScope ["_law_top", "_law_bottom", "_law_one", "_law_two"] ["_law_top", "_law_bottom"] (defScope s_L_low) :=
  ⟨rfl, rfl, rfl, by decide +kernel, rfl, by decide +kernel, by decide +kernel⟩
abbrev s_L_shown_wish : Stmt := topS 63
theorem sc_L_shown_wish : FnScope ["_law_pool_here", "_law_line_here", "_law_spare", "_law_below", "_law_by", "_law_more", "_law_slack", "_law_found", "_law_number", "_law_other"] ["_law_pool_here", "_law_line_here", "_law_spare", "_law_below"] (defScope s_L_shown_wish) :=
  ⟨rfl, rfl, rfl, by decide +kernel, rfl, by decide +kernel, by decide +kernel⟩
abbrev s_L_ranked : Stmt := topS 64
theorem sc_L_ranked : FnScope ["_law_pool_here", "_law_most", "_law_places", "_law_rows", "_law_ranks", "_law_size", "_law_many", "_law_turn", "_law_tables", "_law_some", "_law_told", "_law_start", "_law_to", "_law_rank", "_law_spare", "_law_word", "_law_wishes", "_law_shares", "_law_k", "_law_aim", "_law_line_here", "_law_found", "_law_share", "_law_other", "_law_program", "_law_place"] ["_law_pool_here", "_law_most", "_law_places", "_law_rows", "_law_ranks"] (defScope s_L_ranked) :=
  ⟨rfl, rfl, rfl, by decide +kernel, rfl, by decide +kernel, by decide +kernel⟩
abbrev s_L_shares_for : Stmt := topS 65
theorem sc_L_shares_for : FnScope ["_law_wishes", "_law_told", "_law_at", "_law_share", "_law_other", "_law_found"] ["_law_wishes", "_law_told"] (defScope s_L_shares_for) :=
  ⟨rfl, rfl, rfl, by decide +kernel, rfl, by decide +kernel, by decide +kernel⟩
abbrev s_L_paper : Stmt := topS 66
theorem sc_L_paper : FnScope ["_law_program", "_law_tables", "_law_told", "_law_left_here", "_law_found", "_law_k", "_law_table", "_law_entries", "_law_row_here", "_law_rank", "_law_shares", "_law_wishes", "_law_lost", "_law_line_here"] ["_law_program", "_law_tables", "_law_told"] (defScope s_L_paper) :=
  ⟨rfl, rfl, rfl, by decide +kernel, rfl, by decide +kernel, by decide +kernel⟩
abbrev s_L_is_whole : Stmt := topS 67
theorem sc_L_is_whole : FnScope ["_law_thing"] ["_law_thing"] (defScope s_L_is_whole) :=
  ⟨rfl, rfl, rfl, by decide +kernel, rfl, by decide +kernel, by decide +kernel⟩
abbrev s_L_is_fraction : Stmt := topS 68
theorem sc_L_is_fraction : FnScope ["_law_thing", "_law_part"] ["_law_thing"] (defScope s_L_is_fraction) :=
  ⟨rfl, rfl, rfl, by decide +kernel, rfl, by decide +kernel, by decide +kernel⟩
abbrev s_L_are_fractions : Stmt := topS 69
theorem sc_L_are_fractions : FnScope ["_law_many", "_law_thing", "_law_part"] ["_law_many", "_law_thing"] (defScope s_L_are_fractions) :=
  ⟨rfl, rfl, rfl, by decide +kernel, rfl, by decide +kernel, by decide +kernel⟩
abbrev s_L_sum : Stmt := topS 70
theorem sc_L_sum : FnScope ["_law_one", "_law_two"] ["_law_one", "_law_two"] (defScope s_L_sum) :=
  ⟨rfl, rfl, rfl, by decide +kernel, rfl, by decide +kernel, by decide +kernel⟩
abbrev s_L_product : Stmt := topS 71
theorem sc_L_product : FnScope ["_law_one", "_law_two"] ["_law_one", "_law_two"] (defScope s_L_product) :=
  ⟨rfl, rfl, rfl, by decide +kernel, rfl, by decide +kernel, by decide +kernel⟩
abbrev s_L_carried : Stmt := topS 72
theorem sc_L_carried : FnScope ["_law_wishes", "_law_line_here", "_law_thing", "_law_total", "_law_word", "_law_own", "_law_share", "_law_rest", "_law_part", "_law_number"] ["_law_wishes", "_law_line_here", "_law_thing"] (defScope s_L_carried) :=
  ⟨rfl, rfl, rfl, by decide +kernel, rfl, by decide +kernel, by decide +kernel⟩
abbrev s_L_never_right : Stmt := topS 73
theorem sc_L_never_right : FnScope ["_law_program", "_law_never", "_law_last", "_law_one"] ["_law_program", "_law_never"] (defScope s_L_never_right) :=
  ⟨rfl, rfl, rfl, by decide +kernel, rfl, by decide +kernel, by decide +kernel⟩
abbrev s_L_is_table : Stmt := topS 74
theorem sc_L_is_table : FnScope ["_law_program", "_law_thing", "_law_line_here", "_law_number"] ["_law_program", "_law_thing"] (defScope s_L_is_table) :=
  ⟨rfl, rfl, rfl, by decide +kernel, rfl, by decide +kernel, by decide +kernel⟩
abbrev s_L_entry_right : Stmt := topS 75
theorem sc_L_entry_right : FnScope ["_law_program", "_law_table", "_law_row_here", "_law_entry", "_law_start", "_law_to", "_law_wishes", "_law_aim"] ["_law_program", "_law_table", "_law_row_here", "_law_entry"] (defScope s_L_entry_right) :=
  ⟨rfl, rfl, rfl, by decide +kernel, rfl, by decide +kernel, by decide +kernel⟩
abbrev s_L_left : Stmt := topS 76
theorem sc_L_left : FnScope ["_law_program", "_law_never", "_law_ranks", "_law_shut_here", "_law_row_here", "_law_left_here", "_law_rank", "_law_entry", "_law_one"] ["_law_program", "_law_never", "_law_ranks"] (defScope s_L_left) :=
  ⟨rfl, rfl, rfl, by decide +kernel, rfl, by decide +kernel, by decide +kernel⟩
abbrev s_L_odd : Stmt := topS 77
theorem sc_L_odd : FnScope ["_law_pool_here", "_law_part", "_law_some"] ["_law_pool_here", "_law_part"] (defScope s_L_odd) :=
  ⟨rfl, rfl, rfl, by decide +kernel, rfl, by decide +kernel, by decide +kernel⟩
abbrev s_L_put : Stmt := topS 78
theorem sc_L_put : FnScope ["_law_pool_here", "_law_thing", "_law_at", "_law_way"] ["_law_pool_here", "_law_thing"] (defScope s_L_put) :=
  ⟨rfl, rfl, rfl, by decide +kernel, rfl, by decide +kernel, by decide +kernel⟩
abbrev s_L_row : Stmt := topS 80
theorem sc_L_row : FnScope ["_law_pool_here", "_law_size", "_law_places", "_law_start", "_law_to", "_law_wishes", "_law_way", "_law_turn", "_law_number", "_law_kind", "_law_line_here", "_law_source"] ["_law_pool_here", "_law_size", "_law_places"] (defScope s_L_row) :=
  ⟨rfl, rfl, rfl, by decide +kernel, rfl, by decide +kernel, by decide +kernel⟩
abbrev s_L_shut : Stmt := topS 81
theorem sc_L_shut : FnScope ["_law_pool_here", "_law_size", "_law_row_here", "_law_start", "_law_to", "_law_wishes", "_law_total", "_law_shares", "_law_word", "_law_line_here", "_law_share", "_law_by", "_law_last", "_law_at", "_law_found", "_law_scaled", "_law_number", "_law_one"] ["_law_pool_here", "_law_size", "_law_row_here"] (defScope s_L_shut) :=
  ⟨rfl, rfl, rfl, by decide +kernel, rfl, by decide +kernel, by decide +kernel⟩
abbrev s_L_right : Stmt := topS 82
theorem sc_L_right : FnScope ["_law_program", "_law_never", "_law_ranks", "_law_kept", "_law_due", "_law_found"] ["_law_program", "_law_never", "_law_ranks"] (defScope s_L_right) :=
  ⟨rfl, rfl, rfl, by decide +kernel, rfl, by decide +kernel, by decide +kernel⟩
abbrev s_L_law : Stmt := topS 83
theorem sc_L_law : FnScope ["_law_script", "_law_k", "_law_pool_here", "_law_size", "_law_program", "_law_tables", "_law_told", "_law_ranks", "_law_never", "_law_row_here", "_law_shares", "_law_some", "_law_still", "_law_thing", "_law_other", "_law_falls", "_law_lost", "_law_bound", "_law_turn"] ["_law_script"] (defScope s_L_law) :=
  ⟨rfl, rfl, rfl, by decide +kernel, rfl, by decide +kernel, by decide +kernel⟩
local macro_rules | `(tactic| walk_at "lk") => `(tactic| simp only [Option.isSome_some, true_and])
def k_NOUGHT : D := .tup [.int 0, .int 1]
structure Tx (P : Program) (K : PySem.W.Frag) (mg : Str → Option Value) where
  n_abs : mg "abs" = none
  n_all : mg "all" = none
  n_bool : mg "bool" = none
  n_enumerate : mg "enumerate" = none
  n_int : mg "int" = none
  n_isinstance : mg "isinstance" = none
  n_len : mg "len" = none
  n_list : mg "list" = none
  n_max : mg "max" = none
  n_min : mg "min" = none
  n_range : mg "range" = none
  n_repr : mg "repr" = none
  n_str : mg "str" = none
  n_tuple : mg "tuple" = none
  n_zip : mg "zip" = none
  u_JUST : Tok
  c_JUST : mg "JUST" = some (.str "just" u_JUST)
  u_LEAST : Tok
  c_LEAST : mg "LEAST" = some (.str "least" u_LEAST)
  u_LETTERS : Tok
  c_LETTERS : mg "LETTERS" = some (.str "abcdefghijklmnopqrstuvwxyz" u_LETTERS)
  u_LONGEST_NAME : Tok
  c_LONGEST_NAME : mg "LONGEST_NAME" = some (.int (6) u_LONGEST_NAME)
  u_MOST_NAMES : Tok
  c_MOST_NAMES : mg "MOST_NAMES" = some (.int (3) u_MOST_NAMES)
  u_MOST_NUMBERS : Tok
  c_MOST_NUMBERS : mg "MOST_NUMBERS" = some (.int (8) u_MOST_NUMBERS)
  u_MOST_PLACES : Tok
  c_MOST_PLACES : mg "MOST_PLACES" = some (.int (6) u_MOST_PLACES)
  u_MOST_ROWS : Tok
  c_MOST_ROWS : mg "MOST_ROWS" = some (.int (10) u_MOST_ROWS)
  u_MOST_WISHES : Tok
  c_MOST_WISHES : mg "MOST_WISHES" = some (.int (12) u_MOST_WISHES)
  a_NOUGHT : Addr
  c_NOUGHT : mg "NOUGHT" = some (.ref a_NOUGHT)
  k_NOUGHT : ∀ F, DR K F (.ref a_NOUGHT) k_NOUGHT
  f_p_is_whole : Addr
  d_p_is_whole : FuncData
  F_p_is_whole : Fun K "is_whole" "is_whole" s_p_is_whole f_p_is_whole d_p_is_whole
  g_p_is_whole : mg "is_whole" = some (.ref f_p_is_whole)
  f_p_common : Addr
  d_p_common : FuncData
  F_p_common : Fun K "common" "common" s_p_common f_p_common d_p_common
  g_p_common : mg "common" = some (.ref f_p_common)
  f_p_is_fraction : Addr
  d_p_is_fraction : FuncData
  F_p_is_fraction : Fun K "is_fraction" "is_fraction" s_p_is_fraction f_p_is_fraction d_p_is_fraction
  g_p_is_fraction : mg "is_fraction" = some (.ref f_p_is_fraction)
  f_p_lowest : Addr
  d_p_lowest : FuncData
  F_p_lowest : Fun K "lowest" "lowest" s_p_lowest f_p_lowest d_p_lowest
  g_p_lowest : mg "lowest" = some (.ref f_p_lowest)
  f_p_plus : Addr
  d_p_plus : FuncData
  F_p_plus : Fun K "plus" "plus" s_p_plus f_p_plus d_p_plus
  g_p_plus : mg "plus" = some (.ref f_p_plus)
  f_p_times : Addr
  d_p_times : FuncData
  F_p_times : Fun K "times" "times" s_p_times f_p_times d_p_times
  g_p_times : mg "times" = some (.ref f_p_times)
  f_p_is_below : Addr
  d_p_is_below : FuncData
  F_p_is_below : Fun K "is_below" "is_below" s_p_is_below f_p_is_below d_p_is_below
  g_p_is_below : mg "is_below" = some (.ref f_p_is_below)
  f_p_is_one_of : Addr
  d_p_is_one_of : FuncData
  F_p_is_one_of : Fun K "is_one_of" "is_one_of" s_p_is_one_of f_p_is_one_of d_p_is_one_of
  g_p_is_one_of : mg "is_one_of" = some (.ref f_p_is_one_of)
  f_p_is_rising : Addr
  d_p_is_rising : FuncData
  F_p_is_rising : Fun K "is_rising" "is_rising" s_p_is_rising f_p_is_rising d_p_is_rising
  g_p_is_rising : mg "is_rising" = some (.ref f_p_is_rising)
  f_p_look_at_many : Addr
  d_p_look_at_many : FuncData
  F_p_look_at_many : Fun K "look_at_many" "look_at_many" s_p_look_at_many f_p_look_at_many d_p_look_at_many
  g_p_look_at_many : mg "look_at_many" = some (.ref f_p_look_at_many)
  f_p_is_line : Addr
  d_p_is_line : FuncData
  F_p_is_line : Fun K "is_line" "is_line" s_p_is_line f_p_is_line d_p_is_line
  g_p_is_line : mg "is_line" = some (.ref f_p_is_line)
  f_p_is_wish : Addr
  d_p_is_wish : FuncData
  F_p_is_wish : Fun K "is_wish" "is_wish" s_p_is_wish f_p_is_wish d_p_is_wish
  g_p_is_wish : mg "is_wish" = some (.ref f_p_is_wish)
  f_p_is_shares : Addr
  d_p_is_shares : FuncData
  F_p_is_shares : Fun K "is_shares" "is_shares" s_p_is_shares f_p_is_shares d_p_is_shares
  g_p_is_shares : mg "is_shares" = some (.ref f_p_is_shares)
  f_p_added_over : Addr
  d_p_added_over : FuncData
  F_p_added_over : Fun K "added_over" "added_over" s_p_added_over f_p_added_over d_p_added_over
  g_p_added_over : mg "added_over" = some (.ref f_p_added_over)
  f_p_carries : Addr
  d_p_carries : FuncData
  F_p_carries : Fun K "carries" "carries" s_p_carries f_p_carries d_p_carries
  g_p_carries : mg "carries" = some (.ref f_p_carries)
  f_p_minus_one : Addr
  d_p_minus_one : FuncData
  F_p_minus_one : Fun K "minus_one" "minus_one" s_p_minus_one f_p_minus_one d_p_minus_one
  g_p_minus_one : mg "minus_one" = some (.ref f_p_minus_one)
  f_p_is_letters : Addr
  d_p_is_letters : FuncData
  F_p_is_letters : Fun K "is_letters" "is_letters" s_p_is_letters f_p_is_letters d_p_is_letters
  g_p_is_letters : mg "is_letters" = some (.ref f_p_is_letters)
  f_p_is_name : Addr
  d_p_is_name : FuncData
  F_p_is_name : Fun K "is_name" "is_name" s_p_is_name f_p_is_name d_p_is_name
  g_p_is_name : mg "is_name" = some (.ref f_p_is_name)
  f_p_look_at_names : Addr
  d_p_look_at_names : FuncData
  F_p_look_at_names : Fun K "look_at_names" "look_at_names" s_p_look_at_names f_p_look_at_names d_p_look_at_names
  g_p_look_at_names : mg "look_at_names" = some (.ref f_p_look_at_names)
  f_p_is_wishes : Addr
  d_p_is_wishes : FuncData
  F_p_is_wishes : Fun K "is_wishes" "is_wishes" s_p_is_wishes f_p_is_wishes d_p_is_wishes
  g_p_is_wishes : mg "is_wishes" = some (.ref f_p_is_wishes)
  f_p_is_row : Addr
  d_p_is_row : FuncData
  F_p_is_row : Fun K "is_row" "is_row" s_p_is_row f_p_is_row d_p_is_row
  g_p_is_row : mg "is_row" = some (.ref f_p_is_row)
  f_p_look_at_rows : Addr
  d_p_look_at_rows : FuncData
  F_p_look_at_rows : Fun K "look_at_rows" "look_at_rows" s_p_look_at_rows f_p_look_at_rows d_p_look_at_rows
  g_p_look_at_rows : mg "look_at_rows" = some (.ref f_p_look_at_rows)
  f_p_look_at : Addr
  d_p_look_at : FuncData
  F_p_look_at : Fun K "look_at" "look_at" s_p_look_at f_p_look_at d_p_look_at
  g_p_look_at : mg "look_at" = some (.ref f_p_look_at)
  f_p_line_ahead : Addr
  d_p_line_ahead : FuncData
  F_p_line_ahead : Fun K "line_ahead" "line_ahead" s_p_line_ahead f_p_line_ahead d_p_line_ahead
  g_p_line_ahead : mg "line_ahead" = some (.ref f_p_line_ahead)
  f_p_line_behind : Addr
  d_p_line_behind : FuncData
  F_p_line_behind : Fun K "line_behind" "line_behind" s_p_line_behind f_p_line_behind d_p_line_behind
  g_p_line_behind : mg "line_behind" = some (.ref f_p_line_behind)
  f_p_is_weighing : Addr
  d_p_is_weighing : FuncData
  F_p_is_weighing : Fun K "is_weighing" "is_weighing" s_p_is_weighing f_p_is_weighing d_p_is_weighing
  g_p_is_weighing : mg "is_weighing" = some (.ref f_p_is_weighing)
  f_p_rise_by : Addr
  d_p_rise_by : FuncData
  F_p_rise_by : Fun K "rise_by" "rise_by" s_p_rise_by f_p_rise_by d_p_rise_by
  g_p_rise_by : mg "rise_by" = some (.ref f_p_rise_by)
  f_p_fall_by : Addr
  d_p_fall_by : FuncData
  F_p_fall_by : Fun K "fall_by" "fall_by" s_p_fall_by f_p_fall_by d_p_fall_by
  g_p_fall_by : mg "fall_by" = some (.ref f_p_fall_by)
  f_p_rows_that_go : Addr
  d_p_rows_that_go : FuncData
  F_p_rows_that_go : Fun K "rows_that_go" "rows_that_go" s_p_rows_that_go f_p_rows_that_go d_p_rows_that_go
  g_p_rows_that_go : mg "rows_that_go" = some (.ref f_p_rows_that_go)
  f_p_fall_asked : Addr
  d_p_fall_asked : FuncData
  F_p_fall_asked : Fun K "fall_asked" "fall_asked" s_p_fall_asked f_p_fall_asked d_p_fall_asked
  g_p_fall_asked : mg "fall_asked" = some (.ref f_p_fall_asked)
  f_p_lets_entry : Addr
  d_p_lets_entry : FuncData
  F_p_lets_entry : Fun K "lets_entry" "lets_entry" s_p_lets_entry f_p_lets_entry d_p_lets_entry
  g_p_lets_entry : mg "lets_entry" = some (.ref f_p_lets_entry)
  f_p_left_behind : Addr
  d_p_left_behind : FuncData
  F_p_left_behind : Fun K "left_behind" "left_behind" s_p_left_behind f_p_left_behind d_p_left_behind
  g_p_left_behind : mg "left_behind" = some (.ref f_p_left_behind)
  f_p_left_by : Addr
  d_p_left_by : FuncData
  F_p_left_by : Fun K "left_by" "left_by" s_p_left_by f_p_left_by d_p_left_by
  g_p_left_by : mg "left_by" = some (.ref f_p_left_by)
  f_p_lets_ranks : Addr
  d_p_lets_ranks : FuncData
  F_p_lets_ranks : Fun K "lets_ranks" "lets_ranks" s_p_lets_ranks f_p_lets_ranks d_p_lets_ranks
  g_p_lets_ranks : mg "lets_ranks" = some (.ref f_p_lets_ranks)
  f_L_pool : Addr
  d_L_pool : FuncData
  F_L_pool : Fun K "_law_pool" "_law_pool" s_L_pool f_L_pool d_L_pool
  g_L_pool : mg "_law_pool" = some (.ref f_L_pool)
  f_L_take : Addr
  d_L_take : FuncData
  F_L_take : Fun K "_law_take" "_law_take" s_L_take f_L_take d_L_take
  g_L_take : mg "_law_take" = some (.ref f_L_take)
  f_L_line : Addr
  d_L_line : FuncData
  F_L_line : Fun K "_law_line" "_law_line" s_L_line f_L_line d_L_line
  g_L_line : mg "_law_line" = some (.ref f_L_line)
  f_L_fall : Addr
  d_L_fall : FuncData
  F_L_fall : Fun K "_law_fall" "_law_fall" s_L_fall f_L_fall d_L_fall
  g_L_fall : mg "_law_fall" = some (.ref f_L_fall)
  f_L_low : Addr
  d_L_low : FuncData
  F_L_low : Fun K "_law_low" "_law_low" s_L_low f_L_low d_L_low
  g_L_low : mg "_law_low" = some (.ref f_L_low)
  f_L_shown_wish : Addr
  d_L_shown_wish : FuncData
  F_L_shown_wish : Fun K "_law_shown_wish" "_law_shown_wish" s_L_shown_wish f_L_shown_wish d_L_shown_wish
  g_L_shown_wish : mg "_law_shown_wish" = some (.ref f_L_shown_wish)
  f_L_ranked : Addr
  d_L_ranked : FuncData
  F_L_ranked : Fun K "_law_ranked" "_law_ranked" s_L_ranked f_L_ranked d_L_ranked
  g_L_ranked : mg "_law_ranked" = some (.ref f_L_ranked)
  f_L_shares_for : Addr
  d_L_shares_for : FuncData
  F_L_shares_for : Fun K "_law_shares_for" "_law_shares_for" s_L_shares_for f_L_shares_for d_L_shares_for
  g_L_shares_for : mg "_law_shares_for" = some (.ref f_L_shares_for)
  f_L_paper : Addr
  d_L_paper : FuncData
  F_L_paper : Fun K "_law_paper" "_law_paper" s_L_paper f_L_paper d_L_paper
  g_L_paper : mg "_law_paper" = some (.ref f_L_paper)
  f_L_is_whole : Addr
  d_L_is_whole : FuncData
  F_L_is_whole : Fun K "_law_is_whole" "_law_is_whole" s_L_is_whole f_L_is_whole d_L_is_whole
  g_L_is_whole : mg "_law_is_whole" = some (.ref f_L_is_whole)
  f_L_is_fraction : Addr
  d_L_is_fraction : FuncData
  F_L_is_fraction : Fun K "_law_is_fraction" "_law_is_fraction" s_L_is_fraction f_L_is_fraction d_L_is_fraction
  g_L_is_fraction : mg "_law_is_fraction" = some (.ref f_L_is_fraction)
  f_L_are_fractions : Addr
  d_L_are_fractions : FuncData
  F_L_are_fractions : Fun K "_law_are_fractions" "_law_are_fractions" s_L_are_fractions f_L_are_fractions d_L_are_fractions
  g_L_are_fractions : mg "_law_are_fractions" = some (.ref f_L_are_fractions)
  f_L_sum : Addr
  d_L_sum : FuncData
  F_L_sum : Fun K "_law_sum" "_law_sum" s_L_sum f_L_sum d_L_sum
  g_L_sum : mg "_law_sum" = some (.ref f_L_sum)
  f_L_product : Addr
  d_L_product : FuncData
  F_L_product : Fun K "_law_product" "_law_product" s_L_product f_L_product d_L_product
  g_L_product : mg "_law_product" = some (.ref f_L_product)
  f_L_carried : Addr
  d_L_carried : FuncData
  F_L_carried : Fun K "_law_carried" "_law_carried" s_L_carried f_L_carried d_L_carried
  g_L_carried : mg "_law_carried" = some (.ref f_L_carried)
  f_L_never_right : Addr
  d_L_never_right : FuncData
  F_L_never_right : Fun K "_law_never_right" "_law_never_right" s_L_never_right f_L_never_right d_L_never_right
  g_L_never_right : mg "_law_never_right" = some (.ref f_L_never_right)
  f_L_is_table : Addr
  d_L_is_table : FuncData
  F_L_is_table : Fun K "_law_is_table" "_law_is_table" s_L_is_table f_L_is_table d_L_is_table
  g_L_is_table : mg "_law_is_table" = some (.ref f_L_is_table)
  f_L_entry_right : Addr
  d_L_entry_right : FuncData
  F_L_entry_right : Fun K "_law_entry_right" "_law_entry_right" s_L_entry_right f_L_entry_right d_L_entry_right
  g_L_entry_right : mg "_law_entry_right" = some (.ref f_L_entry_right)
  f_L_left : Addr
  d_L_left : FuncData
  F_L_left : Fun K "_law_left" "_law_left" s_L_left f_L_left d_L_left
  g_L_left : mg "_law_left" = some (.ref f_L_left)
  f_L_odd : Addr
  d_L_odd : FuncData
  F_L_odd : Fun K "_law_odd" "_law_odd" s_L_odd f_L_odd d_L_odd
  g_L_odd : mg "_law_odd" = some (.ref f_L_odd)
  f_L_put : Addr
  d_L_put : FuncData
  F_L_put : Fun K "_law_put" "_law_put" s_L_put f_L_put d_L_put
  g_L_put : mg "_law_put" = some (.ref f_L_put)
  f_L_row : Addr
  d_L_row : FuncData
  F_L_row : Fun K "_law_row" "_law_row" s_L_row f_L_row d_L_row
  g_L_row : mg "_law_row" = some (.ref f_L_row)
  f_L_shut : Addr
  d_L_shut : FuncData
  F_L_shut : Fun K "_law_shut" "_law_shut" s_L_shut f_L_shut d_L_shut
  g_L_shut : mg "_law_shut" = some (.ref f_L_shut)
  f_L_right : Addr
  d_L_right : FuncData
  F_L_right : Fun K "_law_right" "_law_right" s_L_right f_L_right d_L_right
  g_L_right : mg "_law_right" = some (.ref f_L_right)
  f_L_law : Addr
  d_L_law : FuncData
  F_L_law : Fun K "law" "law" s_L_law f_L_law d_L_law
  g_L_law : mg "law" = some (.ref f_L_law)
  b_L_are_fractions_2 : Bnd K d_L_are_fractions ["_law_many", "_law_thing"] 2 [] [0, 1]
  b_L_carried_3 : Bnd K d_L_carried ["_law_wishes", "_law_line_here", "_law_thing"] 3 [] [0, 1, 2]
  b_L_entry_right_4 : Bnd K d_L_entry_right ["_law_program", "_law_table", "_law_row_here", "_law_entry"] 4 [] [0, 1, 2, 3]
  b_L_fall_2 : Bnd K d_L_fall ["_law_table", "_law_row_here"] 2 [] [0, 1]
  b_L_is_fraction_1 : Bnd K d_L_is_fraction ["_law_thing"] 1 [] [0]
  b_L_is_table_2 : Bnd K d_L_is_table ["_law_program", "_law_thing"] 2 [] [0, 1]
  b_L_is_whole_1 : Bnd K d_L_is_whole ["_law_thing"] 1 [] [0]
  b_L_left_3 : Bnd K d_L_left ["_law_program", "_law_never", "_law_ranks"] 3 [] [0, 1, 2]
  b_L_line_3 : Bnd K d_L_line ["_law_pool_here", "_law_many", "_law_far"] 3 [] [0, 1, 2]
  b_L_low_2 : Bnd K d_L_low ["_law_top", "_law_bottom"] 2 [] [0, 1]
  b_L_never_right_2 : Bnd K d_L_never_right ["_law_program", "_law_never"] 2 [] [0, 1]
  b_L_odd_2 : Bnd K d_L_odd ["_law_pool_here", "_law_part"] 2 [] [0, 1]
  b_L_paper_3 : Bnd K d_L_paper ["_law_program", "_law_tables", "_law_told"] 3 [] [0, 1, 2]
  b_L_pool_2 : Bnd K d_L_pool ["_law_script", "_law_k"] 2 [] [0, 1]
  b_L_product_2 : Bnd K d_L_product ["_law_one", "_law_two"] 2 [] [0, 1]
  b_L_put_2 : Bnd K d_L_put ["_law_pool_here", "_law_thing"] 2 [] [0, 1]
  b_L_ranked_5 : Bnd K d_L_ranked ["_law_pool_here", "_law_most", "_law_places", "_law_rows", "_law_ranks"] 5 [] [0, 1, 2, 3, 4]
  b_L_right_3 : Bnd K d_L_right ["_law_program", "_law_never", "_law_ranks"] 3 [] [0, 1, 2]
  b_L_row_3 : Bnd K d_L_row ["_law_pool_here", "_law_size", "_law_places"] 3 [] [0, 1, 2]
  b_L_shares_for_2 : Bnd K d_L_shares_for ["_law_wishes", "_law_told"] 2 [] [0, 1]
  b_L_shown_wish_4 : Bnd K d_L_shown_wish ["_law_pool_here", "_law_line_here", "_law_spare", "_law_below"] 4 [] [0, 1, 2, 3]
  b_L_shut_3 : Bnd K d_L_shut ["_law_pool_here", "_law_size", "_law_row_here"] 3 [] [0, 1, 2]
  b_L_sum_2 : Bnd K d_L_sum ["_law_one", "_law_two"] 2 [] [0, 1]
  b_L_take_2 : Bnd K d_L_take ["_law_pool_here", "_law_many"] 2 [] [0, 1]
  b_p_added_over_3 : Bnd K d_p_added_over ["wishes", "shares", "width"] 3 [] [0, 1, 2]
  b_p_carries_3 : Bnd K d_p_carries ["wishes", "line", "thing"] 3 [] [0, 1, 2]
  b_p_common_2 : Bnd K d_p_common ["one", "other"] 2 [] [0, 1]
  b_p_fall_asked_3 : Bnd K d_p_fall_asked ["way", "weighing", "falls"] 3 [] [0, 1, 2]
  b_p_fall_by_2 : Bnd K d_p_fall_by ["row", "weighing"] 2 [] [0, 1]
  b_p_is_below_2 : Bnd K d_p_is_below ["one", "other"] 2 [] [0, 1]
  b_p_is_fraction_1 : Bnd K d_p_is_fraction ["thing"] 1 [] [0]
  b_p_is_letters_2 : Bnd K d_p_is_letters ["thing", "most"] 2 [] [0, 1]
  b_p_is_line_2 : Bnd K d_p_is_line ["many", "thing"] 2 [] [0, 1]
  b_p_is_name_1 : Bnd K d_p_is_name ["thing"] 1 [] [0]
  b_p_is_one_of_2 : Bnd K d_p_is_one_of ["many", "thing"] 2 [] [0, 1]
  b_p_is_rising_2 : Bnd K d_p_is_rising ["many", "thing"] 2 [] [0, 1]
  b_p_is_row_3 : Bnd K d_p_is_row ["names", "places", "thing"] 3 [] [0, 1, 2]
  b_p_is_shares_2 : Bnd K d_p_is_shares ["wishes", "thing"] 2 [] [0, 1]
  b_p_is_weighing_2 : Bnd K d_p_is_weighing ["program", "thing"] 2 [] [0, 1]
  b_p_is_whole_1 : Bnd K d_p_is_whole ["thing"] 1 [] [0]
  b_p_is_wish_2 : Bnd K d_p_is_wish ["many", "thing"] 2 [] [0, 1]
  b_p_is_wishes_2 : Bnd K d_p_is_wishes ["many", "thing"] 2 [] [0, 1]
  b_p_left_behind_3 : Bnd K d_p_left_behind ["program", "left", "thing"] 3 [] [0, 1, 2]
  b_p_left_by_3 : Bnd K d_p_left_by ["program", "never", "ranks"] 3 [] [0, 1, 2]
  b_p_lets_entry_4 : Bnd K d_p_lets_entry ["program", "weighing", "row", "thing"] 4 [] [0, 1, 2, 3]
  b_p_lets_ranks_3 : Bnd K d_p_lets_ranks ["program", "never", "ranks"] 3 [] [0, 1, 2]
  b_p_line_ahead_1 : Bnd K d_p_line_ahead ["line"] 1 [] [0]
  b_p_line_behind_1 : Bnd K d_p_line_behind ["line"] 1 [] [0]
  b_p_look_at_1 : Bnd K d_p_look_at ["thing"] 1 [] [0]
  b_p_look_at_many_1 : Bnd K d_p_look_at_many ["many"] 1 [] [0]
  b_p_look_at_names_3 : Bnd K d_p_look_at_names ["part", "thing", "most"] 3 [] [0, 1, 2]
  b_p_look_at_rows_3 : Bnd K d_p_look_at_rows ["names", "places", "thing"] 3 [] [0, 1, 2]
  b_p_lowest_2 : Bnd K d_p_lowest ["top", "bottom"] 2 [] [0, 1]
  b_p_minus_one_1 : Bnd K d_p_minus_one ["many"] 1 [] [0]
  b_p_plus_2 : Bnd K d_p_plus ["one", "other"] 2 [] [0, 1]
  b_p_rise_by_2 : Bnd K d_p_rise_by ["row", "weighing"] 2 [] [0, 1]
  b_p_rows_that_go_2 : Bnd K d_p_rows_that_go ["program", "thing"] 2 [] [0, 1]
  b_p_times_2 : Bnd K d_p_times ["one", "other"] 2 [] [0, 1]
section
variable {P : Program} {w : World} {K : PySem.W.Frag} {mg : Str → Option Value} {base : Heap}
def isW (d : D) : Bool := match d with
  | .int _ => true
  | _ => false
def sp_p_is_whole : FS := fun ds ms P => match ds with
  | [d] => (∃ a, tyD d = some a) ∧ P (.bl (isW d)) ms
  | _ => False
theorem len_p_is_whole : ∀ ds ms Q, sp_p_is_whole ds ms Q → ds.length = 1 := fun ds ms Q h => by
  unfold sp_p_is_whole at h
  split at h <;> first | rfl | exact h.elim
def t_p_is_whole : DTS := dRet (dAndV (dIsi .int (dVar 0)) (dNotV (dIsi .bool (dVar 0))))
theorem whole_sem {d : D} {ms : MS} {Q : D → MS → Prop} (h : (∃ a, tyD d = some a) ∧ Q (.bl (isW d)) ms) : dAndV (dIsi .int (dVar 0)) (dNotV (dIsi .bool (dVar 0))) [some d] ms Q := by
  obtain ⟨⟨a, e⟩, h⟩ := h
  walk_at "dl"
  rw [e]
  cases d <;> cases e <;> exact h
theorem sem_p_is_whole : ∀ ds ms Q, sp_p_is_whole ds ms Q → t_p_is_whole { nx := fun _ m => Q .non m, rt := Q } (startD 1 ds) ms := by
  intro ds ms Q h
  unfold sp_p_is_whole at h
  split at h
  · unfold t_p_is_whole
    exact whole_sem h
  · exact h.elim
theorem ok_p_is_whole (T : Tx P K mg) : FnG P w K mg base 1 T.f_p_is_whole T.d_p_is_whole ["thing"] (spD K sp_p_is_whole) := by
  exact fnG_of (k := 0) (t := t_p_is_whole) T.F_p_is_whole sc_p_is_whole len_p_is_whole
    (fun cdv A outer s H hr => pds_one (pds_ret (pd_and (pd_isi .int (by decide) rfl T.n_isinstance rfl T.n_int (by decide +kernel) (by decide) (by decide) (pd_var 0)) (pd_one (pd_not (pd_isi .bool (by decide) rfl T.n_isinstance rfl T.n_bool (by decide +kernel) (by decide) (by decide) (pd_var 0)))))))
    sem_p_is_whole
def sp_p_common : FS := fun ds ms P => match ds with
  | [.int a, .int b] => P (.int (Int.gcd a b)) ms
  | _ => False
theorem len_p_common : ∀ ds ms Q, sp_p_common ds ms Q → ds.length = 2 := fun ds ms Q h => by
  unfold sp_p_common at h
  split at h <;> first | rfl | exact h.elim
def t_p_common : DTS := dSeq (dWhile (dTest (dOp fNe (dVar 1) (dC (.int 0)))) (dPar 0 1 (aCons (dVar 1) (aCons (dOp fMod (dVar 0) (dVar 1)) (aNil))))) (dRet (dCB cAbs (aCons (dVar 0) (aNil))))
theorem loop_common {E : EN} {ms : MS} : ∀ (n : Nat) (a b : Int), b.natAbs < n → (∀ g : Int, g.natAbs = Int.gcd a b → E.nx [some (.int g), some (.int 0)] ms) →
    whileD (dTest (dOp fNe (dVar 1) (dC (.int 0)))) (dPar 0 1 (aCons (dVar 1) (aCons (dOp fMod (dVar 0) (dVar 1)) aNil))) E n [some (.int a), some (.int b)] ms := by
  intro n
  induction n with
  | zero => intro a b h; omega
  | succ n ih =>
    intro a b h q
    unfold whileD
    walk_at "dl"
    by_cases hb : b = 0
    · subst hb
      rw [if_neg (by decide)]
      exact q a (by simp)
    · have e : (!(b == 0)) = true := by simp [hb]
      rw [if_pos e]
      refine ⟨hb, ih b (a.fmod b) ?_ fun g hg => q g (hg.trans (gcd_fmod a b))⟩
      have := fmod_less (a := a) hb
      omega
theorem sem_p_common : ∀ ds ms Q, sp_p_common ds ms Q → t_p_common { nx := fun _ m => Q .non m, rt := Q } (startD 2 ds) ms := by
  intro ds ms Q h
  unfold sp_p_common at h
  split at h
  · rename_i a b
    unfold t_p_common
    walk_at "dl"
    refine ⟨b.natAbs + 1, loop_common _ a b (by omega) fun g hg => ?_⟩
    walk_at "dl"
    have e : (if g < 0 then -g else g) = (Int.gcd a b : Int) := by split <;> omega
    rw [e]
    exact h
  · exact h.elim
theorem ok_p_common (T : Tx P K mg) : FnG P w K mg base 1 T.f_p_common T.d_p_common ["one", "other"] (spD K sp_p_common) := by
  exact fnG_of (k := 0) (t := t_p_common) T.F_p_common sc_p_common len_p_common
    (fun cdv A outer s H hr => pds_cons (pds_while (pdt_cmp (op_neF hr.r.units) opd_ne (pd_var 1) (pd_int)) (pds_one (pds_par (i := 0) (j := 1) rfl sc_p_common.nd rfl rfl (by decide) rfl rfl (pda_cons (pd_var 1) (pda_cons (pd_op op_modN opd_mod (pd_var 0) (pd_var 1)) (pda_nil))) (by rfl)))) (pds_one (pds_ret (pd_callB call_abs cal_abs rfl T.n_abs (by decide +kernel) (pda_cons (pd_var 0) (pda_nil))))))
    sem_p_common
def isF (d : D) : Bool := match d with
  | .tup [.int a, .int b] => decide (1 ≤ b) && decide (Int.gcd a b = 1)
  | _ => false
def Tys (d : D) : Prop := ∃ a, tyD d = some a
structure OkF (d : D) : Prop where
  ty : Tys d
  two : ∀ x y, d = .tup [x, y] → Tys x ∧ Tys y
  bd : ∀ a b, d = .tup [.int a, .int b] → Bd 4000 b
theorem isF_n {x y : D} (h : isW x = false ∨ isW y = false) : isF (.tup [x, y]) = false := by
  cases x <;> cases y <;> simp_all [isW, isF]
def sp_p_is_fraction : FS := fun ds ms P => match ds with
  | [d] => OkF d ∧ P (.bl (isF d)) ms
  | _ => False
theorem len_p_is_fraction : ∀ ds ms Q, sp_p_is_fraction ds ms Q → ds.length = 1 := fun ds ms Q h => by
  unfold sp_p_is_fraction at h
  split at h <;> first | rfl | exact h.elim
def t_p_is_fraction : DTS := dSeq (dIfS (dOr (dNot (dTest (dIsi .tuple (dVar 0)))) (dTest (dOp fNe (dCB cLen (aCons (dVar 0) (aNil))) (dC (.int 2))))) (dRet (dC (.bl false))) (dNext)) (dSeq (dAsg (dVar 0) (sTup 2 (sCons (sName 1) (sCons (sName 2) (sNil))))) (dSeq (dIfS (dOr (dNot (dTest (dCall 1 0 [0] sp_p_is_whole (aCons (dVar 1) (aNil)) (aNil)))) (dOr (dNot (dTest (dCall 1 0 [0] sp_p_is_whole (aCons (dVar 2) (aNil)) (aNil)))) (dTest (dOp fLt (dVar 2) (dC (.int 1)))))) (dRet (dC (.bl false))) (dNext)) (dRet (dOp fEq (dCall 2 0 [0, 1] sp_p_common (aCons (dVar 1) (aCons (dVar 2) (aNil))) (aNil)) (dC (.int 1))))))
theorem sem_p_is_fraction : ∀ ds ms Q, sp_p_is_fraction ds ms Q → t_p_is_fraction { nx := fun _ m => Q .non m, rt := Q } (startD 3 ds) ms := by
  intro ds ms Q h
  unfold sp_p_is_fraction at h
  split at h
  · rename_i d
    obtain ⟨ok, h⟩ := h
    unfold t_p_is_fraction
    walk_at "dl"
    obtain ⟨a, e⟩ := ok.ty
    rw [e]
    cases d with
    | tup ys =>
      cases e
      simp only [show subT .tuple .tuple = true from rfl, Bool.not_true, Bool.false_eq_true, if_false]
      match ys, ok, h with
      | [], ok, h => exact h
      | [x], ok, h =>
        have hf : isF (.tup [x]) = false := by cases x <;> rfl
        rw [if_pos (by simp only [List.length_cons, List.length_nil]; decide)]
        rw [hf] at h
        exact h
      | x :: y :: z :: r, ok, h =>
        have hf : isF (.tup (x :: y :: z :: r)) = false := by cases x <;> cases y <;> rfl
        rw [if_pos (by simp only [List.length_cons]; rw [Bool.not_eq_true', beq_eq_false_iff_ne]; omega)]
        rw [hf] at h
        exact h
      | [x, y], ok, h =>
        rw [if_neg (by simp only [List.length_cons, List.length_nil]; decide)]
        obtain ⟨tx, ty⟩ := ok.two x y rfl
        refine ⟨rfl, tx, ?_⟩
        cases hx : isW x with
        | false => rw [isF_n (.inl hx)] at h; exact h
        | true =>
          refine ⟨ty, ?_⟩
          cases hy : isW y with
          | false => rw [isF_n (.inr hy)] at h; exact h
          | true =>
            cases x <;> cases hx
            cases y <;> cases hy
            rename_i a b
            simp only [Bool.not_true, Bool.false_eq_true, if_false]
            have e : isF (.tup [.int a, .int b]) = (decide (1 ≤ b) && decide (Int.gcd a b = 1)) := rfl
            rw [e] at h
            by_cases hb : b < 1
            · rw [if_pos hb]
              rw [decide_eq_false (by omega), Bool.false_and] at h
              exact h
            · rw [if_neg hb]
              rw [decide_eq_true (by omega), Bool.true_and] at h
              show Q (.bl (((Int.gcd a b : Nat) : Int) == 1)) ms
              have e2 : (((Int.gcd a b : Nat) : Int) == 1) = decide (Int.gcd a b = 1) := by
                rw [Bool.eq_iff_iff, beq_iff_eq, decide_eq_true_iff]
                omega
              rw [e2]
              exact h
    | _ => cases e <;> exact h
  · exact h.elim
theorem ok_p_is_fraction (T : Tx P K mg) : FnG P w K mg base 2 T.f_p_is_fraction T.d_p_is_fraction ["thing"] (spD K sp_p_is_fraction) := by
  have G_p_common := ok_p_common (P := P) (w := w) (base := base) T
  have G_p_is_whole := ok_p_is_whole (P := P) (w := w) (base := base) T
  exact fnG_of (k := 1) (t := t_p_is_fraction) T.F_p_is_fraction sc_p_is_fraction len_p_is_fraction
    (fun cdv A outer s H hr => pds_cons (pds_if (pdt_w (pdw_or (pdt_not (pdt_val (pd_isi .tuple (by decide) rfl T.n_isinstance rfl T.n_tuple (by decide +kernel) (by decide) (by decide) (pd_var 0)))) (pdw_or1 (pdt_cmp (op_neF hr.r.units) opd_ne (pd_callB call_len cal_len rfl T.n_len (by decide +kernel) (pda_cons (pd_var 0) (pda_nil))) (pd_int))))) (pds_one (pds_ret (pd_bl))) (pds_nil)) (pds_cons (pds_asg (vs := [1, 2]) (pd_var 0) (pg_tup rfl (pgs_cons (pg_name (i := 1) sc_p_is_fraction.nd rfl (.inl rfl)) (pgs_cons (pg_name (i := 2) sc_p_is_fraction.nd rfl (.inl rfl)) (pgs_nil)))) (tg_tup (tgs_cons (tg_name (i := 1) (by decide)) (tgs_cons (tg_name (i := 2) (by decide)) (tgs_nil) (mon_name (i := 2))) (mon_name (i := 1))))) (pds_cons (pds_if (pdt_w (pdw_or (pdt_not (pdt_val (pd_call G_p_is_whole (hr.mono (by decide)) rfl T.g_p_is_whole T.F_p_is_whole.kp T.b_p_is_whole_1 (pda_cons (pd_var 1) (pda_nil))))) (pdw_or (pdt_not (pdt_val (pd_call G_p_is_whole (hr.mono (by decide)) rfl T.g_p_is_whole T.F_p_is_whole.kp T.b_p_is_whole_1 (pda_cons (pd_var 2) (pda_nil))))) (pdw_or1 (pdt_cmp op_lt opd_lt (pd_var 2) (pd_int)))))) (pds_one (pds_ret (pd_bl))) (pds_nil)) (pds_one (pds_ret (pd_cmp (op_eqF hr.r.units) opd_eq (pd_call G_p_common (hr.mono (by decide)) rfl T.g_p_common T.F_p_common.kp T.b_p_common_2 (pda_cons (pd_var 1) (pda_cons (pd_var 2) (pda_nil)))) (pd_int)))))))
    sem_p_is_fraction
def sp_p_lowest : FS := fun ds ms P => match ds with
  | [.int a, .int b] => b ≠ 0 ∧ Bd 8000 b ∧ P (fr (lowT a b)) ms
  | _ => False
theorem len_p_lowest : ∀ ds ms Q, sp_p_lowest ds ms Q → ds.length = 2 := fun ds ms Q h => by
  unfold sp_p_lowest at h
  split at h <;> first | rfl | exact h.elim
def t_p_lowest : DTS := dSeq (dAsg (dCall 2 0 [0, 1] sp_p_common (aCons (dVar 0) (aCons (dVar 1) (aNil))) (aNil)) (sName 2)) (dSeq (dIfS (dTest (dOp fLt (dVar 1) (dC (.int 0)))) (dAsg (dNeg (dVar 2)) (sName 2)) (dNext)) (dRet (dTup (aCons (dOp fDiv (dVar 0) (dVar 2)) (aCons (dOp fDiv (dVar 1) (dVar 2)) (aNil))))))
theorem sem_p_lowest : ∀ ds ms Q, sp_p_lowest ds ms Q → t_p_lowest { nx := fun _ m => Q .non m, rt := Q } (startD 3 ds) ms := by
  intro ds ms Q h
  unfold sp_p_lowest at h
  split at h
  · rename_i a b
    obtain ⟨h0, hb, h⟩ := h
    unfold t_p_lowest
    walk_at "dl"
    unfold sp_p_common
    have hd := fun x => sgcd_ok (a := a) h0 hb (by decide) (by decide) x
    have e : fr (lowT a b) = .tup [.int (a.fdiv (sgcd a b)), .int (b.fdiv (sgcd a b))] := rfl
    rw [e] at h
    unfold sgcd at hd h
    by_cases hn : b < 0
    · rw [if_pos hn] at hd h
      simp only [hn, if_true]
      exact ⟨hd a, hd b, by decide, h⟩
    · rw [if_neg hn] at hd h
      simp only [hn, if_false]
      exact ⟨hd a, hd b, by decide, h⟩
  · exact h.elim
theorem ok_p_lowest (T : Tx P K mg) : FnG P w K mg base 2 T.f_p_lowest T.d_p_lowest ["top", "bottom"] (spD K sp_p_lowest) := by
  have G_p_common := ok_p_common (P := P) (w := w) (base := base) T
  exact fnG_of (k := 1) (t := t_p_lowest) T.F_p_lowest sc_p_lowest len_p_lowest
    (fun cdv A outer s H hr => pds_cons (pds_set (i := 2) sc_p_lowest.nd rfl (.inl rfl) (pd_call G_p_common (hr.mono (by decide)) rfl T.g_p_common T.F_p_common.kp T.b_p_common_2 (pda_cons (pd_var 0) (pda_cons (pd_var 1) (pda_nil))))) (pds_cons (pds_if (pdt_cmp op_lt opd_lt (pd_var 1) (pd_int)) (pds_one (pds_set (i := 2) sc_p_lowest.nd rfl (.inl rfl) (pd_neg (pd_var 2)))) (pds_nil)) (pds_one (pds_ret (pd_tup (pda_cons (pd_op op_fdivA opd_div (pd_var 0) (pd_var 2)) (pda_cons (pd_op op_fdivA opd_div (pd_var 1) (pd_var 2)) (pda_nil))))))))
    sem_p_lowest
def sp_p_plus : FS := fun ds ms P => match ds with
  | [.tup [.int a, .int b], .tup [.int c, .int d]] => (b ≠ 0 ∧ d ≠ 0 ∧ Bd 4000 a ∧ Bd 4000 b ∧ Bd 4000 c ∧ Bd 4000 d) ∧ P (fr (addT (a, b) (c, d))) ms
  | _ => False
theorem len_p_plus : ∀ ds ms Q, sp_p_plus ds ms Q → ds.length = 2 := fun ds ms Q h => by
  unfold sp_p_plus at h
  split at h <;> first | rfl | exact h.elim
def t_p_plus : DTS := dRet (dCall 2 0 [0, 1] sp_p_lowest (aCons (dOp fAdd (dOp fMul (dOp fIx (dVar 0) (dC (.int 0))) (dOp fIx (dVar 1) (dC (.int 1)))) (dOp fMul (dOp fIx (dVar 1) (dC (.int 0))) (dOp fIx (dVar 0) (dC (.int 1))))) (aCons (dOp fMul (dOp fIx (dVar 0) (dC (.int 1))) (dOp fIx (dVar 1) (dC (.int 1)))) (aNil))) (aNil))
theorem sem_p_plus : ∀ ds ms Q, sp_p_plus ds ms Q → t_p_plus { nx := fun _ m => Q .non m, rt := Q } (startD 2 ds) ms := by
  intro ds ms Q h
  unfold sp_p_plus at h
  split at h
  · rename_i a b c d
    obtain ⟨⟨h1, h2, ha, hb, hc, hd⟩, h⟩ := h
    unfold t_p_plus
    walk_at "dl"
    simp only [fIx, atI_0, atI_1]
    unfold sp_p_lowest
    exact ⟨ha.mulOk hd (by decide) (by decide) (by decide), hc.mulOk hb (by decide) (by decide) (by decide), hb.mulOk hd (by decide) (by decide) (by decide), Int.mul_ne_zero h1 h2, hb.mul hd, h⟩
  · exact h.elim
theorem ok_p_plus (T : Tx P K mg) : FnG P w K mg base 3 T.f_p_plus T.d_p_plus ["one", "other"] (spD K sp_p_plus) := by
  have G_p_lowest := ok_p_lowest (P := P) (w := w) (base := base) T
  exact fnG_of (k := 2) (t := t_p_plus) T.F_p_plus sc_p_plus len_p_plus
    (fun cdv A outer s H hr => pds_one (pds_ret (pd_call G_p_lowest (hr.mono (by decide)) rfl T.g_p_lowest T.F_p_lowest.kp T.b_p_lowest_2 (pda_cons (pd_op op_addD opd_add (pd_op op_mulA opd_mul (pd_ix ix_seq opd_ix (pd_var 0) (pd_int)) (pd_ix ix_seq opd_ix (pd_var 1) (pd_int))) (pd_op op_mulA opd_mul (pd_ix ix_seq opd_ix (pd_var 1) (pd_int)) (pd_ix ix_seq opd_ix (pd_var 0) (pd_int)))) (pda_cons (pd_op op_mulA opd_mul (pd_ix ix_seq opd_ix (pd_var 0) (pd_int)) (pd_ix ix_seq opd_ix (pd_var 1) (pd_int))) (pda_nil))))))
    sem_p_plus
def sp_p_times : FS := fun ds ms P => match ds with
  | [.tup [.int a, .int b], .tup [.int c, .int d]] => (b ≠ 0 ∧ d ≠ 0 ∧ Bd 4000 a ∧ Bd 4000 b ∧ Bd 4000 c ∧ Bd 4000 d) ∧ P (fr (mulT (a, b) (c, d))) ms
  | _ => False
theorem len_p_times : ∀ ds ms Q, sp_p_times ds ms Q → ds.length = 2 := fun ds ms Q h => by
  unfold sp_p_times at h
  split at h <;> first | rfl | exact h.elim
def t_p_times : DTS := dRet (dCall 2 0 [0, 1] sp_p_lowest (aCons (dOp fMul (dOp fIx (dVar 0) (dC (.int 0))) (dOp fIx (dVar 1) (dC (.int 0)))) (aCons (dOp fMul (dOp fIx (dVar 0) (dC (.int 1))) (dOp fIx (dVar 1) (dC (.int 1)))) (aNil))) (aNil))
theorem sem_p_times : ∀ ds ms Q, sp_p_times ds ms Q → t_p_times { nx := fun _ m => Q .non m, rt := Q } (startD 2 ds) ms := by
  intro ds ms Q h
  unfold sp_p_times at h
  split at h
  · rename_i a b c d
    obtain ⟨⟨h1, h2, ha, hb, hc, hd⟩, h⟩ := h
    unfold t_p_times
    walk_at "dl"
    simp only [fIx, atI_0, atI_1]
    unfold sp_p_lowest
    exact ⟨ha.mulOk hc (by decide) (by decide) (by decide), hb.mulOk hd (by decide) (by decide) (by decide), Int.mul_ne_zero h1 h2, hb.mul hd, h⟩
  · exact h.elim
theorem ok_p_times (T : Tx P K mg) : FnG P w K mg base 3 T.f_p_times T.d_p_times ["one", "other"] (spD K sp_p_times) := by
  have G_p_lowest := ok_p_lowest (P := P) (w := w) (base := base) T
  exact fnG_of (k := 2) (t := t_p_times) T.F_p_times sc_p_times len_p_times
    (fun cdv A outer s H hr => pds_one (pds_ret (pd_call G_p_lowest (hr.mono (by decide)) rfl T.g_p_lowest T.F_p_lowest.kp T.b_p_lowest_2 (pda_cons (pd_op op_mulA opd_mul (pd_ix ix_seq opd_ix (pd_var 0) (pd_int)) (pd_ix ix_seq opd_ix (pd_var 1) (pd_int))) (pda_cons (pd_op op_mulA opd_mul (pd_ix ix_seq opd_ix (pd_var 0) (pd_int)) (pd_ix ix_seq opd_ix (pd_var 1) (pd_int))) (pda_nil))))))
    sem_p_times
def sp_p_is_below : FS := fun ds ms P => match ds with
  | [.tup [.int a, .int b], .tup [.int c, .int d]] => (Bd 4000 a ∧ Bd 4000 b ∧ Bd 4000 c ∧ Bd 4000 d) ∧ P (.bl (decide (a * d < c * b))) ms
  | _ => False
theorem fb_worG {L N : Nat} : ∀ (fs : List Int) (ns : List (Int × Int)) (t : Int × Int) (A B : Nat), FB A B t → (∀ f ∈ fs, Bd L f) → (∀ n ∈ ns, FB N N n) → L + B ≤ A + 1 →
    FB (A + (N + 2) * fs.length) (B + (N + 1) * fs.length) (worGo t fs ns)
  | [], _, t, A, B, h, _, _, _ => by unfold worGo; exact h.mono (by simp) (by simp)
  | f :: fs, [], t, A, B, h, _, _, _ => by unfold worGo; exact h.mono (Nat.le_add_right _ _) (Nat.le_add_right _ _)
  | f :: fs, n :: ns, t, A, B, h, hf, hn, hN => by
    unfold worGo
    have h1 := fb_mul (fb_int (hf f List.mem_cons_self)) (hn n List.mem_cons_self)
    have h2 := fb_add (k := A + N + 1) h h1 (by omega) (by omega)
    have h3 := fb_worG fs ns _ (A + N + 2) (B + (N + 1)) (h2.mono (by omega) (by omega)) (fun x hx => hf x (List.mem_cons_of_mem _ hx)) (fun x hx => hn x (List.mem_cons_of_mem _ hx)) (by omega)
    refine h3.mono ?_ ?_
    · rw [List.length_cons, Nat.mul_succ]; omega
    · rw [List.length_cons, Nat.mul_succ]; omega
theorem len_p_is_below : ∀ ds ms Q, sp_p_is_below ds ms Q → ds.length = 2 := fun ds ms Q h => by
  unfold sp_p_is_below at h
  split at h <;> first | rfl | exact h.elim
def t_p_is_below : DTS := dRet (dOp fLt (dOp fMul (dOp fIx (dVar 0) (dC (.int 0))) (dOp fIx (dVar 1) (dC (.int 1)))) (dOp fMul (dOp fIx (dVar 1) (dC (.int 0))) (dOp fIx (dVar 0) (dC (.int 1)))))
theorem sem_p_is_below : ∀ ds ms Q, sp_p_is_below ds ms Q → t_p_is_below { nx := fun _ m => Q .non m, rt := Q } (startD 2 ds) ms := by
  intro ds ms Q h
  unfold sp_p_is_below at h
  split at h
  · rename_i a b c d
    obtain ⟨⟨ha, hb, hc, hd⟩, h⟩ := h
    unfold t_p_is_below
    walk_at "dl"
    simp only [fIx, atI_0, atI_1]
    exact ⟨ha.mulOk hd (by decide) (by decide) (by decide), hc.mulOk hb (by decide) (by decide) (by decide), h⟩
  · exact h.elim
theorem ok_p_is_below (T : Tx P K mg) : FnG P w K mg base 1 T.f_p_is_below T.d_p_is_below ["one", "other"] (spD K sp_p_is_below) := by
  exact fnG_of (k := 0) (t := t_p_is_below) T.F_p_is_below sc_p_is_below len_p_is_below
    (fun cdv A outer s H hr => pds_one (pds_ret (pd_cmp op_lt opd_lt (pd_op op_mulA opd_mul (pd_ix ix_seq opd_ix (pd_var 0) (pd_int)) (pd_ix ix_seq opd_ix (pd_var 1) (pd_int))) (pd_op op_mulA opd_mul (pd_ix ix_seq opd_ix (pd_var 1) (pd_int)) (pd_ix ix_seq opd_ix (pd_var 0) (pd_int))))))
    sem_p_is_below
theorem AnyX.okF {n : Nat} {d : D} (h : AnyX n d) (hn : n ≤ 4000) : OkF d := by
  refine ⟨h.ty, fun x y e => ?_, fun a b e => ?_⟩
  · subst e
    exact ⟨(h.tup.2 x (by simp)).ty, (h.tup.2 y (by simp)).ty⟩
  · subst e
    exact (h.tup.2 (.int b) (by simp)).int.mono hn
theorem isF_iff {d : D} : isF d = true ↔ ∃ t : Int × Int, d = fr t ∧ Low t := by
  refine ⟨fun h => ?_, fun ⟨t, e, l⟩ => ?_⟩
  · unfold isF at h
    split at h
    · rename_i a b
      obtain ⟨h1, h2⟩ := Bool.and_eq_true_iff.mp h
      exact ⟨(a, b), rfl, by have := of_decide_eq_true h1; show 0 < b; omega, of_decide_eq_true h2⟩
    · cases h
  · subst e
    show (decide (1 ≤ t.2) && decide (Int.gcd t.1 t.2 = 1)) = true
    rw [decide_eq_true (by have := l.pos; omega : 1 ≤ t.2), decide_eq_true l.cop]; rfl
theorem isFs_iff : ∀ {xs : List D}, xs.all isF = true ↔ ∃ ss : List (Int × Int), xs = ss.map fr ∧ ∀ s ∈ ss, Low s
  | [] => ⟨fun _ => ⟨[], rfl, fun _ h => by cases h⟩, fun _ => rfl⟩
  | x :: r => by
    rw [List.all_cons, Bool.and_eq_true_iff, isF_iff, isFs_iff (xs := r)]
    refine ⟨fun ⟨⟨t, e, l⟩, ss, e2, l2⟩ => ⟨t :: ss, by rw [e, e2]; rfl, fun s hs => ?_⟩, fun ⟨ss, e, l⟩ => ?_⟩
    · rcases List.mem_cons.mp hs with rfl | hs
      · exact l
      · exact l2 s hs
    · cases ss with
      | nil => cases e
      | cons t ss =>
        rw [List.map_cons] at e
        injection e with e1 e2
        exact ⟨⟨t, e1, l t List.mem_cons_self⟩, ss, e2, fun s hs => l s (List.mem_cons_of_mem _ hs)⟩
theorem fr_inj {t u : Int × Int} (h : fr t = fr u) : t = u := by
  obtain ⟨a, b⟩ := t
  obtain ⟨c, d⟩ := u
  unfold fr at h
  simp only [D.tup.injEq, List.cons.injEq, D.int.injEq, and_true] at h
  rw [h.1, h.2]
theorem frs_inj : ∀ {ss ts : List (Int × Int)}, ss.map fr = ts.map fr → ss = ts
  | [], [], _ => rfl
  | [], _ :: _, h => by cases h
  | _ :: _, [], h => by cases h
  | s :: ss, t :: ts, h => by
    rw [List.map_cons, List.map_cons] at h
    injection h with h1 h2
    rw [fr_inj h1, frs_inj h2]
theorem any_fb {n : Nat} {t : Int × Int} (h : AnyX n (fr t)) (l : Low t) : FB n n t := by
  obtain ⟨a, b⟩ := t
  have h1 := (h.tup.2 (.int a) (by simp)).int
  have h2 := (h.tup.2 (.int b) (by simp)).int
  refine ⟨h1, h2, l.pos, fun z => ?_⟩
  have z' : a = 0 := z
  subst z'
  have c := l.cop
  have hp := l.pos
  simp only [Int.gcd_zero_left] at c hp
  show b = 1
  omega
theorem any_fbs {n : Nat} {ss : List (Int × Int)} (h : AnyX n (.lst (ss.map fr))) (l : ∀ s ∈ ss, Low s) : ∀ s ∈ ss, FB n n s :=
  fun s hs => any_fb (h.lst.2 _ (List.mem_map_of_mem hs)) (l s hs)
/-- a list of so many fractions -/
def Fra (n : Int) (d : D) : Prop := ∃ ss : List (Int × Int), d = .lst (ss.map fr) ∧ (ss.length : Int) = n ∧ ∀ s ∈ ss, Low s
def sp_p_is_one_of : FS := fun ds ms P => match ds with
  | [.int n, d] => (∃ a, tyD d = some a) ∧ P (.bl (isAt n d)) ms
  | _ => False
theorem len_p_is_one_of : ∀ ds ms Q, sp_p_is_one_of ds ms Q → ds.length = 2 := fun ds ms Q h => by
  unfold sp_p_is_one_of at h
  split at h <;> first | rfl | exact h.elim
def t_p_is_one_of : DTS := dRet (dAndV (dCall 1 0 [0] sp_p_is_whole (aCons (dVar 1) (aNil)) (aNil)) (dChain fLe fLt (dC (.int 0)) (dVar 1) (dVar 0)))
theorem sem_p_is_one_of : ∀ ds ms Q, sp_p_is_one_of ds ms Q → t_p_is_one_of { nx := fun _ m => Q .non m, rt := Q } (startD 2 ds) ms := by
  intro ds ms Q h
  unfold sp_p_is_one_of at h
  split at h
  · rename_i n d
    obtain ⟨⟨a, e⟩, h⟩ := h
    simp only [startD]
    unfold t_p_is_one_of
    walk_at "st"
    refine ⟨⟨a, e⟩, ?_⟩
    walk_at "st"
    cases d with
    | int i =>
      refine w_iteT rfl ?_
      walk_at "st"
      have h : Q (.bl (decide (0 ≤ i) && decide (i < n))) ms := h
      cases h0 : decide (0 ≤ i) with
      | true =>
        rw [h0] at h
        refine w_iteT rfl ?_
        walk_at "st"
        exact h
      | false =>
        rw [h0] at h
        refine w_iteF rfl ?_
        walk_at "st"
        exact h
    | _ =>
      refine w_iteF rfl ?_
      walk_at "st"
      exact h
  · exact h.elim
theorem ok_p_is_one_of (T : Tx P K mg) : FnG P w K mg base 2 T.f_p_is_one_of T.d_p_is_one_of ["many", "thing"] (spD K sp_p_is_one_of) := by
  have G_p_is_whole := ok_p_is_whole (P := P) (w := w) (base := base) T
  exact fnG_of (k := 1) (t := t_p_is_one_of) T.F_p_is_one_of sc_p_is_one_of len_p_is_one_of
    (fun cdv A outer s H hr => pds_one (pds_ret (pd_and (pd_call G_p_is_whole (hr.mono (by decide)) rfl T.g_p_is_whole T.F_p_is_whole.kp T.b_p_is_whole_1 (pda_cons (pd_var 1) (pda_nil))) (pd_one (pd_chain op_le opd_le op_lt opd_lt (pd_int) (pd_var 1) (pd_var 0))))))
    sem_p_is_one_of
/-- unlike rising row numbers -/
def Ris (n : Int) (d : D) : Prop := ∃ is : List Nat, d = .lst (natL is) ∧ (∀ k ∈ is, (k : Int) < n) ∧ is.Pairwise (· < ·)
def sp_p_is_rising : FS := fun ds ms P => match ds with
  | [.int n, d] => ∃ N, AnyX N d ∧ P (.bl (tf (Ris n d))) ms
  | _ => False
theorem len_p_is_rising : ∀ ds ms Q, sp_p_is_rising ds ms Q → ds.length = 2 := fun ds ms Q h => by
  unfold sp_p_is_rising at h
  split at h <;> first | rfl | exact h.elim
def t_p_is_rising : DTS := dSeq (dIfS (dOr (dNot (dTest (dIsi .list (dVar 1)))) (dNot (dTest (dCB cAll (aCons (dLc (iSeq (dVar 1)) (sName 4) (dYes) (dCall 2 0 [0, 1] sp_p_is_one_of (aCons (dVar 0) (aCons (dVar 4) (aNil))) (aNil)) [4]) (aNil)))))) (dRet (dC (.bl false))) (dNext)) (dRet (dCB cAll (aCons (dLc (iZipD (aCons (dVar 1) (aCons (dSl (dVar 1) (oSome (dC (.int 1))) (oNone)) (aNil)))) (sTup 2 (sCons (sName 2) (sCons (sName 3) (sNil)))) (dYes) (dOp fLt (dVar 2) (dVar 3)) [2, 3]) (aNil))))
theorem isAts_iff {n : Int} : ∀ {xs : List D}, xs.all (isAt n) = true ↔ ∃ is : List Nat, xs = natL is ∧ ∀ k ∈ is, (k : Int) < n
  | [] => ⟨fun _ => ⟨[], rfl, fun _ h => by cases h⟩, fun _ => rfl⟩
  | x :: r => by
    rw [List.all_cons, Bool.and_eq_true_iff, isAts_iff (xs := r)]
    refine ⟨fun ⟨h, is, e, l⟩ => ?_, fun ⟨is, e, l⟩ => ?_⟩
    · cases x with
      | int i =>
        have h : (decide (0 ≤ i) && decide (i < n)) = true := h
        obtain ⟨h1, h2⟩ := Bool.and_eq_true_iff.mp h
        have h1 := of_decide_eq_true h1
        have h2 := of_decide_eq_true h2
        refine ⟨i.toNat :: is, ?_, fun k hk => ?_⟩
        · show D.int i :: r = D.int (i.toNat : Int) :: natL is
          rw [e, Int.toNat_of_nonneg h1]
        · rcases List.mem_cons.mp hk with rfl | hk
          · omega
          · exact l k hk
      | _ => cases h
    · cases is with
      | nil => cases e
      | cons k is =>
        have e : x :: r = D.int (k : Int) :: natL is := e
        injection e with e1 e2
        subst e1
        refine ⟨?_, is, e2, fun j hj => l j (List.mem_cons_of_mem _ hj)⟩
        show (decide (0 ≤ (k : Int)) && decide ((k : Int) < n)) = true
        rw [decide_eq_true (by omega), decide_eq_true (l k List.mem_cons_self)]; rfl
theorem zip_ris : ∀ (is : List Nat), ((is.zip is.tail).all fun p => decide ((p.1 : Int) < (p.2 : Int))) = true ↔ is.Pairwise (· < ·)
  | [] => ⟨fun _ => List.Pairwise.nil, fun _ => rfl⟩
  | [a] => ⟨fun _ => List.pairwise_singleton _ _, fun _ => rfl⟩
  | a :: b :: r => by
    have e : ((a :: b :: r).zip (a :: b :: r).tail) = (a, b) :: ((b :: r).zip (b :: r).tail) := rfl
    rw [e, List.all_cons, Bool.and_eq_true_iff, zip_ris (b :: r), decide_eq_true_iff, List.pairwise_cons (a := a)]
    refine ⟨fun ⟨h1, h2⟩ => ⟨fun x hx => ?_, h2⟩, fun ⟨h1, h2⟩ => ⟨by have := h1 b List.mem_cons_self; show (a : Int) < (b : Int); omega, h2⟩⟩
    have h1 : (a : Int) < (b : Int) := h1
    rcases List.mem_cons.mp hx with rfl | hx
    · omega
    · have := (List.pairwise_cons.mp h2).1 x hx
      omega
theorem cut_tail {α : Type} (xs : List α) : cutL xs (some 1) none = xs.tail := by
  cases xs with
  | nil => rfl
  | cons x r => exact cut_1 x r
theorem natL_tail (is : List Nat) : (natL is).tail = natL is.tail := (List.map_tail ..).symm
theorem sem_p_is_rising : ∀ ds ms Q, sp_p_is_rising ds ms Q → t_p_is_rising { nx := fun _ m => Q .non m, rt := Q } (startD 5 ds) ms := by
  intro ds ms Q h
  unfold sp_p_is_rising at h
  split at h
  · rename_i n d
    obtain ⟨N, an, h⟩ := h
    obtain ⟨a, e⟩ := an.ty
    simp only [startD]
    unfold t_p_is_rising
    walk_at "st"
    cases d with
    | lst xs =>
      obtain ⟨hl, ok⟩ := an.lst
      walk_at "st"
      simp only [wipeD, List.set]
      refine comp_pure (fun x => .bl (isAt n x)) xs [] _ (by simp; omega) (fun x hx P0 q => ?_) ?_
      · walk_at "st"
        exact ⟨(ok x hx).ty, q⟩
      rw [List.nil_append]
      walk_at "st"
      refine w_all (bls_map (isAt n) xs) ?_
      rw [all_id]
      cases ha : xs.all (isAt n) with
      | false =>
        walk_at "st"
        refine tf_f h fun ⟨is, e1, l, _⟩ => ?_
        injection e1 with e1
        rw [isAts_iff.mpr ⟨is, e1, l⟩] at ha
        cases ha
      | true =>
        obtain ⟨is, rfl, l⟩ := isAts_iff.mp ha
        have hl2 : is.length ≤ 1000 := by have : (natL is).length = is.length := List.length_map ..; omega
        walk_at "st"
        rw [cut_tail, natL_tail, show zipD (natL is) (natL is.tail) = (is.zip is.tail).map fun p => D.tup [.int (p.1 : Int), .int (p.2 : Int)] from zipD_mp _ _ _ _]
        simp only [wipeD, List.set]
        refine comp_e (fun (p : Nat × Nat) => D.tup [.int (p.1 : Int), .int (p.2 : Int)]) (fun p => D.bl (decide ((p.1 : Int) < (p.2 : Int)))) (is.zip is.tail) [] _ (by rw [List.length_zip, List.length_nil]; omega) (fun p hp P0 q => ?_) ?_
        · walk_at "st"
          exact q
        rw [List.nil_append]
        walk_at "st"
        refine w_all (bls_map _ _) ?_
        rw [all_id]
        refine tf_e h ?_
        rw [zip_ris]
        refine ⟨fun p => ⟨is, rfl, l, p⟩, fun ⟨js, e1, _, p⟩ => ?_⟩
        injection e1 with e1
        rw [natL_inj e1]
        exact p
    | _ => cases e <;> (walk_at "st"; exact tf_f h fun ⟨_, e1, _⟩ => by cases e1)
  · exact h.elim
theorem ok_p_is_rising (T : Tx P K mg) : FnG P w K mg base 3 T.f_p_is_rising T.d_p_is_rising ["many", "thing"] (spD K sp_p_is_rising) := by
  have G_p_is_one_of := ok_p_is_one_of (P := P) (w := w) (base := base) T
  exact fnG_of (k := 2) (t := t_p_is_rising) T.F_p_is_rising sc_p_is_rising len_p_is_rising
    (fun cdv A outer s H hr => pds_cons (pds_if (pdt_w (pdw_or (pdt_not (pdt_val (pd_isi .list (by decide) rfl T.n_isinstance rfl T.n_list (by decide +kernel) (by decide) (by decide) (pd_var 1)))) (pdw_or1 (pdt_not (pdt_val (pd_callB (cr_all rfl) cal_all rfl T.n_all (by decide +kernel) (pda_cons (pd_lc (own := [("at", 4)]) rfl sc_p_is_rising.nd (pdi_list (pd_var 1)) (blkOk_by (own := [("at", 4)]) (by kernel_rfl)) (fun _ _ _ _ _ => pg_name (i := 4) sc_p_is_rising.nd rfl (by first | exact .inl rfl | exact .inr rfl)) (tg_name (i := 4) (by decide)) (mon_name (i := 4)) (fun _ _ _ _ _ => pdts_nil) (fun _ _ _ _ _ => pd_call G_p_is_one_of (hr.mono (by decide)) rfl T.g_p_is_one_of T.F_p_is_one_of.kp T.b_p_is_one_of_2 (pda_cons (pd_var 0) (pda_cons (pd_var 4) (pda_nil))))) (pda_nil)))))))) (pds_one (pds_ret (pd_bl))) (pds_nil)) (pds_one (pds_ret (pd_callB (cr_all rfl) cal_all rfl T.n_all (by decide +kernel) (pda_cons (pd_lc (own := [("one", 2), ("other", 3)]) rfl sc_p_is_rising.nd (pdi_zip rfl T.n_zip (pda_cons (pd_var 1) (pda_cons (pd_slice (pd_var 1) (pdo_some (pd_int)) (pdo_none)) (pda_nil)))) (blkOk_by (own := [("one", 2), ("other", 3)]) (by kernel_rfl)) (fun _ _ _ _ _ => pg_tup rfl (pgs_cons (pg_name (i := 2) sc_p_is_rising.nd rfl (by first | exact .inl rfl | exact .inr rfl)) (pgs_cons (pg_name (i := 3) sc_p_is_rising.nd rfl (by first | exact .inl rfl | exact .inr rfl)) (pgs_nil)))) (tg_tup (tgs_cons (tg_name (i := 2) (by decide)) (tgs_cons (tg_name (i := 3) (by decide)) (tgs_nil) (mon_name (i := 3))) (mon_name (i := 2)))) (mon_tup (mon_cons (mon_name (i := 2)) (mon_cons (mon_name (i := 3)) (mon_nil)))) (fun _ _ _ _ _ => pdts_nil) (fun _ _ _ _ _ => pd_cmp op_lt opd_lt (pd_var 2) (pd_var 3))) (pda_nil))))))
    sem_p_is_rising
def sp_p_look_at_many : FS := fun ds ms P => match ds with
  | [.int i] => 0 ≤ i ∧ i ≤ 8 ∧ P .non ms
  | _ => False
theorem len_p_look_at_many : ∀ ds ms Q, sp_p_look_at_many ds ms Q → ds.length = 1 := fun ds ms Q h => by
  unfold sp_p_look_at_many at h
  split at h <;> first | rfl | exact h.elim
def t_p_look_at_many : DTS := dIfS (dOr (dNot (dTest (dCall 1 0 [0] sp_p_is_whole (aCons (dVar 0) (aNil)) (aNil)))) (dOr (dTest (dOp fLt (dVar 0) (dC (.int 0)))) (dTest (dOp fGt (dVar 0) (dC (.int 8)))))) (dNever) (dNext)
theorem sem_p_look_at_many : ∀ ds ms Q, sp_p_look_at_many ds ms Q → t_p_look_at_many { nx := fun _ m => Q .non m, rt := Q } (startD 1 ds) ms := by
  intro ds ms Q h
  unfold sp_p_look_at_many at h
  split at h
  · rename_i i
    obtain ⟨h0, h8, h⟩ := h
    simp only [startD]
    unfold t_p_look_at_many
    walk_at "st"
    refine ⟨⟨_, rfl⟩, ?_⟩
    walk_at "st"
    refine w_iteF (decide_eq_false (by omega)) ?_
    walk_at "st"
    refine w_iteF (decide_eq_false (by omega)) ?_
    walk_at "st"
    exact h
  · exact h.elim
theorem ok_p_look_at_many (T : Tx P K mg) : FnG P w K mg base 2 T.f_p_look_at_many T.d_p_look_at_many ["many"] (spD K sp_p_look_at_many) := by
  have G_p_is_whole := ok_p_is_whole (P := P) (w := w) (base := base) T
  exact fnG_of (k := 1) (t := t_p_look_at_many) T.F_p_look_at_many sc_p_look_at_many len_p_look_at_many
    (fun cdv A outer s H hr => pds_one (pds_if (pdt_w (pdw_or (pdt_not (pdt_val (pd_call G_p_is_whole (hr.mono (by decide)) rfl T.g_p_is_whole T.F_p_is_whole.kp T.b_p_is_whole_1 (pda_cons (pd_var 0) (pda_nil))))) (pdw_or (pdt_cmp op_lt opd_lt (pd_var 0) (pd_int)) (pdw_or1 (pdt_cmp op_gt opd_gt (pd_var 0) (pd_glob (v := .int (8)) rfl T.c_MOST_NUMBERS ⟨_, rfl⟩ (fun _ => .int _))))))) (pds_one (pds_never)) (pds_nil)))
    sem_p_look_at_many
theorem ints_any : ∀ is : List Int, ∃ N, ∀ i ∈ is, Bd N i
  | [] => ⟨0, fun _ h => by cases h⟩
  | i :: r => by
    obtain ⟨N, h⟩ := ints_any r
    refine ⟨max i.natAbs N, fun j hj => ?_⟩
    rcases List.mem_cons.mp hj with rfl | hj
    · exact (show Bd j.natAbs j from Nat.lt_two_pow_self).mono (Nat.le_max_left ..)
    · exact (h j hj).mono (Nat.le_max_right ..)
theorem anyx_ints {n : Nat} {is : List Int} (hl : is.length ≤ 1000) (h : ∀ i ∈ is, Bd n i) : AnyX n (.lst (is.map D.int)) := AnyX.mkL (by rw [List.length_map]; exact hl) fun x hx => by
  obtain ⟨i, hi, rfl⟩ := List.mem_map.mp hx
  exact .int' (h i hi)
/-- a line over so many numbers -/
def Lin (n : Int) (d : D) : Prop := ∃ is : List Int, d = .lst (is.map D.int) ∧ (is.length : Int) = n + 1
def sp_p_is_line : FS := fun ds ms P => match ds with
  | [.int i, d] => 0 ≤ i ∧ i ≤ 8 ∧ ∃ N, AnyX N d ∧ P (.bl (tf (Lin i d))) ms
  | _ => False
theorem len_p_is_line : ∀ ds ms Q, sp_p_is_line ds ms Q → ds.length = 2 := fun ds ms Q h => by
  unfold sp_p_is_line at h
  split at h <;> first | rfl | exact h.elim
def t_p_is_line : DTS := dSeq (dDrop (dCall 1 0 [0] sp_p_look_at_many (aCons (dVar 0) (aNil)) (aNil))) (dSeq (dIfS (dOr (dNot (dTest (dIsi .list (dVar 1)))) (dTest (dOp fNe (dCB cLen (aCons (dVar 1) (aNil))) (dOp fAdd (dVar 0) (dC (.int 1)))))) (dRet (dC (.bl false))) (dNext)) (dRet (dCB cAll (aCons (dLc (iSeq (dVar 1)) (sName 2) (dYes) (dCall 1 0 [0] sp_p_is_whole (aCons (dVar 2) (aNil)) (aNil)) [2]) (aNil)))))
theorem isWs_iff : ∀ {xs : List D}, xs.all isW = true ↔ ∃ is : List Int, xs = is.map D.int
  | [] => ⟨fun _ => ⟨[], rfl⟩, fun _ => rfl⟩
  | x :: r => by
    rw [List.all_cons, Bool.and_eq_true_iff, isWs_iff (xs := r)]
    refine ⟨fun ⟨h, is, e⟩ => ?_, fun ⟨is, e⟩ => ?_⟩
    · cases x with
      | int i => exact ⟨i :: is, by rw [e]; rfl⟩
      | _ => cases h
    · cases is with
      | nil => cases e
      | cons k is =>
        rw [List.map_cons] at e
        injection e with e1 e2
        subst e1
        exact ⟨rfl, is, e2⟩
theorem sem_p_is_line : ∀ ds ms Q, sp_p_is_line ds ms Q → t_p_is_line { nx := fun _ m => Q .non m, rt := Q } (startD 3 ds) ms := by
  intro ds ms Q h
  unfold sp_p_is_line at h
  split at h
  · rename_i i d
    obtain ⟨i0, i8, N, an, h⟩ := h
    obtain ⟨a, e⟩ := an.ty
    simp only [startD]
    unfold t_p_is_line
    walk_at "st"
    refine ⟨i0, i8, ?_⟩
    walk_at "st"
    cases d with
    | lst xs =>
      obtain ⟨hl, ok⟩ := an.lst
      walk_at "st"
      cases hb : (xs.length : Int) == i + 1 with
      | false =>
        refine w_iteT rfl ?_
        walk_at "st"
        refine tf_f h fun ⟨is, e1, e2⟩ => ?_
        injection e1 with e1
        rw [e1, List.length_map, beq_eq_false_iff_ne] at hb
        exact hb e2
      | true =>
        refine w_iteF rfl ?_
        walk_at "st"
        refine comp_pure (fun x => .bl (isW x)) xs [] _ (by simp; omega) (fun x hx P0 q => ?_) ?_
        · walk_at "st"
          exact ⟨(ok x hx).ty, q⟩
        rw [List.nil_append]
        walk_at "st"
        refine w_all (bls_map isW xs) ?_
        rw [all_id]
        walk_at "st"
        refine tf_e h ?_
        rw [isWs_iff]
        refine ⟨fun ⟨is, e1⟩ => ⟨is, by rw [e1], ?_⟩, fun ⟨is, e1, _⟩ => ?_⟩
        · have := beq_iff_eq.mp hb
          rw [e1, List.length_map] at this
          exact this
        · injection e1 with e1
          exact ⟨is, e1⟩
    | _ => cases e <;> (walk_at "st"; exact tf_f h fun ⟨_, e1, _⟩ => by cases e1)
  · exact h.elim
theorem ok_p_is_line (T : Tx P K mg) : FnG P w K mg base 3 T.f_p_is_line T.d_p_is_line ["many", "thing"] (spD K sp_p_is_line) := by
  have G_p_look_at_many := ok_p_look_at_many (P := P) (w := w) (base := base) T
  have G_p_is_whole := ok_p_is_whole (P := P) (w := w) (base := base) T
  exact fnG_of (k := 2) (t := t_p_is_line) T.F_p_is_line sc_p_is_line len_p_is_line
    (fun cdv A outer s H hr => pds_cons (pds_expr (pd_call G_p_look_at_many (hr.mono (by decide)) rfl T.g_p_look_at_many T.F_p_look_at_many.kp T.b_p_look_at_many_1 (pda_cons (pd_var 0) (pda_nil)))) (pds_cons (pds_if (pdt_w (pdw_or (pdt_not (pdt_val (pd_isi .list (by decide) rfl T.n_isinstance rfl T.n_list (by decide +kernel) (by decide) (by decide) (pd_var 1)))) (pdw_or1 (pdt_cmp (op_neF hr.r.units) opd_ne (pd_callB call_len cal_len rfl T.n_len (by decide +kernel) (pda_cons (pd_var 1) (pda_nil))) (pd_op op_addD opd_add (pd_var 0) (pd_int)))))) (pds_one (pds_ret (pd_bl))) (pds_nil)) (pds_one (pds_ret (pd_callB (cr_all rfl) cal_all rfl T.n_all (by decide +kernel) (pda_cons (pd_lc (own := [("part", 2)]) rfl sc_p_is_line.nd (pdi_list (pd_var 1)) (blkOk_by (own := [("part", 2)]) (by kernel_rfl)) (fun _ _ _ _ _ => pg_name (i := 2) sc_p_is_line.nd rfl (by first | exact .inl rfl | exact .inr rfl)) (tg_name (i := 2) (by decide)) (mon_name (i := 2)) (fun _ _ _ _ _ => pdts_nil) (fun _ _ _ _ _ => pd_call G_p_is_whole (hr.mono (by decide)) rfl T.g_p_is_whole T.F_p_is_whole.kp T.b_p_is_whole_1 (pda_cons (pd_var 2) (pda_nil)))) (pda_nil)))))))
    sem_p_is_line
def sp_p_is_wish : FS := fun ds ms P => match ds with
  | [.int i, d] => ∃ w, d = wiD w ∧ 0 ≤ i ∧ i ≤ 8 ∧ (w.fs.length : Int) = i ∧ P (.bl true) ms
  | _ => False
theorem len_p_is_wish : ∀ ds ms Q, sp_p_is_wish ds ms Q → ds.length = 2 := fun ds ms Q h => by
  unfold sp_p_is_wish at h
  split at h <;> first | rfl | exact h.elim
def t_p_is_wish : DTS := dSeq (dDrop (dCall 1 0 [0] sp_p_look_at_many (aCons (dVar 0) (aNil)) (aNil))) (dSeq (dIfS (dOr (dNot (dTest (dIsi .tuple (dVar 1)))) (dTest (dOp fNe (dCB cLen (aCons (dVar 1) (aNil))) (dC (.int 2))))) (dRet (dC (.bl false))) (dNext)) (dSeq (dAsg (dVar 1) (sTup 2 (sCons (sName 2) (sCons (sName 3) (sNil))))) (dSeq (dIfS (dOr (dNot (dTest (dIsi .str (dVar 2)))) (dTest (dOp fNotIn (dVar 2) (dTup (aCons (dC (.str "least")) (aCons (dC (.str "just")) (aNil))))))) (dRet (dC (.bl false))) (dNext)) (dRet (dCall 2 0 [0, 1] sp_p_is_line (aCons (dVar 0) (aCons (dVar 3) (aNil))) (aNil))))))
theorem in_wd {j : Bool} {ms : MS} {P : D → MS → Prop} (q : P (.bl false) ms) : InOk (wdD j) [.str "least", .str "just"] true ms P := by
  have e : ([PyData.str "least", PyData.str "just"].any fun z => PyData.eqv z (.str (if j then "just" else "least" : String))) = true := by cases j <;> decide +kernel
  have h0 : (Str.ofString (if j then "just" else "least" : String)).cps.all (· < 0x110000) = true := ofString_ok _
  refine ⟨.str (Str.ofString (if j then "just" else "least" : String)), [.str "least", .str "just"], ?_, rfl, h0, Nat.zero_le _, by decide +kernel, ?_⟩
  · unfold wdD; cases j <;> rfl
  · rw [e]; exact q
theorem sem_p_is_wish : ∀ ds ms Q, sp_p_is_wish ds ms Q → t_p_is_wish { nx := fun _ m => Q .non m, rt := Q } (startD 4 ds) ms := by
  intro ds ms Q h
  unfold sp_p_is_wish at h
  split at h
  · rename_i i d
    obtain ⟨w, rfl, h0, h8, hl, h⟩ := h
    obtain ⟨N, hN⟩ := ints_any (w.l :: w.fs)
    simp only [startD]
    unfold t_p_is_wish
    walk_at "st"
    refine ⟨h0, h8, ?_⟩
    walk_at "st"
    unfold wiD
    walk_at "st"
    refine in_wd ?_
    walk_at "st"
    refine ⟨h0, h8, N, anyx_ints (is := w.l :: w.fs) (by rw [List.length_cons]; omega) hN, ?_⟩
    rw [show tf (Lin i (.lst (D.int w.l :: w.fs.map D.int))) = true from tf_yes ⟨w.l :: w.fs, rfl, by rw [List.length_cons]; omega⟩]
    exact h
  · exact h.elim
theorem ok_p_is_wish (T : Tx P K mg) : FnG P w K mg base 4 T.f_p_is_wish T.d_p_is_wish ["many", "thing"] (spD K sp_p_is_wish) := by
  have G_p_look_at_many := ok_p_look_at_many (P := P) (w := w) (base := base) T
  have G_p_is_line := ok_p_is_line (P := P) (w := w) (base := base) T
  exact fnG_of (k := 3) (t := t_p_is_wish) T.F_p_is_wish sc_p_is_wish len_p_is_wish
    (fun cdv A outer s H hr => pds_cons (pds_expr (pd_call G_p_look_at_many (hr.mono (by decide)) rfl T.g_p_look_at_many T.F_p_look_at_many.kp T.b_p_look_at_many_1 (pda_cons (pd_var 0) (pda_nil)))) (pds_cons (pds_if (pdt_w (pdw_or (pdt_not (pdt_val (pd_isi .tuple (by decide) rfl T.n_isinstance rfl T.n_tuple (by decide +kernel) (by decide) (by decide) (pd_var 1)))) (pdw_or1 (pdt_cmp (op_neF hr.r.units) opd_ne (pd_callB call_len cal_len rfl T.n_len (by decide +kernel) (pda_cons (pd_var 1) (pda_nil))) (pd_int))))) (pds_one (pds_ret (pd_bl))) (pds_nil)) (pds_cons (pds_asg (vs := [2, 3]) (pd_var 1) (pg_tup rfl (pgs_cons (pg_name (i := 2) sc_p_is_wish.nd rfl (.inl rfl)) (pgs_cons (pg_name (i := 3) sc_p_is_wish.nd rfl (.inl rfl)) (pgs_nil)))) (tg_tup (tgs_cons (tg_name (i := 2) (by decide)) (tgs_cons (tg_name (i := 3) (by decide)) (tgs_nil) (mon_name (i := 3))) (mon_name (i := 2))))) (pds_cons (pds_if (pdt_w (pdw_or (pdt_not (pdt_val (pd_isi .str (by decide) rfl T.n_isinstance rfl T.n_str (by decide +kernel) (by decide) (by decide) (pd_var 2)))) (pdw_or1 (pdt_cmp (op_notInF hr.r.units) opd_notIn (pd_var 2) (pd_tup (pda_cons (pd_glob (v := .str "least") rfl T.c_LEAST ⟨_, rfl⟩ (fun _ => .str _)) (pda_cons (pd_glob (v := .str "just") rfl T.c_JUST ⟨_, rfl⟩ (fun _ => .str _)) (pda_nil)))) (by rfl))))) (pds_one (pds_ret (pd_bl))) (pds_nil)) (pds_one (pds_ret (pd_call G_p_is_line (hr.mono (by decide)) rfl T.g_p_is_line T.F_p_is_line.kp T.b_p_is_line_2 (pda_cons (pd_var 0) (pda_cons (pd_var 3) (pda_nil))))))))))
    sem_p_is_wish
/-- shares for wishes -/
structure ShV (ws : List Wi) (ss : List (Int × Int)) : Prop where
  ln : ss.length = ws.length
  lo : ∀ s ∈ ss, Low s
  sg : ∀ p ∈ ws.zip ss, p.1.j = false → 0 ≤ p.2.1
def IsSh (ws : List Wi) (d : D) : Prop := ∃ ss : List (Int × Int), d = .lst (ss.map fr) ∧ ShV ws ss
def sp_p_is_shares : FS := fun ds ms P => match ds with
  | [.lst zs, d] => ∃ (ws : List Wi) (N : Nat), zs = ws.map wiD ∧ AnyX N d ∧ N ≤ 4000 ∧ P (.bl (tf (IsSh ws d))) ms
  | _ => False
theorem len_p_is_shares : ∀ ds ms Q, sp_p_is_shares ds ms Q → ds.length = 2 := fun ds ms Q h => by
  unfold sp_p_is_shares at h
  split at h <;> first | rfl | exact h.elim
def t_p_is_shares : DTS := dSeq (dIfS (dOr (dNot (dTest (dIsi .list (dVar 1)))) (dTest (dOp fNe (dCB cLen (aCons (dVar 1) (aNil))) (dCB cLen (aCons (dVar 0) (aNil)))))) (dRet (dC (.bl false))) (dNext)) (dSeq (dIfS (dNot (dTest (dCB cAll (aCons (dLc (iSeq (dVar 1)) (sName 2) (dYes) (dCall 1 0 [0] sp_p_is_fraction (aCons (dVar 2) (aNil)) (aNil)) [2]) (aNil))))) (dRet (dC (.bl false))) (dNext)) (dRet (dCB cAll (aCons (dLc (iZipD (aCons (dVar 0) (aCons (dVar 1) (aNil)))) (sTup 2 (sCons (sTup 2 (sCons (sName 3) (sCons (sName 4) (sNil)))) (sCons (sName 2) (sNil)))) (dYes) (dOrV (dOp fNe (dVar 3) (dC (.str "least"))) (dOp fGe (dOp fIx (dVar 2) (dC (.int 0))) (dC (.int 0)))) [2, 3, 4]) (aNil)))))
theorem sem_p_is_shares : ∀ ds ms Q, sp_p_is_shares ds ms Q → t_p_is_shares { nx := fun _ m => Q .non m, rt := Q } (startD 5 ds) ms := by
  intro ds ms Q h
  unfold sp_p_is_shares at h
  split at h
  · rename_i zs d
    obtain ⟨ws, N, rfl, an, hN, h⟩ := h
    obtain ⟨a, e⟩ := an.ty
    simp only [startD]
    unfold t_p_is_shares
    walk_at "st"
    cases d with
    | lst xs =>
      obtain ⟨hl, ok⟩ := an.lst
      walk_at "st"
      rw [List.length_map]
      by_cases hb : xs.length ≠ ws.length
      · refine w_iteT (by rw [Bool.not_eq_true', beq_eq_false_iff_ne]; omega) ?_
        walk_at "st"
        refine tf_f h fun ⟨ss, e1, o⟩ => ?_
        injection e1 with e1
        rw [e1, List.length_map] at hb
        exact hb o.ln
      have hb : xs.length = ws.length := by omega
      refine w_iteF (by rw [hb]; simp) ?_
      walk_at "st"
      refine comp_pure (fun x => .bl (isF x)) xs [] _ (by simp; omega) (fun x hx P0 q => ?_) ?_
      · walk_at "st"
        exact ⟨(ok x hx).okF hN, q⟩
      rw [List.nil_append]
      walk_at "st"
      refine w_all (bls_map isF xs) ?_
      rw [all_id]
      cases ha : xs.all isF with
      | false =>
        walk_at "st"
        refine tf_f h fun ⟨ss, e1, o⟩ => ?_
        injection e1 with e1
        rw [isFs_iff.mpr ⟨ss, e1, o.lo⟩] at ha
        cases ha
      | true =>
      obtain ⟨ss, rfl, lo⟩ := isFs_iff.mp ha
      rw [List.length_map] at hb hl
      walk_at "st"
      rw [zipD_mp]
      simp only [wipeD, List.set]
      refine comp_e (fun p : Wi × (Int × Int) => D.tup [wiD p.1, fr p.2]) (fun p => D.bl (p.1.j || decide (0 ≤ p.2.1))) (ws.zip ss) [] _ (by rw [List.length_zip, List.length_nil]; omega) (fun p hp P0 q => ?_) ?_
      · obtain ⟨⟨j, l, fs⟩, t⟩ := p
        simp only [wiD, wdD]
        walk_at "st"
        cases j with
        | true =>
          refine w_iteT (by rw [if_pos rfl]; decide +kernel) ?_
          exact q
        | false =>
          refine w_iteF (by rw [if_neg (by decide)]; decide +kernel) ?_
          simp only [fr]
          walk_at "st"
          exact q
      rw [List.nil_append]
      walk_at "st"
      refine w_all (bls_map _ _) ?_
      rw [all_id]
      refine tf_e h ?_
      rw [List.all_eq_true]
      constructor
      · intro z
        refine ⟨ss, rfl, hb, lo, fun p hp hj => ?_⟩
        have := z p hp
        rw [hj, Bool.false_or] at this
        exact of_decide_eq_true this
      · rintro ⟨ts, e1, o⟩ p hp
        injection e1 with e1
        have := frs_inj e1
        subst this
        cases hj : p.1.j with
        | true => rfl
        | false => rw [decide_eq_true (o.sg p hp hj)]; rfl
    | _ => cases e <;> (walk_at "st"; exact tf_f h fun ⟨_, e1, _⟩ => by cases e1)
  · exact h.elim
theorem ok_p_is_shares (T : Tx P K mg) : FnG P w K mg base 3 T.f_p_is_shares T.d_p_is_shares ["wishes", "thing"] (spD K sp_p_is_shares) := by
  have G_p_is_fraction := ok_p_is_fraction (P := P) (w := w) (base := base) T
  exact fnG_of (k := 2) (t := t_p_is_shares) T.F_p_is_shares sc_p_is_shares len_p_is_shares
    (fun cdv A outer s H hr => pds_cons (pds_if (pdt_w (pdw_or (pdt_not (pdt_val (pd_isi .list (by decide) rfl T.n_isinstance rfl T.n_list (by decide +kernel) (by decide) (by decide) (pd_var 1)))) (pdw_or1 (pdt_cmp (op_neF hr.r.units) opd_ne (pd_callB call_len cal_len rfl T.n_len (by decide +kernel) (pda_cons (pd_var 1) (pda_nil))) (pd_callB call_len cal_len rfl T.n_len (by decide +kernel) (pda_cons (pd_var 0) (pda_nil))))))) (pds_one (pds_ret (pd_bl))) (pds_nil)) (pds_cons (pds_if (pdt_not (pdt_val (pd_callB (cr_all rfl) cal_all rfl T.n_all (by decide +kernel) (pda_cons (pd_lc (own := [("share", 2)]) rfl sc_p_is_shares.nd (pdi_list (pd_var 1)) (blkOk_by (own := [("share", 2)]) (by kernel_rfl)) (fun _ _ _ _ _ => pg_name (i := 2) sc_p_is_shares.nd rfl (by first | exact .inl rfl | exact .inr rfl)) (tg_name (i := 2) (by decide)) (mon_name (i := 2)) (fun _ _ _ _ _ => pdts_nil) (fun _ _ _ _ _ => pd_call G_p_is_fraction (hr.mono (by decide)) rfl T.g_p_is_fraction T.F_p_is_fraction.kp T.b_p_is_fraction_1 (pda_cons (pd_var 2) (pda_nil)))) (pda_nil))))) (pds_one (pds_ret (pd_bl))) (pds_nil)) (pds_one (pds_ret (pd_callB (cr_all rfl) cal_all rfl T.n_all (by decide +kernel) (pda_cons (pd_lc (own := [("share", 2), ("word", 3), ("line", 4)]) rfl sc_p_is_shares.nd (pdi_zip rfl T.n_zip (pda_cons (pd_var 0) (pda_cons (pd_var 1) (pda_nil)))) (blkOk_by (own := [("share", 2), ("word", 3), ("line", 4)]) (by kernel_rfl)) (fun _ _ _ _ _ => pg_tup rfl (pgs_cons (pg_tup rfl (pgs_cons (pg_name (i := 3) sc_p_is_shares.nd rfl (by first | exact .inl rfl | exact .inr rfl)) (pgs_cons (pg_name (i := 4) sc_p_is_shares.nd rfl (by first | exact .inl rfl | exact .inr rfl)) (pgs_nil)))) (pgs_cons (pg_name (i := 2) sc_p_is_shares.nd rfl (by first | exact .inl rfl | exact .inr rfl)) (pgs_nil)))) (tg_tup (tgs_cons (tg_tup (tgs_cons (tg_name (i := 3) (by decide)) (tgs_cons (tg_name (i := 4) (by decide)) (tgs_nil) (mon_name (i := 4))) (mon_name (i := 3)))) (tgs_cons (tg_name (i := 2) (by decide)) (tgs_nil) (mon_name (i := 2))) (mon_tup (mon_cons (mon_name (i := 3)) (mon_cons (mon_name (i := 4)) (mon_nil)))))) (mon_tup (mon_cons (mon_tup (mon_cons (mon_name (i := 3)) (mon_cons (mon_name (i := 4)) (mon_nil)))) (mon_cons (mon_name (i := 2)) (mon_nil)))) (fun _ _ _ _ _ => pdts_nil) (fun _ _ _ _ _ => pd_or (pd_cmp (op_neF hr.r.units) opd_ne (pd_var 3) (pd_glob (v := .str "least") rfl T.c_LEAST ⟨_, rfl⟩ (fun _ => .str _))) (pd_one (pd_cmp op_ge opd_ge (pd_ix ix_seq opd_ix (pd_var 2) (pd_int)) (pd_int))))) (pda_nil)))))))
    sem_p_is_shares
/-- what shares add up to, place by place -/
def totL : List (Int × Int) → List (List Int) → List (Int × Int) → List (Int × Int)
  | t, ls :: lss, s :: ss => totL (List.zipWith (fun u n => addT u (mulT (n, 1) s)) t ls) lss ss
  | t, [], _ => t
  | t, _ :: _, [] => t
def sp_p_added_over : FS := fun ds ms P => match ds with
  | [.lst zs, .lst ys, .int n] => ∃ (ws : List Wi) (ss : List (Int × Int)) (L N : Nat), zs = ws.map wiD ∧ ys = ss.map fr ∧ (∀ w ∈ ws, ∀ x ∈ w.ls, Bd L x) ∧ (∀ s ∈ ss, FB N N s) ∧ L + N + 2 + (N + 2) * ws.length ≤ 3800 ∧ 0 ≤ n ∧ n ≤ 100 ∧ P (.lst ((totL (List.replicate n.toNat (0, 1)) (ws.map Wi.ls) ss).map fr)) ms
  | _ => False
theorem len_p_added_over : ∀ ds ms Q, sp_p_added_over ds ms Q → ds.length = 3 := fun ds ms Q h => by
  unfold sp_p_added_over at h
  split at h <;> first | rfl | exact h.elim
def t_p_added_over : DTS := dSeq (dAsg (dLc (iRange1 (aCons (dVar 2) (aNil))) (sName 7) (dYes) (dC k_NOUGHT) [7]) (sName 3)) (dSeq (dFor (iZipD (aCons (dVar 0) (aCons (dVar 1) (aNil)))) (sTup 2 (sCons (sTup 2 (sCons (sName 4) (sCons (sName 5) (sNil)))) (sCons (sName 6) (sNil)))) (dAsg (dLc (iZipD (aCons (dVar 3) (aCons (dVar 5) (aNil)))) (sTup 2 (sCons (sName 8) (sCons (sName 9) (sNil)))) (dYes) (dCall 2 0 [0, 1] sp_p_plus (aCons (dVar 8) (aCons (dCall 2 0 [0, 1] sp_p_times (aCons (dTup (aCons (dVar 9) (aCons (dC (.int 1)) (aNil)))) (aCons (dVar 6) (aNil))) (aNil)) (aNil))) (aNil)) [8, 9]) (sName 3))) (dRet (dVar 3)))
def stepD (s : Int × Int) (d : D) : D := match d with
  | .tup [.tup [.int a, .int b], .int n] => fr (addT (a, b) (mulT (n, 1) s))
  | _ => .non
theorem tot_loop {L N : Nat} (hLN : L + N + 1 ≤ 3900) {tb : DTS} {E : EN} {ms : MS} {x0 x1 x2 : Option D}
    (htb : ∀ (w : Wi) (s : Int × Int) (t : List (Int × Int)) (A B : Nat) (G : DS → MS → Prop) (y7 y8 y9 : Option D), (∀ x ∈ w.ls, Bd L x) → FB N N s → (∀ u ∈ t, FB A B u) → t.length ≤ 100 → A ≤ 3900 → B ≤ 3900 →
      (∀ y7 y8 y9, G [x0, x1, x2, some (.lst ((List.zipWith (fun u n => addT u (mulT (n, 1) s)) t w.ls).map fr)), some (wdD w.j), some (.lst (w.ls.map D.int)), some (fr s), y7, y8, y9] ms) →
      tb (EN.lp E G) [x0, x1, x2, some (.lst (t.map fr)), some (wdD w.j), some (.lst (w.ls.map D.int)), some (fr s), y7, y8, y9] ms) :
    ∀ (ws : List Wi) (ss : List (Int × Int)) (t : List (Int × Int)) (A B : Nat) (x4 x5 x6 x7 x8 x9 : Option D), (∀ w ∈ ws, ∀ x ∈ w.ls, Bd L x) → (∀ s ∈ ss, FB N N s) → (∀ u ∈ t, FB A B u) → t.length ≤ 100 → L + B ≤ A + 1 → A + (N + 2) * ws.length ≤ 3890 →
      (∀ x4 x5 x6 x7 x8 x9, E.nx [x0, x1, x2, some (.lst ((totL t (ws.map Wi.ls) ss).map fr)), x4, x5, x6, x7, x8, x9] ms) →
      loopD (sTup 2 (sCons (sTup 2 (sCons (sName 4) (sCons (sName 5) sNil))) (sCons (sName 6) sNil))) tb E (zipD (ws.map wiD) (ss.map fr)) [x0, x1, x2, some (.lst (t.map fr)), x4, x5, x6, x7, x8, x9] ms
  | [], ss, t, A, B, x4, x5, x6, x7, x8, x9, _, _, _, _, _, _, q => by
    have e : zipD (([] : List Wi).map wiD) (ss.map fr) = [] := by cases ss <;> rfl
    have e2 : totL t (([] : List Wi).map Wi.ls) ss = t := by cases ss <;> rfl
    rw [e2] at q
    rw [e]
    exact w_loopN (q _ _ _ _ _ _)
  | w :: ws, [], t, A, B, x4, x5, x6, x7, x8, x9, _, _, _, _, _, _, q => w_loopN (q _ _ _ _ _ _)
  | w :: ws, s :: ss, t, A, B, x4, x5, x6, x7, x8, x9, hw, hs, ht, hl, hN, hM, q => by
    rw [List.length_cons, Nat.mul_succ] at hM
    show loopD _ _ _ (.tup [wiD w, fr s] :: zipD (ws.map wiD) (ss.map fr)) _ _
    refine w_loopC ?_
    simp only [wiD_ls]
    walk_at "st"
    have hw0 := hw w List.mem_cons_self
    have hs0 := hs s List.mem_cons_self
    refine htb w s t A B _ _ _ _ hw0 hs0 ht hl (by omega) (by omega) fun y7 y8 y9 => ?_
    walk_at "st"
    refine tot_loop hLN htb ws ss _ (A + N + 2) (B + N + 1) _ _ _ _ _ _ (fun x hx => hw x (List.mem_cons_of_mem _ hx)) (fun x hx => hs x (List.mem_cons_of_mem _ hx)) (fun u hu => ?_) ?_ (by omega) (by omega) q
    · obtain ⟨i, hi, e⟩ := List.mem_iff_getElem.mp hu
      rw [List.getElem_zipWith] at e
      rw [← e]
      rw [List.length_zipWith] at hi
      have h1 := fb_mul (fb_int (hw0 (w.ls[i]'(by omega)) (List.getElem_mem _))) hs0
      exact (fb_add (k := A + N + 1) (ht (t[i]'(by omega)) (List.getElem_mem _)) h1 (by omega) (by omega)).mono (by omega) (by omega)
    · rw [List.length_zipWith]; omega
theorem sem_p_added_over : ∀ ds ms Q, sp_p_added_over ds ms Q → t_p_added_over { nx := fun _ m => Q .non m, rt := Q } (startD 10 ds) ms := by
  intro ds ms Q h
  unfold sp_p_added_over at h
  split at h
  · rename_i zs ys n
    obtain ⟨ws, ss, L, N, rfl, rfl, hw, hs, hl, n0, n1, h⟩ := h
    simp only [startD]
    unfold t_p_added_over
    walk_at "st"
    refine w_mRng ⟨by omega, by omega⟩ ?_
    refine comp_pure (fun _ => k_NOUGHT) _ [] _ (by rw [rng_len]; simp; omega) (fun x hx P0 q => ?_) ?_
    · walk_at "st"; exact q
    · have e0 : ([] : List D) ++ (rng 0 n.toNat).map (fun _ => k_NOUGHT) = (List.replicate n.toNat ((0 : Int), (1 : Int))).map fr := by
        rw [List.nil_append, List.map_replicate, List.map_const', rng_len]; rfl
      rw [e0]
      walk_at "st"
      refine tot_loop (L := L) (N := N) (by omega) (fun w s t A B G y7 y8 y9 hw hs ht hl hN hM q => ?_) ws ss _ (L + 1) 1 _ _ _ _ _ _ hw hs (fun u hu => ?_) (by rw [List.length_replicate]; omega) (by omega) (by omega) ?_
      · walk_at "st"
        rw [zipD_mp]
        have ez : (List.zipWith (fun u n => addT u (mulT (n, 1) s)) t w.ls).map fr = ((t.zip w.ls).map fun p => D.tup [fr p.1, D.int p.2]).map (stepD s) := by
          rw [List.map_map, List.map_zipWith, ← List.map_uncurry_zip_eq_zipWith]
          rfl
        simp only [wipeD, List.set]
        refine comp_pure (stepD s) _ [] _ (by simp only [List.length_nil, List.length_map, List.length_zip]; omega) (fun x hx P0 q0 => ?_) ?_
        · obtain ⟨⟨⟨a, b⟩, n⟩, hp, rfl⟩ := List.mem_map.mp hx
          have hu := ht _ (List.of_mem_zip hp).1
          have hn := hw _ (List.of_mem_zip hp).2
          obtain ⟨s1, s2⟩ := s
          have h1 := fb_mul (fb_int hn) hs
          have b1 : Bd 4000 1 := (show Bd 1 (1 : Int) by unfold Bd; decide).mono (by decide)
          simp only [fr] at q0 ⊢
          walk_at "st"
          refine ⟨⟨by decide, hs.ne, hn.mono (by omega), b1, hs.top.mono (by omega), hs.bot.mono (by omega)⟩, ?_⟩
          simp only [fr]
          walk_at "st"
          refine ⟨⟨hu.ne, h1.ne, hu.top.mono (by omega), hu.bot.mono (by omega), h1.top.mono (by omega), h1.bot.mono (by omega)⟩, ?_⟩
          exact q0
        · rw [List.nil_append, ← ez]
          walk_at "st"
          exact q _ _ _
      · rw [List.eq_of_mem_replicate hu]
        exact (fb_int (n := 1) (by unfold Bd; decide)).mono (by omega) (by decide)
      · intro x4 x5 x6 x7 x8 x9
        walk_at "st"
        exact h
  · exact h.elim
theorem ok_p_added_over (T : Tx P K mg) : FnG P w K mg base 4 T.f_p_added_over T.d_p_added_over ["wishes", "shares", "width"] (spD K sp_p_added_over) := by
  have G_p_plus := ok_p_plus (P := P) (w := w) (base := base) T
  have G_p_times := ok_p_times (P := P) (w := w) (base := base) T
  exact fnG_of (k := 3) (t := t_p_added_over) T.F_p_added_over sc_p_added_over len_p_added_over
    (fun cdv A outer s H hr => pds_cons (pds_setLc (i := 3) (own := [("place", 7)]) rfl sc_p_added_over.nd rfl rfl (sw_true rfl rfl rfl (by decide +kernel)) (pdi_range1 rfl T.n_range (pda_cons (pd_var 2) (pda_nil))) (blkOk_by (own := [("place", 7)]) (by kernel_rfl)) (fun _ _ _ _ _ => pg_name (i := 7) sc_p_added_over.nd rfl (by first | exact .inl rfl | exact .inr rfl)) (tg_name (i := 7) (by decide)) (mon_name (i := 7)) (fun _ _ _ _ _ => pdts_nil) (fun _ _ _ _ _ => pd_glob (v := .ref T.a_NOUGHT) rfl T.c_NOUGHT rfl T.k_NOUGHT)) (pds_cons (pds_for (vs := [6, 4, 5]) rfl (pdi_zip rfl T.n_zip (pda_cons (pd_var 0) (pda_cons (pd_var 1) (pda_nil)))) (pg_tup rfl (pgs_cons (pg_tup rfl (pgs_cons (pg_name (i := 4) sc_p_added_over.nd rfl (.inl rfl)) (pgs_cons (pg_name (i := 5) sc_p_added_over.nd rfl (.inl rfl)) (pgs_nil)))) (pgs_cons (pg_name (i := 6) sc_p_added_over.nd rfl (.inr rfl)) (pgs_nil)))) (tg_tup (tgs_cons (tg_tup (tgs_cons (tg_name (i := 4) (by decide)) (tgs_cons (tg_name (i := 5) (by decide)) (tgs_nil) (mon_name (i := 5))) (mon_name (i := 4)))) (tgs_cons (tg_name (i := 6) (by decide)) (tgs_nil) (mon_name (i := 6))) (mon_tup (mon_cons (mon_name (i := 4)) (mon_cons (mon_name (i := 5)) (mon_nil)))))) (pds_one (pds_setLc (i := 3) (own := [("sofar", 8), ("number", 9)]) rfl sc_p_added_over.nd rfl rfl (sw_true rfl rfl rfl (by decide +kernel)) (pdi_zip rfl T.n_zip (pda_cons (pd_var 3) (pda_cons (pd_var 5) (pda_nil)))) (blkOk_by (own := [("sofar", 8), ("number", 9)]) (by kernel_rfl)) (fun _ _ _ _ _ => pg_tup rfl (pgs_cons (pg_name (i := 8) sc_p_added_over.nd rfl (by first | exact .inl rfl | exact .inr rfl)) (pgs_cons (pg_name (i := 9) sc_p_added_over.nd rfl (by first | exact .inl rfl | exact .inr rfl)) (pgs_nil)))) (tg_tup (tgs_cons (tg_name (i := 8) (by decide)) (tgs_cons (tg_name (i := 9) (by decide)) (tgs_nil) (mon_name (i := 9))) (mon_name (i := 8)))) (mon_tup (mon_cons (mon_name (i := 8)) (mon_cons (mon_name (i := 9)) (mon_nil)))) (fun _ _ _ _ _ => pdts_nil) (fun _ _ _ _ _ => pd_call G_p_plus (hr.mono (by decide)) rfl T.g_p_plus T.F_p_plus.kp T.b_p_plus_2 (pda_cons (pd_var 8) (pda_cons (pd_call G_p_times (hr.mono (by decide)) rfl T.g_p_times T.F_p_times.kp T.b_p_times_2 (pda_cons (pd_tup (pda_cons (pd_var 9) (pda_cons (pd_int) (pda_nil)))) (pda_cons (pd_var 6) (pda_nil)))) (pda_nil))))))) (pds_one (pds_ret (pd_var 3)))))
    sem_p_added_over
def hdT (ts : List (Int × Int)) : Int × Int := ts.headD (0, 1)
/-- whether what shares come to is a line, its plain number or less -/
def carT (l : Int) (fs : List Int) (ts : List (Int × Int)) : Bool := decide (ts.tail = fs.map fun f => (f, 1)) && decide ((hdT ts).1 ≤ l * (hdT ts).2)
def dotR : List Int → List Rat → Rat
  | f :: fs, n :: ns => (f : Rat) * n + dotR fs ns
  | [], _ => 0
  | _ :: _, [] => 0
theorem val_worGo : ∀ (fs : List Int) (ns : List (Int × Int)) (t : Int × Int), Low t → (∀ n ∈ ns, Low n) → Low (worGo t fs ns) ∧ val (worGo t fs ns) = val t + dotR fs (ns.map val)
  | [], ns, t, ht, _ => by
    unfold worGo dotR
    exact ⟨ht, by grind⟩
  | f :: fs, [], t, ht, _ => by
    unfold worGo
    exact ⟨ht, by show val t = val t + dotR (f :: fs) []; unfold dotR; grind⟩
  | f :: fs, n :: ns, t, ht, hn => by
    have h0 := hn n List.mem_cons_self
    have hm : Low (mulT (f, 1) n) := low_mul (p := (f, 1)) (by show (1 : Int) ≠ 0; decide) h0.ne
    have ha : Low (addT t (mulT (f, 1) n)) := low_add ht.ne hm.ne
    obtain ⟨h1, h2⟩ := val_worGo fs ns _ ha fun x hx => hn x (List.mem_cons_of_mem _ hx)
    unfold worGo
    refine ⟨h1, ?_⟩
    rw [h2, val_add ht.ne hm.ne, val_mul (p := (f, 1)) (by show (1 : Int) ≠ 0; decide) h0.ne, val_int, List.map_cons]
    show val t + (f : Rat) * val n + dotR fs (ns.map val) = val t + ((f : Rat) * val n + dotR fs (ns.map val))
    grind
/-- the numbers at one place of the wishes -/
def colW (ws : List Wi) (k : Nat) : List Int := ws.map fun w => w.ls.getD k 0
/-- shares that carry a line -/
structure CarV (ws : List Wi) (ls : Int × List Int) (ss : List (Int × Int)) : Prop where
  ln : ss.length = ws.length
  lo : ∀ s ∈ ss, Low s
  sg : ∀ p ∈ ws.zip ss, p.1.j = false → 0 ≤ p.2.1
  hd : dotR (colW ws 0) (ss.map val) ≤ (ls.1 : Rat)
  tl : ∀ k, k < ls.2.length → dotR (colW ws (k + 1)) (ss.map val) = (ls.2.getD k 0 : Rat)
def IsCar (ws : List Wi) (ls : Int × List Int) (d : D) : Prop := ∃ ss : List (Int × Int), d = .lst (ss.map fr) ∧ CarV ws ls ss
structure CFit (ws : List Wi) (l : Int) (fs : List Int) (N : Nat) : Prop where
  ex : ∃ L, (∀ w ∈ ws, ∀ x ∈ w.ls, Bd L x) ∧ Bd L l ∧ L + N + 2 + (N + 2) * ws.length ≤ 3800
  wl : ∀ w ∈ ws, w.fs.length = fs.length
  f0 : fs.length ≤ 50
def sp_p_carries : FS := fun ds ms P => match ds with
  | [.lst zs, .lst ys, d] => ∃ (ws : List Wi) (l : Int) (fs : List Int) (N : Nat), zs = ws.map wiD ∧ ys = .int l :: fs.map D.int ∧ CFit ws l fs N ∧ AnyX N d ∧ P (.bl (tf (IsCar ws (l, fs) d))) ms
  | _ => False
theorem len_p_carries : ∀ ds ms Q, sp_p_carries ds ms Q → ds.length = 3 := fun ds ms Q h => by
  unfold sp_p_carries at h
  split at h <;> first | rfl | exact h.elim
def t_p_carries : DTS := dSeq (dIfS (dNot (dTest (dCall 2 0 [0, 1] sp_p_is_shares (aCons (dVar 0) (aCons (dVar 2) (aNil))) (aNil)))) (dRet (dC (.bl false))) (dNext)) (dSeq (dAsg (dCall 3 0 [0, 1, 2] sp_p_added_over (aCons (dVar 0) (aCons (dVar 2) (aCons (dCB cLen (aCons (dVar 1) (aNil))) (aNil)))) (aNil)) (sName 3)) (dSeq (dIfS (dTest (dOp fNe (dSl (dVar 3) (oSome (dC (.int 1))) (oNone)) (dLc (iSeq (dSl (dVar 1) (oSome (dC (.int 1))) (oNone))) (sName 4) (dYes) (dTup (aCons (dVar 4) (aCons (dC (.int 1)) (aNil)))) [4]))) (dRet (dC (.bl false))) (dNext)) (dRet (dNotV (dCall 2 0 [0, 1] sp_p_is_below (aCons (dTup (aCons (dOp fIx (dVar 1) (dC (.int 0))) (aCons (dC (.int 1)) (aNil)))) (aCons (dOp fIx (dVar 3) (dC (.int 0))) (aNil))) (aNil))))))
theorem totL_len : ∀ (lss : List (List Int)) (ss t : List (Int × Int)) (n : Nat), t.length = n → (∀ l ∈ lss, l.length = n) → (totL t lss ss).length = n
  | [], ss, t, n, h, _ => by cases ss <;> exact h
  | l :: lss, [], t, n, h, _ => h
  | l :: lss, s :: ss, t, n, h, hl => by
    refine totL_len lss ss _ n ?_ fun l hl' => hl l (List.mem_cons_of_mem _ hl')
    rw [List.length_zipWith, h, hl l List.mem_cons_self, Nat.min_self]
theorem totL_get : ∀ (lss : List (List Int)) (ss t : List (Int × Int)) (n i : Nat) (hi : i < n) (ht : t.length = n) (hl : ∀ l ∈ lss, l.length = n), (totL t lss ss)[i]? = some (worGo (t.getD i (0, 1)) (lss.map fun l => l.getD i 0) ss)
  | [], ss, t, n, i, hi, ht, _ => by
    have e : totL t [] ss = t := by cases ss <;> rfl
    have e2 : worGo (t.getD i (0, 1)) (([] : List (List Int)).map fun l => l.getD i 0) ss = t.getD i (0, 1) := by
      show worGo _ [] ss = _
      unfold worGo
      rfl
    rw [e, e2, List.getD_eq_getElem?_getD, List.getElem?_eq_getElem (by omega)]
    rfl
  | l :: lss, [], t, n, i, hi, ht, _ => by
    have e : totL t (l :: lss) [] = t := rfl
    have e2 : worGo (t.getD i (0, 1)) ((l :: lss).map fun l => l.getD i 0) [] = t.getD i (0, 1) := rfl
    rw [e, e2, List.getD_eq_getElem?_getD, List.getElem?_eq_getElem (by omega)]
    rfl
  | l :: lss, s :: ss, t, n, i, hi, ht, hl => by
    have h0 := hl l List.mem_cons_self
    show (totL (List.zipWith (fun u n => addT u (mulT (n, 1) s)) t l) lss ss)[i]? = _
    rw [totL_get lss ss _ n i hi (by rw [List.length_zipWith, ht, h0, Nat.min_self]) fun l hl' => hl l (List.mem_cons_of_mem _ hl')]
    congr 1
    show worGo _ _ ss = worGo (addT (t.getD i (0, 1)) (mulT (l.getD i 0, 1) s)) _ ss
    congr 1
    rw [List.getD_eq_getElem?_getD, List.getD_eq_getElem?_getD, List.getD_eq_getElem?_getD, List.getElem?_eq_getElem (by rw [List.length_zipWith]; omega), List.getElem?_eq_getElem (by omega), List.getElem?_eq_getElem (by omega), List.getElem_zipWith]
    rfl
theorem car_iff {ws : List Wi} {ls : Int × List Int} {ss : List (Int × Int)} (hl : ∀ w ∈ ws, w.fs.length = ls.2.length) (lo : ∀ s ∈ ss, Low s) :
    carT ls.1 ls.2 (totL (List.replicate (ls.2.length + 1) (0, 1)) (ws.map Wi.ls) ss) = true ↔ (dotR (colW ws 0) (ss.map val) ≤ (ls.1 : Rat) ∧ ∀ k, k < ls.2.length → dotR (colW ws (k + 1)) (ss.map val) = (ls.2.getD k 0 : Rat)) := by
  have hlen : ∀ l ∈ ws.map Wi.ls, l.length = ls.2.length + 1 := fun l hl' => by
    obtain ⟨w, hw, rfl⟩ := List.mem_map.mp hl'
    show w.fs.length + 1 = _
    rw [hl w hw]
  have htl := totL_len (ws.map Wi.ls) ss (List.replicate (ls.2.length + 1) (0, 1)) _ (List.length_replicate ..) hlen
  have hget : ∀ i, i < ls.2.length + 1 → ∃ u, (totL (List.replicate (ls.2.length + 1) (0, 1)) (ws.map Wi.ls) ss)[i]? = some u ∧ Low u ∧ val u = dotR (colW ws i) (ss.map val) := by
    intro i hi
    refine ⟨_, totL_get (ws.map Wi.ls) ss (List.replicate (ls.2.length + 1) (0, 1)) _ i hi (List.length_replicate ..) hlen, ?_⟩
    have e0 : (List.replicate (ls.2.length + 1) ((0 : Int), (1 : Int))).getD i (0, 1) = (0, 1) := by
      rw [List.getD_eq_getElem?_getD, List.getElem?_replicate]
      split <;> rfl
    rw [e0, List.map_map]
    obtain ⟨z1, z2⟩ := val_worGo (ws.map fun w => w.ls.getD i 0) ss (0, 1) (low_int 0) lo
    refine ⟨z1, ?_⟩
    have z3 : val ((0 : Int), (1 : Int)) = 0 := by rw [val_int]; rfl
    show val (worGo (0, 1) (ws.map fun w => w.ls.getD i 0) ss) = dotR (ws.map fun w => w.ls.getD i 0) (ss.map val)
    rw [z2, z3]
    grind
  generalize totL (List.replicate (ls.2.length + 1) (0, 1)) (ws.map Wi.ls) ss = ts at htl hget ⊢
  cases ts with
  | nil => cases htl
  | cons t ts =>
    rw [List.length_cons] at htl
    obtain ⟨u0, e0, l0, v0⟩ := hget 0 (by omega)
    cases e0
    unfold carT
    show (decide (ts = ls.2.map fun f => (f, 1)) && decide (t.1 ≤ ls.1 * t.2)) = true ↔ _
    have hd : t.1 ≤ ls.1 * t.2 ↔ dotR (colW ws 0) (ss.map val) ≤ (ls.1 : Rat) := by
      have h3 := (cross_lt (p := (ls.1, 1)) (q := t) (by show (0 : Int) < 1; decide) l0.pos)
      rw [val_int, v0] at h3
      rw [← Rat.not_lt, h3]
      show _ ↔ ¬ ls.1 * t.2 < t.1 * 1
      omega
    rw [Bool.and_eq_true_iff, decide_eq_true_iff, decide_eq_true_iff, hd]
    refine ⟨fun ⟨e1, e2⟩ => ⟨e2, fun i hi => ?_⟩, fun ⟨e2, e1⟩ => ⟨?_, e2⟩⟩
    · obtain ⟨u, e, l, v⟩ := hget (i + 1) (by omega)
      rw [List.getElem?_cons_succ, e1, List.getElem?_map, List.getElem?_eq_getElem hi] at e
      cases e
      rw [← v, List.getD_eq_getElem?_getD, List.getElem?_eq_getElem hi]
      exact val_int _
    · refine List.ext_getElem? fun i => ?_
      by_cases hi : i < ls.2.length
      · obtain ⟨u, e, l, v⟩ := hget (i + 1) (by omega)
        rw [List.getElem?_cons_succ] at e
        have h2 := e1 i hi
        rw [List.getD_eq_getElem?_getD, List.getElem?_eq_getElem hi] at h2
        rw [e, List.getElem?_map, List.getElem?_eq_getElem hi]
        refine congrArg some (val_inj l (low_int _) ?_)
        rw [v, h2, val_int]
        rfl
      · rw [List.getElem?_eq_none (by omega), List.getElem?_eq_none (by rw [List.length_map]; omega)]
theorem eqv_frs : ∀ (ts us : List (Int × Int)), ∃ ps qs, toPys (ts.map fr) = some ps ∧ toPys (us.map fr) = some qs ∧ PyData.eqv (.list ps) (.list qs) = decide (ts = us)
  | [], [] => ⟨[], [], rfl, rfl, rfl⟩
  | [], (a, b) :: us => by
    obtain ⟨ps, qs, e1, e2, _⟩ := eqv_frs [] us
    exact ⟨[], _ :: qs, rfl, by rw [List.map_cons]; unfold toPys; rw [e2]; rfl, rfl⟩
  | (a, b) :: ts, [] => by
    obtain ⟨ps, qs, e1, e2, _⟩ := eqv_frs ts []
    exact ⟨_ :: ps, [], by rw [List.map_cons]; unfold toPys; rw [e1]; rfl, rfl, rfl⟩
  | (a, b) :: ts, (c, d) :: us => by
    obtain ⟨ps, qs, e1, e2, e3⟩ := eqv_frs ts us
    refine ⟨.tuple [.int a, .int b] :: ps, .tuple [.int c, .int d] :: qs, by rw [List.map_cons]; unfold toPys; rw [e1]; rfl, by rw [List.map_cons]; unfold toPys; rw [e2]; rfl, ?_⟩
    have e4 : PyData.eqv (.list (.tuple [.int a, .int b] :: ps)) (.list (.tuple [.int c, .int d] :: qs)) = (((a == c) && ((b == d) && true)) && PyData.eqv (.list ps) (.list qs)) := rfl
    rw [e4, e3]
    by_cases h : (a, b) = (c, d)
    · cases h
      simp
    · have : ¬ (a = c ∧ b = d) := fun z => h (by rw [z.1, z.2])
      simp only [List.cons.injEq, Prod.mk.injEq]
      by_cases h1 : a = c
      · have h2 : ¬ b = d := fun z => this ⟨h1, z⟩
        simp [h1, h2]
      · simp [h1]
theorem eq_frs (ts us : List (Int × Int)) : eqD (.lst (ts.map fr)) (.lst (us.map fr)) = decide (ts = us) := by
  obtain ⟨ps, qs, e1, e2, e3⟩ := eqv_frs ts us
  rw [← e3]
  unfold eqD toPy
  rw [e1, e2]
  rfl
theorem sh_frs (ts : List (Int × Int)) : ShD (.lst (ts.map fr)) := by
  have go : ∀ ts : List (Int × Int), ∃ ps, toPys (ts.map fr) = some ps ∧ PyData.canLayAll0 ps = true ∧ PyData.depthAll ps ≤ 1 := by
    intro ts
    induction ts with
    | nil => exact ⟨[], rfl, rfl, Nat.zero_le _⟩
    | cons t r ih =>
      obtain ⟨ps, e, h1, h2⟩ := ih
      refine ⟨.tuple [.int t.1, .int t.2] :: ps, by rw [List.map_cons]; unfold toPys; rw [e]; rfl, by show (_ && PyData.canLayAll0 ps) = true; rw [h1]; rfl, ?_⟩
      exact Nat.max_le.mpr ⟨Nat.le_refl 1, h2⟩
  obtain ⟨ps, e, h1, h2⟩ := go ts
  refine ⟨.list ps, by unfold toPy; rw [e]; rfl, ?_⟩
  unfold SeqAt.shaped
  rw [show (PyData.list ps).canLay0 = PyData.canLayAll0 ps from rfl, h1, decide_eq_true (show (PyData.list ps).depth ≤ 64 from (show PyData.depthAll ps + 1 ≤ 64 by omega))]
  rfl
theorem w_eq_frs {ts us : List (Int × Int)} {ms : MS} {P : D → MS → Prop} (h : P (.bl (decide (ts = us))) ms) : fEq (.lst (ts.map fr)) (.lst (us.map fr)) ms P := by
  cases us with
  | nil =>
    have e : (ts.map fr).isEmpty = decide (ts = []) := by cases ts <;> rfl
    show P (.bl (ts.map fr).isEmpty) ms
    rw [e]; exact h
  | cons u us => exact w_eq_lc ⟨sh_frs ts, sh_frs (u :: us), by rw [show D.lst (fr u :: us.map fr) = .lst ((u :: us).map fr) from rfl, eq_frs]; exact h⟩
theorem w_ne_frs {ts us : List (Int × Int)} {ms : MS} {P : D → MS → Prop} (h : P (.bl (!decide (ts = us))) ms) : fNe (.lst (ts.map fr)) (.lst (us.map fr)) ms P := by
  cases us with
  | nil =>
    have e : (ts.map fr).isEmpty = decide (ts = []) := by cases ts <;> rfl
    show P (.bl (!(ts.map fr).isEmpty)) ms
    rw [e]; exact h
  | cons u us => exact w_ne_lc ⟨sh_frs ts, sh_frs (u :: us), by rw [show D.lst (fr u :: us.map fr) = .lst ((u :: us).map fr) from rfl, eq_frs]; exact h⟩
theorem mem_totL {L N : Nat} {lss : List (List Int)} {ss : List (Int × Int)} {n : Nat} (hn : n ≤ 100) (h0 : ∀ l ∈ lss, ∀ x ∈ l, Bd L x) (hl : ∀ l ∈ lss, l.length = n) (hs : ∀ s ∈ ss, FB N N s) (hw : L + N + 2 + (N + 2) * lss.length ≤ 3800) : ∀ u ∈ totL (List.replicate n (0, 1)) lss ss, FB 3900 3900 u := by
  intro u hu
  obtain ⟨i, hi, e⟩ := List.mem_iff_getElem.mp hu
  have hlen := totL_len lss ss (List.replicate n (0, 1)) n (List.length_replicate ..) hl
  have hg := totL_get lss ss (List.replicate n (0, 1)) n i (by omega) (List.length_replicate ..) hl
  rw [List.getElem?_eq_getElem hi, e] at hg
  have hg := Option.some.inj hg
  rw [hg]
  have e0 : (List.replicate n ((0 : Int), (1 : Int))).getD i (0, 1) = (0, 1) := by
    rw [List.getD_eq_getElem?_getD, List.getElem?_replicate]
    split <;> rfl
  rw [e0]
  have b0 : FB (L + 1) 1 ((0 : Int), (1 : Int)) := (fb_int (n := 1) (by unfold Bd; decide)).mono (by omega) (by decide)
  have e : (N + 2) * lss.length = (N + 1) * lss.length + lss.length := by rw [Nat.succ_mul]
  refine (fb_worG (L := L) (N := N) (lss.map fun l => l.getD i 0) ss (0, 1) (L + 1) 1 b0 (fun f hf => ?_) hs (by omega)).mono ?_ ?_
  · obtain ⟨l, hl', rfl⟩ := List.mem_map.mp hf
    have := hl l hl'
    rw [List.getD_eq_getElem?_getD, List.getElem?_eq_getElem (by omega)]
    exact h0 l hl' _ (List.getElem_mem _)
  · rw [List.length_map]; omega
  · rw [List.length_map]; omega
def oneD (d : D) : D := match d with
  | .int f => fr (f, 1)
  | _ => .non
theorem sem_p_carries : ∀ ds ms Q, sp_p_carries ds ms Q → t_p_carries { nx := fun _ m => Q .non m, rt := Q } (startD 5 ds) ms := by
  intro ds ms Q h
  unfold sp_p_carries at h
  split at h
  · rename_i zs ys d
    obtain ⟨ws, l, fs, N, rfl, rfl, hF, an, h⟩ := h
    obtain ⟨L, hw, hl0, hb⟩ := hF.ex
    have hf0 := hF.f0
    simp only [startD]
    unfold t_p_carries
    walk_at "st"
    refine ⟨ws, N, rfl, an, by omega, ?_⟩
    cases hs : tf (IsSh ws d) with
    | false =>
      walk_at "st"
      refine tf_f h fun ⟨ss, e, c⟩ => ?_
      rw [tf_yes ⟨ss, e, c.ln, c.lo, c.sg⟩] at hs
      cases hs
    | true =>
    obtain ⟨ss, rfl, sv⟩ := tf_iff.mp hs
    have fs' := any_fbs an sv.lo
    have hlen : ∀ l ∈ ws.map Wi.ls, l.length = fs.length + 1 := fun l hl => by
      obtain ⟨w, hw, rfl⟩ := List.mem_map.mp hl
      show w.fs.length + 1 = _
      rw [hF.wl w hw]
    have hbd := mem_totL (L := L) (N := N) (n := fs.length + 1) (by omega) (fun l hl => by obtain ⟨w, hw', rfl⟩ := List.mem_map.mp hl; exact hw w hw') hlen fs' (by rw [List.length_map]; exact hb)
    have htl := totL_len (ws.map Wi.ls) ss (List.replicate (fs.length + 1) (0, 1)) _ (List.length_replicate ..) hlen
    have ci := car_iff (ls := (l, fs)) (fun w h => hF.wl w h) sv.lo
    walk_at "st"
    refine ⟨ws, ss, L, N, rfl, rfl, hw, fs', hb, by omega, by simp only [List.length_cons, List.length_map]; omega, ?_⟩
    have en : (((D.int l :: fs.map D.int).length : Nat) : Int).toNat = fs.length + 1 := by simp
    rw [en]
    have h : Q (.bl (tf (IsCar ws (l, fs) (.lst (ss.map fr))))) ms := h
    have gi : IsCar ws (l, fs) (.lst (ss.map fr)) ↔ carT l fs (totL (List.replicate (fs.length + 1) (0, 1)) (ws.map Wi.ls) ss) = true := by
      rw [ci]
      refine ⟨fun ⟨ts, e, c⟩ => ?_, fun c => ⟨ss, rfl, sv.ln, sv.lo, sv.sg, c.1, c.2⟩⟩
      injection e with e
      have := frs_inj e
      subst this
      exact ⟨c.hd, c.tl⟩
    generalize totL (List.replicate (fs.length + 1) (0, 1)) (ws.map Wi.ls) ss = ts at gi hbd htl ⊢
    match ts, htl, hbd, gi with
    | [], htl, _, _ => cases htl
    | t :: ts, htl, hbd, gi =>
      have gi : IsCar ws (l, fs) (.lst (ss.map fr)) ↔ (decide (ts = fs.map fun f => (f, 1)) && decide (t.1 ≤ l * t.2)) = true := gi
      rw [List.map_cons]
      walk_at "st"
      rw [cut_1, cut_1]
      refine comp_pure oneD _ [] _ (by simp only [List.length_nil, List.length_map]; omega) (fun x hx P0 q0 => ?_) ?_
      · obtain ⟨f, hf, rfl⟩ := List.mem_map.mp hx
        walk_at "st"
        exact q0
      have e1 : ([] : List D) ++ (fs.map D.int).map oneD = (fs.map fun f => (f, (1 : Int))).map fr := by
        rw [List.nil_append, List.map_map, List.map_map]; rfl
      rw [e1]
      walk_at "st"
      refine w_ne_frs ?_
      walk_at "st"
      by_cases he : ts = fs.map fun f => (f, 1)
      · rw [decide_eq_true he] at gi ⊢
        refine w_iteF rfl ?_
        have ht := hbd t List.mem_cons_self
        obtain ⟨t1, t2⟩ := t
        simp only [fr]
        walk_at "st"
        refine ⟨⟨hl0.mono (by omega), (show Bd 1 (1 : Int) by unfold Bd; decide).mono (by decide), ht.top.mono (by decide), ht.bot.mono (by decide)⟩, ?_⟩
        walk_at "st"
        refine tf_e h ?_
        rw [gi, Int.mul_one, Bool.true_and, ← decide_not]
        exact (decide_eq_decide.mpr Int.not_lt) ▸ Iff.rfl
      · rw [decide_eq_false he] at gi ⊢
        refine w_iteT rfl ?_
        walk_at "st"
        exact tf_f h fun z => by have := gi.mp z; cases this
  · exact h.elim
theorem ok_p_carries (T : Tx P K mg) : FnG P w K mg base 5 T.f_p_carries T.d_p_carries ["wishes", "line", "thing"] (spD K sp_p_carries) := by
  have G_p_added_over := ok_p_added_over (P := P) (w := w) (base := base) T
  have G_p_is_shares := ok_p_is_shares (P := P) (w := w) (base := base) T
  have G_p_is_below := ok_p_is_below (P := P) (w := w) (base := base) T
  exact fnG_of (k := 4) (t := t_p_carries) T.F_p_carries sc_p_carries len_p_carries
    (fun cdv A outer s H hr => pds_cons (pds_if (pdt_not (pdt_val (pd_call G_p_is_shares (hr.mono (by decide)) rfl T.g_p_is_shares T.F_p_is_shares.kp T.b_p_is_shares_2 (pda_cons (pd_var 0) (pda_cons (pd_var 2) (pda_nil)))))) (pds_one (pds_ret (pd_bl))) (pds_nil)) (pds_cons (pds_set (i := 3) sc_p_carries.nd rfl (.inl rfl) (pd_call G_p_added_over (hr.mono (by decide)) rfl T.g_p_added_over T.F_p_added_over.kp T.b_p_added_over_3 (pda_cons (pd_var 0) (pda_cons (pd_var 2) (pda_cons (pd_callB call_len cal_len rfl T.n_len (by decide +kernel) (pda_cons (pd_var 1) (pda_nil))) (pda_nil)))))) (pds_cons (pds_if (pdt_cmp (op_neF hr.r.units) opd_ne (pd_slice (pd_var 3) (pdo_some (pd_int)) (pdo_none)) (pd_lc (own := [("factor", 4)]) rfl sc_p_carries.nd (pdi_list (pd_slice (pd_var 1) (pdo_some (pd_int)) (pdo_none))) (blkOk_by (own := [("factor", 4)]) (by kernel_rfl)) (fun _ _ _ _ _ => pg_name (i := 4) sc_p_carries.nd rfl (by first | exact .inl rfl | exact .inr rfl)) (tg_name (i := 4) (by decide)) (mon_name (i := 4)) (fun _ _ _ _ _ => pdts_nil) (fun _ _ _ _ _ => pd_tup (pda_cons (pd_var 4) (pda_cons (pd_int) (pda_nil)))))) (pds_one (pds_ret (pd_bl))) (pds_nil)) (pds_one (pds_ret (pd_not (pd_call G_p_is_below (hr.mono (by decide)) rfl T.g_p_is_below T.F_p_is_below.kp T.b_p_is_below_2 (pda_cons (pd_tup (pda_cons (pd_ix ix_seq opd_ix (pd_var 1) (pd_int)) (pda_cons (pd_int) (pda_nil)))) (pda_cons (pd_ix ix_seq opd_ix (pd_var 3) (pd_int)) (pda_nil))))))))))
    sem_p_carries
def m1D (n : Int) : List D := .int (-1) :: (List.replicate n.toNat (0 : Int)).map D.int
def sp_p_minus_one : FS := fun ds ms P => match ds with
  | [.int n] => 0 ≤ n ∧ n ≤ 8 ∧ P (.lst (m1D n)) ms
  | _ => False
theorem len_p_minus_one : ∀ ds ms Q, sp_p_minus_one ds ms Q → ds.length = 1 := fun ds ms Q h => by
  unfold sp_p_minus_one at h
  split at h <;> first | rfl | exact h.elim
def t_p_minus_one : DTS := dRet (dOp fAdd (dLst (aCons (dNeg (dC (.int 1))) (aNil))) (dOp fMul (dLst (aCons (dC (.int 0)) (aNil))) (dVar 0)))
theorem rep_flat {α : Type} (x : α) : ∀ n : Nat, (List.replicate n [x]).flatten = List.replicate n x
  | 0 => rfl
  | n + 1 => by rw [List.replicate_succ, List.flatten_cons, rep_flat x n]; rfl
theorem m1D_eq (n : Int) : [D.int (-1)] ++ (List.replicate n.toNat [D.int 0]).flatten = m1D n := by
  unfold m1D
  rw [rep_flat, List.map_replicate]
  rfl
theorem sem_p_minus_one : ∀ ds ms Q, sp_p_minus_one ds ms Q → t_p_minus_one { nx := fun _ m => Q .non m, rt := Q } (startD 1 ds) ms := by
  intro ds ms Q h
  unfold sp_p_minus_one at h
  split at h
  · rename_i n
    obtain ⟨h0, h8, h⟩ := h
    simp only [startD]
    unfold t_p_minus_one
    walk_at "st"
    refine ⟨⟨by omega, by omega, Nat.le_trans (by simp; omega : [D.int 0].length * n.toNat ≤ 100) (by decide)⟩, ?_⟩
    walk_at "st"
    refine ⟨Nat.le_trans (by rw [rep_flat, List.length_replicate]; simp; omega : [D.int (-1)].length + ((List.replicate n.toNat [D.int 0]).flatten).length ≤ 100) (by decide), ?_⟩
    rw [m1D_eq]
    walk_at "st"
    exact h
  · exact h.elim
theorem ok_p_minus_one (T : Tx P K mg) : FnG P w K mg base 1 T.f_p_minus_one T.d_p_minus_one ["many"] (spD K sp_p_minus_one) := by
  exact fnG_of (k := 0) (t := t_p_minus_one) T.F_p_minus_one sc_p_minus_one len_p_minus_one
    (fun cdv A outer s H hr => pds_one (pds_ret (pd_op op_addD opd_add (pd_lst (pda_cons (pd_neg (pd_int)) (pda_nil))) (pd_op op_mulA opd_mul (pd_lst (pda_cons (pd_int) (pda_nil))) (pd_var 0)))))
    sem_p_minus_one
def sp_p_is_letters : FS := fun ds ms P => match ds with
  | [.str x, .int n] => n = 6 ∧ goodNm x = true ∧ P (.bl true) ms
  | _ => False
theorem len_p_is_letters : ∀ ds ms Q, sp_p_is_letters ds ms Q → ds.length = 2 := fun ds ms Q h => by
  unfold sp_p_is_letters at h
  split at h <;> first | rfl | exact h.elim
def t_p_is_letters : DTS := dSeq (dIfS (dOr (dNot (dTest (dIsi .str (dVar 0)))) (dOr (dTest (dOp fLt (dCB cLen (aCons (dVar 0) (aNil))) (dC (.int 1)))) (dTest (dOp fGt (dCB cLen (aCons (dVar 0) (aNil))) (dVar 1))))) (dRet (dC (.bl false))) (dNext)) (dRet (dCB cAll (aCons (dLc (iStrD (dVar 0)) (sName 2) (dYes) (dOp fInSign (dVar 2) (dC (.str "abcdefghijklmnopqrstuvwxyz"))) [2]) (aNil))))
theorem letters_lit : (Str.ofString "abcdefghijklmnopqrstuvwxyz").cps.toList = [97, 98, 99, 100, 101, 102, 103, 104, 105, 106, 107, 108, 109, 110, 111, 112, 113, 114, 115, 116, 117, 118, 119, 120, 121, 122] := by decide +kernel
theorem in_letters (c : Nat) : decide (c ∈ (Str.ofString "abcdefghijklmnopqrstuvwxyz").cps.toList) = (decide (97 ≤ c) && decide (c < 123)) := by
  rw [letters_lit, Bool.eq_iff_iff, decide_eq_true_iff, Bool.and_eq_true_iff, decide_eq_true_iff, decide_eq_true_iff]
  simp only [List.mem_cons, List.not_mem_nil, or_false]
  omega
theorem sem_p_is_letters : ∀ ds ms Q, sp_p_is_letters ds ms Q → t_p_is_letters { nx := fun _ m => Q .non m, rt := Q } (startD 3 ds) ms := by
  intro ds ms Q h
  unfold sp_p_is_letters at h
  split at h
  · rename_i x n
    obtain ⟨rfl, hg, h⟩ := h
    unfold goodNm at hg
    rw [Bool.and_eq_true_iff, Bool.and_eq_true_iff] at hg
    obtain ⟨⟨g1, g2⟩, g3⟩ := hg
    have g1 := of_decide_eq_true g1
    have g2 := of_decide_eq_true g2
    have sz : x.length ≤ sizeLine := Nat.le_trans g2 (by decide)
    simp only [startD]
    unfold t_p_is_letters
    walk_at "st"
    refine ⟨sz, ?_⟩
    walk_at "st"
    refine w_iteF (decide_eq_false (by omega)) ?_
    walk_at "st"
    refine ⟨sz, ?_⟩
    walk_at "st"
    refine w_iteF (decide_eq_false (by omega)) ?_
    walk_at "st"
    simp only [wipeD, List.set]
    have hl : x.cps.toList.length ≤ 6 := g2
    refine comp_e (fun c => D.str ⟨#[c]⟩) (fun c => D.bl (decide (97 ≤ c) && decide (c < 123))) x.cps.toList [] _ (by simp only [List.length_nil]; omega) (fun c hc P0 q => ?_) ?_
    · walk_at "st"
      rw [in_letters]
      exact q
    · rw [List.nil_append]
      walk_at "st"
      refine w_all (bls_map _ _) ?_
      rw [show (x.cps.toList.map fun c => decide (97 ≤ c) && decide (c < 123)).all id = x.cps.toList.all fun c => decide (97 ≤ c) && decide (c < 123) by rw [List.all_map]; rfl, g3]
      walk_at "st"
      exact h
  · exact h.elim
theorem ok_p_is_letters (T : Tx P K mg) : FnG P w K mg base 1 T.f_p_is_letters T.d_p_is_letters ["thing", "most"] (spD K sp_p_is_letters) := by
  exact fnG_of (k := 0) (t := t_p_is_letters) T.F_p_is_letters sc_p_is_letters len_p_is_letters
    (fun cdv A outer s H hr => pds_cons (pds_if (pdt_w (pdw_or (pdt_not (pdt_val (pd_isi .str (by decide) rfl T.n_isinstance rfl T.n_str (by decide +kernel) (by decide) (by decide) (pd_var 0)))) (pdw_or (pdt_cmp op_lt opd_lt (pd_callB call_len cal_len rfl T.n_len (by decide +kernel) (pda_cons (pd_var 0) (pda_nil))) (pd_int)) (pdw_or1 (pdt_cmp op_gt opd_gt (pd_callB call_len cal_len rfl T.n_len (by decide +kernel) (pda_cons (pd_var 0) (pda_nil))) (pd_var 1)))))) (pds_one (pds_ret (pd_bl))) (pds_nil)) (pds_one (pds_ret (pd_callB (cr_all rfl) cal_all rfl T.n_all (by decide +kernel) (pda_cons (pd_lc (own := [("sign", 2)]) rfl sc_p_is_letters.nd (pdi_str (pd_var 0)) (blkOk_by (own := [("sign", 2)]) (by kernel_rfl)) (fun _ _ _ _ _ => pg_name (i := 2) sc_p_is_letters.nd rfl (by first | exact .inl rfl | exact .inr rfl)) (tg_name (i := 2) (by decide)) (mon_name (i := 2)) (fun _ _ _ _ _ => pdts_nil) (fun _ _ _ _ _ => pd_cmp op_in_sign opd_inSign (pd_var 2) (pd_glob (v := .str "abcdefghijklmnopqrstuvwxyz") rfl T.c_LETTERS ⟨_, rfl⟩ (fun _ => .str _)) (by rfl))) (pda_nil))))))
    sem_p_is_letters
def sp_p_is_name : FS := fun ds ms P => match ds with
  | [.str x] => goodNm x = true ∧ P (.bl true) ms
  | _ => False
theorem len_p_is_name : ∀ ds ms Q, sp_p_is_name ds ms Q → ds.length = 1 := fun ds ms Q h => by
  unfold sp_p_is_name at h
  split at h <;> first | rfl | exact h.elim
def t_p_is_name : DTS := dRet (dCall 2 0 [0, 1] sp_p_is_letters (aCons (dVar 0) (aCons (dC (.int 6)) (aNil))) (aNil))
theorem sem_p_is_name : ∀ ds ms Q, sp_p_is_name ds ms Q → t_p_is_name { nx := fun _ m => Q .non m, rt := Q } (startD 1 ds) ms := by
  intro ds ms Q h
  unfold sp_p_is_name at h
  split at h
  · simp only [startD]
    unfold t_p_is_name
    walk_at "st"
    exact ⟨rfl, h⟩
  · exact h.elim
theorem ok_p_is_name (T : Tx P K mg) : FnG P w K mg base 2 T.f_p_is_name T.d_p_is_name ["thing"] (spD K sp_p_is_name) := by
  have G_p_is_letters := ok_p_is_letters (P := P) (w := w) (base := base) T
  exact fnG_of (k := 1) (t := t_p_is_name) T.F_p_is_name sc_p_is_name len_p_is_name
    (fun cdv A outer s H hr => pds_one (pds_ret (pd_call G_p_is_letters (hr.mono (by decide)) rfl T.g_p_is_letters T.F_p_is_letters.kp T.b_p_is_letters_2 (pda_cons (pd_var 0) (pda_cons (pd_glob (v := .int (6)) rfl T.c_LONGEST_NAME ⟨_, rfl⟩ (fun _ => .int _)) (pda_nil))))))
    sem_p_is_name
def sp_p_look_at_names : FS := fun ds ms P => match ds with
  | [.str _, .lst ys, .int n] => ∃ xs : List Str, ys = xs.map D.str ∧ 0 ≤ n ∧ n ≤ 6 ∧ NmOk n.toNat xs ∧ P .non ms
  | _ => False
theorem len_p_look_at_names : ∀ ds ms Q, sp_p_look_at_names ds ms Q → ds.length = 3 := fun ds ms Q h => by
  unfold sp_p_look_at_names at h
  split at h <;> first | rfl | exact h.elim
def t_p_look_at_names : DTS := dSeq (dIfS (dOr (dNot (dTest (dIsi .list (dVar 1)))) (dOr (dTest (dOp fLt (dCB cLen (aCons (dVar 1) (aNil))) (dC (.int 1)))) (dTest (dOp fGt (dCB cLen (aCons (dVar 1) (aNil))) (dVar 2))))) (dNever) (dNext)) (dFor (iEnumD (aCons (dVar 1) (aNil))) (sTup 2 (sCons (sName 3) (sCons (sName 4) (sNil)))) (dIfS (dOr (dNot (dTest (dCall 1 0 [0] sp_p_is_name (aCons (dVar 4) (aNil)) (aNil)))) (dTest (dOp fIn (dVar 4) (dSl (dVar 1) (oNone) (oSome (dVar 3)))))) (dNever) (dNext)))
theorem nm_notin {x : Str} {ys : List Str} {ms : MS} {P : D → MS → Prop} (hx : goodNm x = true) (hy : ∀ y ∈ ys, goodNm y = true) (hl : ys.length ≤ 100) (hn : x ∉ ys) (q : P (.bl false) ms) : InOk (.str x) (ys.map D.str) false ms P := by
  have py : ∀ ys : List Str, (∀ y ∈ ys, goodNm y = true) → toPys (ys.map D.str) = some (ys.map PyData.str) ∧ PyData.canLayAll0 (ys.map PyData.str) = true ∧ PyData.depthAll (ys.map PyData.str) = 0 := by
    intro ys
    induction ys with
    | nil => intro _; exact ⟨rfl, rfl, rfl⟩
    | cons y r ih =>
      intro h
      obtain ⟨e1, e2, e3⟩ := ih fun z hz => h z (List.mem_cons_of_mem _ hz)
      have ey : y.cps.all (· < 0x110000) = true := nm_ok (h y List.mem_cons_self)
      refine ⟨by rw [List.map_cons]; unfold toPys; rw [e1]; rfl, Bool.and_eq_true_iff.mpr ⟨ey, e2⟩, ?_⟩
      show max 0 (PyData.depthAll (r.map PyData.str)) = 0
      rw [e3]; rfl
  obtain ⟨e1, e2, e3⟩ := py ys hy
  refine ⟨.str x, ys.map PyData.str, rfl, e1, nm_ok hx, Nat.zero_le _, e2, ?_⟩
  · have e : ((ys.map PyData.str).any fun z => PyData.eqv z (.str x)) = false := by
      rw [List.any_map, List.any_eq_false]
      intro y hy z
      have z : (y == x) = true := z
      exact hn (beq_iff_eq.mp z ▸ hy)
    rw [e]
    exact q
theorem sem_p_look_at_names : ∀ ds ms Q, sp_p_look_at_names ds ms Q → t_p_look_at_names { nx := fun _ m => Q .non m, rt := Q } (startD 5 ds) ms := by
  intro ds ms Q h
  unfold sp_p_look_at_names at h
  split at h
  · rename_i part ys n
    obtain ⟨xs, rfl, n0, n6, ok, h⟩ := h
    have l1 := ok.l1
    have l2 := ok.l2
    simp only [startD]
    unfold t_p_look_at_names
    walk_at "st"
    refine w_iteF (decide_eq_false (by rw [List.length_map]; omega)) ?_
    walk_at "st"
    refine w_iteF (decide_eq_false (by rw [List.length_map]; omega)) ?_
    walk_at "st"
    refine loop_inv (fun ds m => m = ms ∧ ∃ x3 x4, ds = [some (.str part), some (.lst (xs.map D.str)), some (.int n), x3, x4]) _ _ _ ⟨rfl, _, _, rfl⟩ ?_ ?_
    · rintro d hd ds m ⟨rfl, x3, x4, rfl⟩ N hN
      obtain ⟨k, hk, rfl⟩ := enum_mem hd
      walk_at "st"
      refine ⟨ok.ok _ (List.getElem_mem hk), ?_⟩
      walk_at "st"
      rw [cut_to _ _ (by rw [List.length_map]; omega), ← List.map_take]
      refine nm_notin (ok.ok _ (List.getElem_mem hk)) (fun y hy => ok.ok y (List.mem_of_mem_take hy)) (by rw [List.length_take]; omega) (fun z => ?_) ?_
      · obtain ⟨j, hj, e⟩ := List.mem_iff_getElem.mp z
        rw [List.length_take] at hj
        rw [List.getElem_take] at e
        exact List.pairwise_iff_getElem.mp ok.nd j k (by omega) hk (by omega) e
      · walk_at "st"
        exact hN _ _ ⟨rfl, _, _, rfl⟩
    · rintro ds m ⟨rfl, _, _, rfl⟩
      exact h
  · exact h.elim
theorem ok_p_look_at_names (T : Tx P K mg) : FnG P w K mg base 3 T.f_p_look_at_names T.d_p_look_at_names ["part", "thing", "most"] (spD K sp_p_look_at_names) := by
  have G_p_is_name := ok_p_is_name (P := P) (w := w) (base := base) T
  exact fnG_of (k := 2) (t := t_p_look_at_names) T.F_p_look_at_names sc_p_look_at_names len_p_look_at_names
    (fun cdv A outer s H hr => pds_cons (pds_if (pdt_w (pdw_or (pdt_not (pdt_val (pd_isi .list (by decide) rfl T.n_isinstance rfl T.n_list (by decide +kernel) (by decide) (by decide) (pd_var 1)))) (pdw_or (pdt_cmp op_lt opd_lt (pd_callB call_len cal_len rfl T.n_len (by decide +kernel) (pda_cons (pd_var 1) (pda_nil))) (pd_int)) (pdw_or1 (pdt_cmp op_gt opd_gt (pd_callB call_len cal_len rfl T.n_len (by decide +kernel) (pda_cons (pd_var 1) (pda_nil))) (pd_var 2)))))) (pds_one (pds_never)) (pds_nil)) (pds_one (pds_for (vs := [3, 4]) rfl (pdi_enum rfl T.n_enumerate (pda_cons (pd_var 1) (pda_nil))) (pg_tup rfl (pgs_cons (pg_name (i := 3) sc_p_look_at_names.nd rfl (.inl rfl)) (pgs_cons (pg_name (i := 4) sc_p_look_at_names.nd rfl (.inl rfl)) (pgs_nil)))) (tg_tup (tgs_cons (tg_name (i := 3) (by decide)) (tgs_cons (tg_name (i := 4) (by decide)) (tgs_nil) (mon_name (i := 4))) (mon_name (i := 3)))) (pds_one (pds_if (pdt_w (pdw_or (pdt_not (pdt_val (pd_call G_p_is_name (hr.mono (by decide)) rfl T.g_p_is_name T.F_p_is_name.kp T.b_p_is_name_1 (pda_cons (pd_var 4) (pda_nil))))) (pdw_or1 (pdt_cmp (op_inF hr.r.units) opd_in (pd_var 4) (pd_slice (pd_var 1) (pdo_none) (pdo_some (pd_var 3))) (by rfl))))) (pds_one (pds_never)) (pds_nil))))))
    sem_p_look_at_names
def sp_p_is_wishes : FS := fun ds ms P => match ds with
  | [.int i, .lst ys] => ∃ (ws : List Wi) (B n : Nat), ys = ws.map wiD ∧ i = (n : Int) ∧ n ≤ 8 ∧ ws.length ≤ 12 ∧ (∀ w ∈ ws, WiOk B n w) ∧ P (.bl true) ms
  | _ => False
theorem len_p_is_wishes : ∀ ds ms Q, sp_p_is_wishes ds ms Q → ds.length = 2 := fun ds ms Q h => by
  unfold sp_p_is_wishes at h
  split at h <;> first | rfl | exact h.elim
def t_p_is_wishes : DTS := dSeq (dIfS (dOr (dNot (dTest (dIsi .list (dVar 1)))) (dTest (dOp fGt (dCB cLen (aCons (dVar 1) (aNil))) (dC (.int 12))))) (dRet (dC (.bl false))) (dNext)) (dRet (dCB cAll (aCons (dLc (iSeq (dVar 1)) (sName 2) (dYes) (dCall 2 0 [0, 1] sp_p_is_wish (aCons (dVar 0) (aCons (dVar 2) (aNil))) (aNil)) [2]) (aNil))))
theorem sem_p_is_wishes : ∀ ds ms Q, sp_p_is_wishes ds ms Q → t_p_is_wishes { nx := fun _ m => Q .non m, rt := Q } (startD 3 ds) ms := by
  intro ds ms Q h
  unfold sp_p_is_wishes at h
  split at h
  · rename_i i ys
    obtain ⟨ws, B, n, rfl, rfl, n8, wl, wo, h⟩ := h
    simp only [startD]
    unfold t_p_is_wishes
    walk_at "st"
    refine w_iteF (decide_eq_false (by rw [List.length_map]; omega)) ?_
    walk_at "st"
    simp only [wipeD, List.set]
    refine comp_e wiD (fun _ => D.bl true) ws [] _ (by simp; omega) (fun w hw P0 q => ?_) ?_
    · walk_at "st"
      exact ⟨w, rfl, by omega, by omega, by rw [(wo w hw).ln], q⟩
    · rw [List.nil_append]
      walk_at "st"
      obtain ⟨bs, e, hb⟩ := all_true (fun _ : Wi => D.bl true) (fun _ => rfl) ws
      refine w_all e ?_
      walk_at "st"
      rw [hb]
      exact h
  · exact h.elim
theorem ok_p_is_wishes (T : Tx P K mg) : FnG P w K mg base 5 T.f_p_is_wishes T.d_p_is_wishes ["many", "thing"] (spD K sp_p_is_wishes) := by
  have G_p_is_wish := ok_p_is_wish (P := P) (w := w) (base := base) T
  exact fnG_of (k := 4) (t := t_p_is_wishes) T.F_p_is_wishes sc_p_is_wishes len_p_is_wishes
    (fun cdv A outer s H hr => pds_cons (pds_if (pdt_w (pdw_or (pdt_not (pdt_val (pd_isi .list (by decide) rfl T.n_isinstance rfl T.n_list (by decide +kernel) (by decide) (by decide) (pd_var 1)))) (pdw_or1 (pdt_cmp op_gt opd_gt (pd_callB call_len cal_len rfl T.n_len (by decide +kernel) (pda_cons (pd_var 1) (pda_nil))) (pd_glob (v := .int (12)) rfl T.c_MOST_WISHES ⟨_, rfl⟩ (fun _ => .int _)))))) (pds_one (pds_ret (pd_bl))) (pds_nil)) (pds_one (pds_ret (pd_callB (cr_all rfl) cal_all rfl T.n_all (by decide +kernel) (pda_cons (pd_lc (own := [("wish", 2)]) rfl sc_p_is_wishes.nd (pdi_list (pd_var 1)) (blkOk_by (own := [("wish", 2)]) (by kernel_rfl)) (fun _ _ _ _ _ => pg_name (i := 2) sc_p_is_wishes.nd rfl (by first | exact .inl rfl | exact .inr rfl)) (tg_name (i := 2) (by decide)) (mon_name (i := 2)) (fun _ _ _ _ _ => pdts_nil) (fun _ _ _ _ _ => pd_call G_p_is_wish (hr.mono (by decide)) rfl T.g_p_is_wish T.F_p_is_wish.kp T.b_p_is_wish_2 (pda_cons (pd_var 0) (pda_cons (pd_var 2) (pda_nil))))) (pda_nil))))))
    sem_p_is_wishes
def sp_p_is_row : FS := fun ds ms P => match ds with
  | [.int a, .int b, d] => ∃ (r : Rw) (B sz pl : Nat), d = rwD r ∧ a = (sz : Int) ∧ b = (pl : Int) ∧ sz ≤ 3 ∧ RwOk B sz pl r ∧ P (.bl true) ms
  | _ => False
theorem len_p_is_row : ∀ ds ms Q, sp_p_is_row ds ms Q → ds.length = 3 := fun ds ms Q h => by
  unfold sp_p_is_row at h
  split at h <;> first | rfl | exact h.elim
def t_p_is_row : DTS := dSeq (dIfS (dOr (dNot (dTest (dIsi .tuple (dVar 2)))) (dTest (dOp fNe (dCB cLen (aCons (dVar 2) (aNil))) (dC (.int 3))))) (dRet (dC (.bl false))) (dNext)) (dSeq (dAsg (dVar 2) (sTup 3 (sCons (sName 3) (sCons (sName 4) (sCons (sName 5) (sNil)))))) (dSeq (dIfS (dOr (dNot (dTest (dCall 2 0 [0, 1] sp_p_is_one_of (aCons (dVar 1) (aCons (dVar 3) (aNil))) (aNil)))) (dNot (dTest (dCall 2 0 [0, 1] sp_p_is_one_of (aCons (dVar 1) (aCons (dVar 4) (aNil))) (aNil))))) (dRet (dC (.bl false))) (dNext)) (dRet (dCall 2 0 [0, 1] sp_p_is_wishes (aCons (dOp fMul (dC (.int 2)) (dVar 0)) (aCons (dVar 5) (aNil))) (aNil)))))
theorem sem_p_is_row : ∀ ds ms Q, sp_p_is_row ds ms Q → t_p_is_row { nx := fun _ m => Q .non m, rt := Q } (startD 6 ds) ms := by
  intro ds ms Q h
  unfold sp_p_is_row at h
  split at h
  · rename_i a b d
    obtain ⟨r, B, sz, pl, rfl, rfl, rfl, s3, ok, h⟩ := h
    simp only [startD]
    unfold t_p_is_row
    walk_at "st"
    unfold rwD
    walk_at "st"
    refine ⟨⟨_, rfl⟩, ?_⟩
    have hs : isAt (pl : Int) (.int r.s) = true := by
      show (decide (0 ≤ r.s) && decide (r.s < (pl : Int))) = true
      rw [decide_eq_true ok.s0, decide_eq_true ok.s1]; rfl
    have ht : isAt (pl : Int) (.int r.t) = true := by
      show (decide (0 ≤ r.t) && decide (r.t < (pl : Int))) = true
      rw [decide_eq_true ok.t0, decide_eq_true ok.t1]; rfl
    rw [hs]
    walk_at "st"
    refine ⟨⟨_, rfl⟩, ?_⟩
    rw [ht]
    walk_at "st"
    refine ⟨.inr (.inl ⟨by decide, by decide⟩), ?_⟩
    walk_at "st"
    refine ⟨r.ws, B, 2 * sz, rfl, by omega, by omega, ok.wl, ok.wo, ?_⟩
    exact h
  · exact h.elim
theorem ok_p_is_row (T : Tx P K mg) : FnG P w K mg base 6 T.f_p_is_row T.d_p_is_row ["names", "places", "thing"] (spD K sp_p_is_row) := by
  have G_p_is_wishes := ok_p_is_wishes (P := P) (w := w) (base := base) T
  have G_p_is_one_of := ok_p_is_one_of (P := P) (w := w) (base := base) T
  exact fnG_of (k := 5) (t := t_p_is_row) T.F_p_is_row sc_p_is_row len_p_is_row
    (fun cdv A outer s H hr => pds_cons (pds_if (pdt_w (pdw_or (pdt_not (pdt_val (pd_isi .tuple (by decide) rfl T.n_isinstance rfl T.n_tuple (by decide +kernel) (by decide) (by decide) (pd_var 2)))) (pdw_or1 (pdt_cmp (op_neF hr.r.units) opd_ne (pd_callB call_len cal_len rfl T.n_len (by decide +kernel) (pda_cons (pd_var 2) (pda_nil))) (pd_int))))) (pds_one (pds_ret (pd_bl))) (pds_nil)) (pds_cons (pds_asg (vs := [3, 4, 5]) (pd_var 2) (pg_tup rfl (pgs_cons (pg_name (i := 3) sc_p_is_row.nd rfl (.inl rfl)) (pgs_cons (pg_name (i := 4) sc_p_is_row.nd rfl (.inl rfl)) (pgs_cons (pg_name (i := 5) sc_p_is_row.nd rfl (.inl rfl)) (pgs_nil))))) (tg_tup (tgs_cons (tg_name (i := 3) (by decide)) (tgs_cons (tg_name (i := 4) (by decide)) (tgs_cons (tg_name (i := 5) (by decide)) (tgs_nil) (mon_name (i := 5))) (mon_name (i := 4))) (mon_name (i := 3))))) (pds_cons (pds_if (pdt_w (pdw_or (pdt_not (pdt_val (pd_call G_p_is_one_of (hr.mono (by decide)) rfl T.g_p_is_one_of T.F_p_is_one_of.kp T.b_p_is_one_of_2 (pda_cons (pd_var 1) (pda_cons (pd_var 3) (pda_nil)))))) (pdw_or1 (pdt_not (pdt_val (pd_call G_p_is_one_of (hr.mono (by decide)) rfl T.g_p_is_one_of T.F_p_is_one_of.kp T.b_p_is_one_of_2 (pda_cons (pd_var 1) (pda_cons (pd_var 4) (pda_nil))))))))) (pds_one (pds_ret (pd_bl))) (pds_nil)) (pds_one (pds_ret (pd_call G_p_is_wishes (hr.mono (by decide)) rfl T.g_p_is_wishes T.F_p_is_wishes.kp T.b_p_is_wishes_2 (pda_cons (pd_op op_mulA opd_mul (pd_int) (pd_var 0)) (pda_cons (pd_var 5) (pda_nil)))))))))
    sem_p_is_row
def sp_p_look_at_rows : FS := fun ds ms P => match ds with
  | [.int a, .int b, .lst ys] => ∃ (rs : List Rw) (B sz pl : Nat), ys = rs.map rwD ∧ a = (sz : Int) ∧ b = (pl : Int) ∧ sz ≤ 3 ∧ rs.length ≤ 10 ∧ (∀ r ∈ rs, RwOk B sz pl r) ∧ P .non ms
  | _ => False
theorem len_p_look_at_rows : ∀ ds ms Q, sp_p_look_at_rows ds ms Q → ds.length = 3 := fun ds ms Q h => by
  unfold sp_p_look_at_rows at h
  split at h <;> first | rfl | exact h.elim
def t_p_look_at_rows : DTS := dSeq (dIfS (dOr (dNot (dTest (dIsi .list (dVar 2)))) (dTest (dOp fGt (dCB cLen (aCons (dVar 2) (aNil))) (dC (.int 10))))) (dNever) (dNext)) (dFor (iEnumD (aCons (dVar 2) (aNil))) (sTup 2 (sCons (sName 3) (sCons (sName 4) (sNil)))) (dIfS (dNot (dTest (dCall 3 0 [0, 1, 2] sp_p_is_row (aCons (dVar 0) (aCons (dVar 1) (aCons (dVar 4) (aNil)))) (aNil)))) (dNever) (dNext)))
theorem sem_p_look_at_rows : ∀ ds ms Q, sp_p_look_at_rows ds ms Q → t_p_look_at_rows { nx := fun _ m => Q .non m, rt := Q } (startD 5 ds) ms := by
  intro ds ms Q h
  unfold sp_p_look_at_rows at h
  split at h
  · rename_i a b ys
    obtain ⟨rs, B, sz, pl, rfl, rfl, rfl, s3, rl, ro, h⟩ := h
    simp only [startD]
    unfold t_p_look_at_rows
    walk_at "st"
    refine w_iteF (decide_eq_false (by rw [List.length_map]; omega)) ?_
    walk_at "st"
    refine loop_inv (fun ds m => m = ms ∧ ∃ x3 x4, ds = [some (.int (sz : Int)), some (.int (pl : Int)), some (.lst (rs.map rwD)), x3, x4]) _ _ _ ⟨rfl, _, _, rfl⟩ ?_ ?_
    · rintro d hd ds m ⟨rfl, x3, x4, rfl⟩ N hN
      obtain ⟨k, hk, rfl⟩ := enum_mem hd
      walk_at "st"
      refine ⟨_, B, sz, pl, rfl, rfl, rfl, s3, ro _ (List.getElem_mem hk), ?_⟩
      walk_at "st"
      exact hN _ _ ⟨rfl, _, _, rfl⟩
    · rintro ds m ⟨rfl, _, _, rfl⟩
      exact h
  · exact h.elim
theorem ok_p_look_at_rows (T : Tx P K mg) : FnG P w K mg base 7 T.f_p_look_at_rows T.d_p_look_at_rows ["names", "places", "thing"] (spD K sp_p_look_at_rows) := by
  have G_p_is_row := ok_p_is_row (P := P) (w := w) (base := base) T
  exact fnG_of (k := 6) (t := t_p_look_at_rows) T.F_p_look_at_rows sc_p_look_at_rows len_p_look_at_rows
    (fun cdv A outer s H hr => pds_cons (pds_if (pdt_w (pdw_or (pdt_not (pdt_val (pd_isi .list (by decide) rfl T.n_isinstance rfl T.n_list (by decide +kernel) (by decide) (by decide) (pd_var 2)))) (pdw_or1 (pdt_cmp op_gt opd_gt (pd_callB call_len cal_len rfl T.n_len (by decide +kernel) (pda_cons (pd_var 2) (pda_nil))) (pd_glob (v := .int (10)) rfl T.c_MOST_ROWS ⟨_, rfl⟩ (fun _ => .int _)))))) (pds_one (pds_never)) (pds_nil)) (pds_one (pds_for (vs := [3, 4]) rfl (pdi_enum rfl T.n_enumerate (pda_cons (pd_var 2) (pda_nil))) (pg_tup rfl (pgs_cons (pg_name (i := 3) sc_p_look_at_rows.nd rfl (.inl rfl)) (pgs_cons (pg_name (i := 4) sc_p_look_at_rows.nd rfl (.inl rfl)) (pgs_nil)))) (tg_tup (tgs_cons (tg_name (i := 3) (by decide)) (tgs_cons (tg_name (i := 4) (by decide)) (tgs_nil) (mon_name (i := 4))) (mon_name (i := 3)))) (pds_one (pds_if (pdt_not (pdt_val (pd_call G_p_is_row (hr.mono (by decide)) rfl T.g_p_is_row T.F_p_is_row.kp T.b_p_is_row_3 (pda_cons (pd_var 0) (pda_cons (pd_var 1) (pda_cons (pd_var 4) (pda_nil))))))) (pds_one (pds_never)) (pds_nil))))))
    sem_p_look_at_rows
def sp_p_look_at : FS := fun ds ms P => match ds with
  | [d] => ∃ (g : Pg) (B : Nat), d = pgD g ∧ PgOk B g ∧ P .non ms
  | _ => False
theorem len_p_look_at : ∀ ds ms Q, sp_p_look_at ds ms Q → ds.length = 1 := fun ds ms Q h => by
  unfold sp_p_look_at at h
  split at h <;> first | rfl | exact h.elim
def t_p_look_at : DTS := dSeq (dIfS (dOr (dNot (dTest (dIsi .tuple (dVar 0)))) (dTest (dOp fNe (dCB cLen (aCons (dVar 0) (aNil))) (dC (.int 3))))) (dNever) (dNext)) (dSeq (dAsg (dVar 0) (sTup 3 (sCons (sName 1) (sCons (sName 2) (sCons (sName 3) (sNil)))))) (dSeq (dDrop (dCall 3 0 [0, 1, 2] sp_p_look_at_names (aCons (dC (.str "names")) (aCons (dVar 1) (aCons (dC (.int 3)) (aNil)))) (aNil))) (dSeq (dDrop (dCall 3 0 [0, 1, 2] sp_p_look_at_names (aCons (dC (.str "places")) (aCons (dVar 2) (aCons (dC (.int 6)) (aNil)))) (aNil))) (dDrop (dCall 3 0 [0, 1, 2] sp_p_look_at_rows (aCons (dCB cLen (aCons (dVar 1) (aNil))) (aCons (dCB cLen (aCons (dVar 2) (aNil))) (aCons (dVar 3) (aNil)))) (aNil))))))
theorem sem_p_look_at : ∀ ds ms Q, sp_p_look_at ds ms Q → t_p_look_at { nx := fun _ m => Q .non m, rt := Q } (startD 4 ds) ms := by
  intro ds ms Q h
  unfold sp_p_look_at at h
  split at h
  · rename_i d
    obtain ⟨g, B, rfl, ok, h⟩ := h
    simp only [startD]
    unfold t_p_look_at
    walk_at "st"
    unfold pgD
    walk_at "st"
    refine ⟨g.nm, rfl, by decide, by decide, ok.nm, ?_⟩
    walk_at "st"
    refine ⟨g.pm, rfl, by decide, by decide, ok.pm, ?_⟩
    walk_at "st"
    rw [List.length_map, List.length_map]
    exact ⟨g.rs, B, g.nm.length, g.pm.length, rfl, rfl, rfl, ok.nm.l2, ok.rl, ok.ro, h⟩
  · exact h.elim
theorem ok_p_look_at (T : Tx P K mg) : FnG P w K mg base 8 T.f_p_look_at T.d_p_look_at ["thing"] (spD K sp_p_look_at) := by
  have G_p_look_at_names := ok_p_look_at_names (P := P) (w := w) (base := base) T
  have G_p_look_at_rows := ok_p_look_at_rows (P := P) (w := w) (base := base) T
  exact fnG_of (k := 7) (t := t_p_look_at) T.F_p_look_at sc_p_look_at len_p_look_at
    (fun cdv A outer s H hr => pds_cons (pds_if (pdt_w (pdw_or (pdt_not (pdt_val (pd_isi .tuple (by decide) rfl T.n_isinstance rfl T.n_tuple (by decide +kernel) (by decide) (by decide) (pd_var 0)))) (pdw_or1 (pdt_cmp (op_neF hr.r.units) opd_ne (pd_callB call_len cal_len rfl T.n_len (by decide +kernel) (pda_cons (pd_var 0) (pda_nil))) (pd_int))))) (pds_one (pds_never)) (pds_nil)) (pds_cons (pds_asg (vs := [1, 2, 3]) (pd_var 0) (pg_tup rfl (pgs_cons (pg_name (i := 1) sc_p_look_at.nd rfl (.inl rfl)) (pgs_cons (pg_name (i := 2) sc_p_look_at.nd rfl (.inl rfl)) (pgs_cons (pg_name (i := 3) sc_p_look_at.nd rfl (.inl rfl)) (pgs_nil))))) (tg_tup (tgs_cons (tg_name (i := 1) (by decide)) (tgs_cons (tg_name (i := 2) (by decide)) (tgs_cons (tg_name (i := 3) (by decide)) (tgs_nil) (mon_name (i := 3))) (mon_name (i := 2))) (mon_name (i := 1))))) (pds_cons (pds_expr (pd_call G_p_look_at_names (hr.mono (by decide)) rfl T.g_p_look_at_names T.F_p_look_at_names.kp T.b_p_look_at_names_3 (pda_cons (pd_str) (pda_cons (pd_var 1) (pda_cons (pd_glob (v := .int (3)) rfl T.c_MOST_NAMES ⟨_, rfl⟩ (fun _ => .int _)) (pda_nil)))))) (pds_cons (pds_expr (pd_call G_p_look_at_names (hr.mono (by decide)) rfl T.g_p_look_at_names T.F_p_look_at_names.kp T.b_p_look_at_names_3 (pda_cons (pd_str) (pda_cons (pd_var 2) (pda_cons (pd_glob (v := .int (6)) rfl T.c_MOST_PLACES ⟨_, rfl⟩ (fun _ => .int _)) (pda_nil)))))) (pds_one (pds_expr (pd_call G_p_look_at_rows (hr.mono (by decide)) rfl T.g_p_look_at_rows T.F_p_look_at_rows.kp T.b_p_look_at_rows_3 (pda_cons (pd_callB call_len cal_len rfl T.n_len (by decide +kernel) (pda_cons (pd_var 1) (pda_nil))) (pda_cons (pd_callB call_len cal_len rfl T.n_len (by decide +kernel) (pda_cons (pd_var 2) (pda_nil))) (pda_cons (pd_var 3) (pda_nil)))))))))))
    sem_p_look_at
/-- a line of the weighing: ahead, behind -/
def aheadL (a : Int) (as : List Int) : List Int := (a :: as) ++ List.replicate as.length 0
def behindL (a : Int) (as : List Int) : List Int := [a] ++ List.replicate as.length 0 ++ as
def sp_p_line_ahead : FS := fun ds ms P => match ds with
  | [.lst ys] => ∃ (a : Int) (as : List Int), ys = (a :: as).map D.int ∧ as.length ≤ 8 ∧ P (.lst ((aheadL a as).map D.int)) ms
  | _ => False
theorem len_p_line_ahead : ∀ ds ms Q, sp_p_line_ahead ds ms Q → ds.length = 1 := fun ds ms Q h => by
  unfold sp_p_line_ahead at h
  split at h <;> first | rfl | exact h.elim
def t_p_line_ahead : DTS := dRet (dOp fAdd (dVar 0) (dOp fMul (dLst (aCons (dC (.int 0)) (aNil))) (dOp fSub (dCB cLen (aCons (dVar 0) (aNil))) (dC (.int 1)))))
theorem sem_p_line_ahead : ∀ ds ms Q, sp_p_line_ahead ds ms Q → t_p_line_ahead { nx := fun _ m => Q .non m, rt := Q } (startD 1 ds) ms := by
  intro ds ms Q h
  unfold sp_p_line_ahead at h
  split at h
  · obtain ⟨a, as, rfl, l8, h⟩ := h
    simp only [startD]
    unfold t_p_line_ahead
    have e : (((a :: as).map D.int).length : Int) - 1 = (as.length : Int) := by rw [List.length_map, List.length_cons]; omega
    walk_at "st"
    rw [e]
    refine ⟨zeros_ok (by omega) (by omega), ?_⟩
    walk_at "st"
    rw [rep_flat0, Int.toNat_natCast, List.length_map, List.length_map, List.length_replicate, List.length_cons]
    refine ⟨size_ok (by omega), ?_⟩
    walk_at "st"
    rw [← List.map_append]
    exact h
  · exact h.elim
theorem ok_p_line_ahead (T : Tx P K mg) : FnG P w K mg base 1 T.f_p_line_ahead T.d_p_line_ahead ["line"] (spD K sp_p_line_ahead) := by
  exact fnG_of (k := 0) (t := t_p_line_ahead) T.F_p_line_ahead sc_p_line_ahead len_p_line_ahead
    (fun cdv A outer s H hr => pds_one (pds_ret (pd_op op_addD opd_add (pd_var 0) (pd_op op_mulA opd_mul (pd_lst (pda_cons (pd_int) (pda_nil))) (pd_op op_sub opd_sub (pd_callB call_len cal_len rfl T.n_len (by decide +kernel) (pda_cons (pd_var 0) (pda_nil))) (pd_int))))))
    sem_p_line_ahead
def sp_p_line_behind : FS := fun ds ms P => match ds with
  | [.lst ys] => ∃ (a : Int) (as : List Int), ys = (a :: as).map D.int ∧ as.length ≤ 8 ∧ P (.lst ((behindL a as).map D.int)) ms
  | _ => False
theorem len_p_line_behind : ∀ ds ms Q, sp_p_line_behind ds ms Q → ds.length = 1 := fun ds ms Q h => by
  unfold sp_p_line_behind at h
  split at h <;> first | rfl | exact h.elim
def t_p_line_behind : DTS := dRet (dOp fAdd (dOp fAdd (dSl (dVar 0) (oNone) (oSome (dC (.int 1)))) (dOp fMul (dLst (aCons (dC (.int 0)) (aNil))) (dOp fSub (dCB cLen (aCons (dVar 0) (aNil))) (dC (.int 1))))) (dSl (dVar 0) (oSome (dC (.int 1))) (oNone)))
theorem sem_p_line_behind : ∀ ds ms Q, sp_p_line_behind ds ms Q → t_p_line_behind { nx := fun _ m => Q .non m, rt := Q } (startD 1 ds) ms := by
  intro ds ms Q h
  unfold sp_p_line_behind at h
  split at h
  · obtain ⟨a, as, rfl, l8, h⟩ := h
    simp only [startD]
    unfold t_p_line_behind
    have e : (((a :: as).map D.int).length : Int) - 1 = (as.length : Int) := by rw [List.length_map, List.length_cons]; omega
    have e1 : cutL ((a :: as).map D.int) none (some 1) = [D.int a] := by
      rw [show (1 : Int) = ((1 : Nat) : Int) from rfl, cut_to _ 1 (by simp)]; rfl
    have e2 : cutL ((a :: as).map D.int) (some 1) none = as.map D.int := cut_1 _ _
    walk_at "st"
    rw [e, e1]
    refine ⟨zeros_ok (by omega) (by omega), ?_⟩
    walk_at "st"
    rw [rep_flat0, Int.toNat_natCast, List.length_map, List.length_replicate]
    refine ⟨size_ok (by simp; omega), ?_⟩
    walk_at "st"
    rw [e2]
    refine ⟨size_ok (by simp; omega), ?_⟩
    walk_at "st"
    have e3 : [D.int a] ++ (List.replicate as.length (0 : Int)).map D.int ++ as.map D.int = (behindL a as).map D.int := by
      unfold behindL; rw [List.map_append, List.map_append]; rfl
    rw [e3]
    exact h
  · exact h.elim
theorem ok_p_line_behind (T : Tx P K mg) : FnG P w K mg base 1 T.f_p_line_behind T.d_p_line_behind ["line"] (spD K sp_p_line_behind) := by
  exact fnG_of (k := 0) (t := t_p_line_behind) T.F_p_line_behind sc_p_line_behind len_p_line_behind
    (fun cdv A outer s H hr => pds_one (pds_ret (pd_op op_addD opd_add (pd_op op_addD opd_add (pd_slice (pd_var 0) (pdo_none) (pdo_some (pd_int))) (pd_op op_mulA opd_mul (pd_lst (pda_cons (pd_int) (pda_nil))) (pd_op op_sub opd_sub (pd_callB call_len cal_len rfl T.n_len (by decide +kernel) (pda_cons (pd_var 0) (pda_nil))) (pd_int)))) (pd_slice (pd_var 0) (pdo_some (pd_int)) (pdo_none)))))
    sem_p_line_behind
/-- a weighing of a program -/
def IsTb (g : Pg) (d : D) : Prop := ∃ t : Tb, d = .lst (t.map lnT) ∧ t.length = g.pm.length ∧ ∀ p ∈ t, p.2.length = g.nm.length
def sp_p_is_weighing : FS := fun ds ms P => match ds with
  | [d, x] => ∃ (g : Pg) (N : Nat), d = pgD g ∧ g.nm.length ≤ 8 ∧ AnyX N x ∧ P (.bl (tf (IsTb g x))) ms
  | _ => False
theorem len_p_is_weighing : ∀ ds ms Q, sp_p_is_weighing ds ms Q → ds.length = 2 := fun ds ms Q h => by
  unfold sp_p_is_weighing at h
  split at h <;> first | rfl | exact h.elim
def t_p_is_weighing : DTS := dSeq (dAsg (dVar 0) (sTup 3 (sCons (sName 2) (sCons (sName 3) (sCons (sName 4) (sNil)))))) (dSeq (dIfS (dOr (dNot (dTest (dIsi .list (dVar 1)))) (dTest (dOp fNe (dCB cLen (aCons (dVar 1) (aNil))) (dCB cLen (aCons (dVar 3) (aNil)))))) (dRet (dC (.bl false))) (dNext)) (dRet (dCB cAll (aCons (dLc (iSeq (dVar 1)) (sName 5) (dYes) (dCall 2 0 [0, 1] sp_p_is_line (aCons (dCB cLen (aCons (dVar 2) (aNil))) (aCons (dVar 5) (aNil))) (aNil)) [5]) (aNil)))))
theorem lnT_lin {n : Nat} {d : D} : Lin (n : Int) d ↔ ∃ p : Int × List Int, d = lnT p ∧ p.2.length = n := by
  constructor
  · rintro ⟨is, rfl, hl⟩
    cases is with
    | nil => rw [List.length_nil] at hl; omega
    | cons i is => exact ⟨(i, is), rfl, by rw [List.length_cons] at hl; show is.length = n; omega⟩
  · rintro ⟨p, rfl, hl⟩
    exact ⟨p.1 :: p.2, rfl, by rw [List.length_cons]; omega⟩
theorem lins_tb {n : Nat} : ∀ {xs : List D}, (∀ x ∈ xs, Lin (n : Int) x) → ∃ t : Tb, xs = t.map lnT ∧ ∀ p ∈ t, p.2.length = n
  | [], _ => ⟨[], rfl, fun _ h => by cases h⟩
  | x :: r, h => by
    obtain ⟨p, e, l⟩ := lnT_lin.mp (h x List.mem_cons_self)
    obtain ⟨t, e2, l2⟩ := lins_tb fun y hy => h y (List.mem_cons_of_mem _ hy)
    refine ⟨p :: t, by rw [e, e2]; rfl, fun q hq => ?_⟩
    rcases List.mem_cons.mp hq with rfl | hq
    · exact l
    · exact l2 q hq
theorem sem_p_is_weighing : ∀ ds ms Q, sp_p_is_weighing ds ms Q → t_p_is_weighing { nx := fun _ m => Q .non m, rt := Q } (startD 6 ds) ms := by
  intro ds ms Q h
  unfold sp_p_is_weighing at h
  split at h
  · obtain ⟨g, N, rfl, n8, an, h⟩ := h
    rename_i d x
    obtain ⟨a, e⟩ := an.ty
    simp only [startD]
    unfold t_p_is_weighing pgD
    walk_at "st"
    cases x with
    | lst xs =>
      obtain ⟨hl, ok⟩ := an.lst
      walk_at "st"
      rw [List.length_map]
      by_cases hb : xs.length ≠ g.pm.length
      · refine w_iteT (by rw [Bool.not_eq_true', beq_eq_false_iff_ne]; omega) ?_
        walk_at "st"
        refine tf_f h fun ⟨t, e1, o, _⟩ => ?_
        injection e1 with e1
        rw [e1, List.length_map] at hb
        exact hb o
      have hb : xs.length = g.pm.length := by omega
      refine w_iteF (by rw [hb]; simp) ?_
      walk_at "st"
      simp only [wipeD, List.set]
      refine comp_pure (fun x => D.bl (tf (Lin (g.nm.length : Int) x))) xs [] _ (by rw [List.length_nil]; omega) (fun x hx P0 q => ?_) ?_
      · walk_at "st"
        rw [List.length_map]
        exact ⟨by omega, by omega, N, ok x hx, q⟩
      rw [List.nil_append]
      walk_at "st"
      refine w_all (bls_map (fun x => tf (Lin (g.nm.length : Int) x)) xs) ?_
      rw [all_id]
      refine tf_e h ?_
      rw [tfs_all]
      constructor
      · intro z
        obtain ⟨t, e1, l⟩ := lins_tb z
        exact ⟨t, by rw [e1], by rw [← hb, e1, List.length_map], l⟩
      · rintro ⟨t, e1, _, l⟩ x hx
        injection e1 with e1
        subst e1
        obtain ⟨p, hp, rfl⟩ := List.mem_map.mp hx
        exact lnT_lin.mpr ⟨p, rfl, l p hp⟩
    | _ => cases e <;> (walk_at "st"; exact tf_f h fun ⟨_, e1, _⟩ => by cases e1)
  · exact h.elim
theorem ok_p_is_weighing (T : Tx P K mg) : FnG P w K mg base 4 T.f_p_is_weighing T.d_p_is_weighing ["program", "thing"] (spD K sp_p_is_weighing) := by
  have G_p_is_line := ok_p_is_line (P := P) (w := w) (base := base) T
  exact fnG_of (k := 3) (t := t_p_is_weighing) T.F_p_is_weighing sc_p_is_weighing len_p_is_weighing
    (fun cdv A outer s H hr => pds_cons (pds_asg (vs := [2, 3, 4]) (pd_var 0) (pg_tup rfl (pgs_cons (pg_name (i := 2) sc_p_is_weighing.nd rfl (.inr rfl)) (pgs_cons (pg_name (i := 3) sc_p_is_weighing.nd rfl (.inl rfl)) (pgs_cons (pg_name (i := 4) sc_p_is_weighing.nd rfl (.inl rfl)) (pgs_nil))))) (tg_tup (tgs_cons (tg_name (i := 2) (by decide)) (tgs_cons (tg_name (i := 3) (by decide)) (tgs_cons (tg_name (i := 4) (by decide)) (tgs_nil) (mon_name (i := 4))) (mon_name (i := 3))) (mon_name (i := 2))))) (pds_cons (pds_if (pdt_w (pdw_or (pdt_not (pdt_val (pd_isi .list (by decide) rfl T.n_isinstance rfl T.n_list (by decide +kernel) (by decide) (by decide) (pd_var 1)))) (pdw_or1 (pdt_cmp (op_neF hr.r.units) opd_ne (pd_callB call_len cal_len rfl T.n_len (by decide +kernel) (pda_cons (pd_var 1) (pda_nil))) (pd_callB call_len cal_len rfl T.n_len (by decide +kernel) (pda_cons (pd_var 3) (pda_nil))))))) (pds_one (pds_ret (pd_bl))) (pds_nil)) (pds_one (pds_ret (pd_callB (cr_all rfl) cal_all rfl T.n_all (by decide +kernel) (pda_cons (pd_lc (own := [("line", 5)]) rfl sc_p_is_weighing.nd (pdi_list (pd_var 1)) (blkOk_by (own := [("line", 5)]) (by kernel_rfl)) (fun _ _ _ _ _ => pg_name (i := 5) sc_p_is_weighing.nd rfl (by first | exact .inl rfl | exact .inr rfl)) (tg_name (i := 5) (by decide)) (mon_name (i := 5)) (fun _ _ _ _ _ => pdts_nil) (fun _ _ _ _ _ => pd_call G_p_is_line (hr.mono (by decide)) rfl T.g_p_is_line T.F_p_is_line.kp T.b_p_is_line_2 (pda_cons (pd_callB call_len cal_len rfl T.n_len (by decide +kernel) (pda_cons (pd_var 2) (pda_nil))) (pda_cons (pd_var 5) (pda_nil))))) (pda_nil)))))))
    sem_p_is_weighing
def riseL (a b : Int × List Int) : List Int := (b.1 - a.1) :: (a.2.map (fun x => 0 - x) ++ b.2.map fun x => x - 0)
def fallL (a b : Int × List Int) : List Int := (riseL a b).map fun x => -x
theorem zip_zero_l : ∀ (as : List Int), List.zipWith (fun x y => x - y) (List.replicate as.length 0) as = as.map fun x => 0 - x
  | [] => rfl
  | x :: r => by
    have := zip_zero_l r
    rw [List.length_cons, List.replicate_succ, List.zipWith_cons_cons, List.map_cons, this]
theorem zip_zero_r : ∀ (as : List Int), List.zipWith (fun x y => x - y) as (List.replicate as.length 0) = as.map fun x => x - 0
  | [] => rfl
  | x :: r => by
    have := zip_zero_r r
    rw [List.length_cons, List.replicate_succ, List.zipWith_cons_cons, List.map_cons, this]
theorem rise_eq {a b : Int × List Int} (h : a.2.length = b.2.length) : List.zipWith (fun x y => x - y) (behindL b.1 b.2) (aheadL a.1 a.2) = riseL a b := by
  obtain ⟨a0, as⟩ := a
  obtain ⟨b0, bs⟩ := b
  have h : as.length = bs.length := h
  unfold behindL aheadL riseL
  show List.zipWith _ (b0 :: (List.replicate bs.length 0 ++ bs)) (a0 :: (as ++ List.replicate as.length 0)) = _
  rw [List.zipWith_cons_cons, List.zipWith_append (by rw [List.length_replicate, h]), ← h, zip_zero_l]
  rw [h, zip_zero_r]
def sp_p_rise_by : FS := fun ds ms P => match ds with
  | [d, .lst ys] => ∃ (r : Rw) (t : Tb) (B n : Nat) (a b : Int × List Int), d = rwD r ∧ ys = t.map lnT ∧ TbOk B n t ∧ n ≤ 8 ∧ 0 ≤ r.s ∧ r.s < t.length ∧ 0 ≤ r.t ∧ r.t < t.length ∧ t[r.s.toNat]? = some a ∧ t[r.t.toNat]? = some b ∧
      ∀ p, (∀ q ∈ ms, q.1 ≠ p) → P (.opq (.ref p)) ((p, (riseL a b).map D.int) :: ms)
  | _ => False
theorem len_p_rise_by : ∀ ds ms Q, sp_p_rise_by ds ms Q → ds.length = 2 := fun ds ms Q h => by
  unfold sp_p_rise_by at h
  split at h <;> first | rfl | exact h.elim
def t_p_rise_by : DTS := dSeq (dAsg (dVar 0) (sTup 3 (sCons (sName 2) (sCons (sName 3) (sCons (sName 4) (sNil)))))) (dSeq (dAsg (dCall 1 0 [0] sp_p_line_ahead (aCons (dOp fIx (dVar 1) (dVar 2)) (aNil)) (aNil)) (sName 5)) (dRet (dLcM (iZipD (aCons (dCall 1 0 [0] sp_p_line_behind (aCons (dOp fIx (dVar 1) (dVar 3)) (aNil)) (aNil)) (aCons (dVar 5) (aNil)))) (sTup 2 (sCons (sName 6) (sCons (sName 7) (sNil)))) (dYes) (dOp fSub (dVar 6) (dVar 7)) [6, 7])))
theorem zipD_ints : ∀ (xs ys : List Int), zipD (xs.map D.int) (ys.map D.int) = (xs.zip ys).map fun p => .tup [.int p.1, .int p.2]
  | [], _ => rfl
  | _ :: _, [] => rfl
  | x :: xs, y :: ys => by
    show .tup [.int x, .int y] :: zipD (xs.map D.int) (ys.map D.int) = _
    rw [zipD_ints xs ys]; rfl
theorem map_zip2 {α : Type} (f : Int → Int → α) : ∀ (xs ys : List Int), (xs.zip ys).map (fun p => f p.1 p.2) = List.zipWith f xs ys
  | [], _ => rfl
  | _ :: _, [] => rfl
  | x :: xs, y :: ys => by rw [List.zip_cons_cons, List.map_cons, map_zip2 f xs ys, List.zipWith_cons_cons]
theorem sem_p_rise_by : ∀ ds ms Q, sp_p_rise_by ds ms Q → t_p_rise_by { nx := fun _ m => Q .non m, rt := Q } (startD 8 ds) ms := by
  intro ds ms Q h
  unfold sp_p_rise_by at h
  split at h
  · obtain ⟨r, t, B, n, a, b, rfl, rfl, ok, n8, s0, s1, t0, t1, ea, eb, h⟩ := h
    obtain ⟨a', ha, e1, e2⟩ := tb_at s0 s1
    obtain ⟨b', hb, e3, e4⟩ := tb_at t0 t1
    rw [ea] at e1
    rw [eb] at e3
    cases e1
    cases e3
    have la := ok.ln _ ha
    have lb := ok.ln _ hb
    simp only [startD]
    unfold t_p_rise_by rwD
    walk_at "st"
    refine w_ix_l e2 ?_
    walk_at "st"
    refine ⟨a.1, a.2, rfl, by omega, ?_⟩
    walk_at "st"
    refine w_ix_l e4 ?_
    walk_at "st"
    refine ⟨b.1, b.2, rfl, by omega, ?_⟩
    walk_at "st"
    rw [zipD_ints]
    simp only [wipeD, List.set]
    refine comp_e (fun p : Int × Int => D.tup [.int p.1, .int p.2]) (fun p => D.int (p.1 - p.2)) _ [] _ ?_ (fun p hp P0 q => ?_) ?_
    · rw [List.length_zip, List.length_nil]
      have : (aheadL a.1 a.2).length ≤ 20 := by unfold aheadL; rw [List.length_append, List.length_cons, List.length_replicate]; omega
      omega
    · walk_at "st"
      exact q
    · rw [List.nil_append]
      have e5 : (List.map (fun p : Int × Int => D.int (p.1 - p.2)) ((behindL b.1 b.2).zip (aheadL a.1 a.2))) = (riseL a b).map D.int := by
        rw [← rise_eq (by omega : a.2.length = b.2.length), List.map_zipWith]
        exact map_zip2 (fun x y => D.int (x - y)) _ _
      rw [e5]
      exact h
  · exact h.elim
theorem ok_p_rise_by (T : Tx P K mg) : FnG P w K mg base 2 T.f_p_rise_by T.d_p_rise_by ["row", "weighing"] (spD K sp_p_rise_by) := by
  have G_p_line_ahead := ok_p_line_ahead (P := P) (w := w) (base := base) T
  have G_p_line_behind := ok_p_line_behind (P := P) (w := w) (base := base) T
  exact fnG_of (k := 1) (t := t_p_rise_by) T.F_p_rise_by sc_p_rise_by len_p_rise_by
    (fun cdv A outer s H hr => pds_cons (pds_asg (vs := [2, 3, 4]) (pd_var 0) (pg_tup rfl (pgs_cons (pg_name (i := 2) sc_p_rise_by.nd rfl (.inl rfl)) (pgs_cons (pg_name (i := 3) sc_p_rise_by.nd rfl (.inl rfl)) (pgs_cons (pg_name (i := 4) sc_p_rise_by.nd rfl (.inl rfl)) (pgs_nil))))) (tg_tup (tgs_cons (tg_name (i := 2) (by decide)) (tgs_cons (tg_name (i := 3) (by decide)) (tgs_cons (tg_name (i := 4) (by decide)) (tgs_nil) (mon_name (i := 4))) (mon_name (i := 3))) (mon_name (i := 2))))) (pds_cons (pds_set (i := 5) sc_p_rise_by.nd rfl (.inl rfl) (pd_call G_p_line_ahead (hr.mono (by decide)) rfl T.g_p_line_ahead T.F_p_line_ahead.kp T.b_p_line_ahead_1 (pda_cons (pd_ix ix_seq opd_ix (pd_var 1) (pd_var 2)) (pda_nil)))) (pds_one (pds_ret (pd_lcM (own := [("more", 6), ("less", 7)]) rfl sc_p_rise_by.nd (pdi_zip rfl T.n_zip (pda_cons (pd_call G_p_line_behind (hr.mono (by decide)) rfl T.g_p_line_behind T.F_p_line_behind.kp T.b_p_line_behind_1 (pda_cons (pd_ix ix_seq opd_ix (pd_var 1) (pd_var 3)) (pda_nil))) (pda_cons (pd_var 5) (pda_nil)))) (blkOk_by (own := [("more", 6), ("less", 7)]) (by kernel_rfl)) (fun _ _ _ _ _ => pg_tup rfl (pgs_cons (pg_name (i := 6) sc_p_rise_by.nd rfl (by first | exact .inl rfl | exact .inr rfl)) (pgs_cons (pg_name (i := 7) sc_p_rise_by.nd rfl (by first | exact .inl rfl | exact .inr rfl)) (pgs_nil)))) (tg_tup (tgs_cons (tg_name (i := 6) (by decide)) (tgs_cons (tg_name (i := 7) (by decide)) (tgs_nil) (mon_name (i := 7))) (mon_name (i := 6)))) (mon_tup (mon_cons (mon_name (i := 6)) (mon_cons (mon_name (i := 7)) (mon_nil)))) (fun _ _ _ _ _ => pdts_nil) (fun _ _ _ _ _ => pd_op op_sub opd_sub (pd_var 6) (pd_var 7)))))))
    sem_p_rise_by
def sp_p_fall_by : FS := fun ds ms P => match ds with
  | [d, .lst ys] => ∃ (r : Rw) (t : Tb) (B n : Nat) (a b : Int × List Int), d = rwD r ∧ ys = t.map lnT ∧ TbOk B n t ∧ n ≤ 8 ∧ 0 ≤ r.s ∧ r.s < t.length ∧ 0 ≤ r.t ∧ r.t < t.length ∧ t[r.s.toNat]? = some a ∧ t[r.t.toNat]? = some b ∧
      ∀ p, (∀ q ∈ ms, q.1 ≠ p) → P (.opq (.ref p)) ((p, (fallL a b).map D.int) :: ms)
  | _ => False
theorem len_p_fall_by : ∀ ds ms Q, sp_p_fall_by ds ms Q → ds.length = 2 := fun ds ms Q h => by
  unfold sp_p_fall_by at h
  split at h <;> first | rfl | exact h.elim
def t_p_fall_by : DTS := dRet (dLcM (iSeq (dFrz (dCall 2 0 [0, 1] sp_p_rise_by (aCons (dVar 0) (aCons (dVar 1) (aNil))) (aNil)))) (sName 2) (dYes) (dNeg (dVar 2)) [2])
theorem rise_len {a b : Int × List Int} {n : Nat} (ha : a.2.length = n) (hb : b.2.length = n) : (riseL a b).length = 2 * n + 1 := by
  unfold riseL
  rw [List.length_cons, List.length_append, List.length_map, List.length_map]
  omega
theorem fall_eq {a b : Int × List Int} : fallL a b = (a.1 - b.1) :: (a.2 ++ b.2.map fun x => 0 - x) := by
  unfold fallL riseL
  rw [List.map_cons, List.map_append, List.map_map, List.map_map]
  congr 1
  · omega
  · congr 1
    · conv => rhs; rw [← List.map_id a.2]
      refine List.map_congr_left fun x _ => ?_
      show -(0 - x) = x
      omega
    · refine List.map_congr_left fun x _ => ?_
      show -(x - 0) = 0 - x
      omega
theorem sem_p_fall_by : ∀ ds ms Q, sp_p_fall_by ds ms Q → t_p_fall_by { nx := fun _ m => Q .non m, rt := Q } (startD 3 ds) ms := by
  intro ds ms Q h
  unfold sp_p_fall_by at h
  split at h
  · obtain ⟨r, t, B, n, a, b, rfl, rfl, ok, n8, s0, s1, t0, t1, ea, eb, h⟩ := h
    simp only [startD]
    unfold t_p_fall_by
    walk_at "st"
    refine ⟨r, t, B, n, a, b, rfl, rfl, ok, n8, s0, s1, t0, t1, ea, eb, fun p hp => ?_⟩
    walk_at "st"
    simp only [wipeD, List.set]
    have hl := rise_len (ok.ln a (mem_at ea)) (ok.ln b (mem_at eb))
    refine comp_e D.int (fun x => D.int (-x)) (riseL a b) [] _ (by rw [List.length_nil]; omega) (fun x hx P0 q => ?_) ?_
    · walk_at "st"
      exact q
    · rw [List.nil_append]
      have e5 : (riseL a b).map (fun x => D.int (-x)) = (fallL a b).map D.int := by unfold fallL; rw [List.map_map]; rfl
      rw [e5]
      exact h
  · exact h.elim
theorem ok_p_fall_by (T : Tx P K mg) : FnG P w K mg base 3 T.f_p_fall_by T.d_p_fall_by ["row", "weighing"] (spD K sp_p_fall_by) := by
  have G_p_rise_by := ok_p_rise_by (P := P) (w := w) (base := base) T
  exact fnG_of (k := 2) (t := t_p_fall_by) T.F_p_fall_by sc_p_fall_by len_p_fall_by
    (fun cdv A outer s H hr => pds_one (pds_ret (pd_lcM (own := [("number", 2)]) rfl sc_p_fall_by.nd (pdi_list (pd_frz (pd_call G_p_rise_by (hr.mono (by decide)) rfl T.g_p_rise_by T.F_p_rise_by.kp T.b_p_rise_by_2 (pda_cons (pd_var 0) (pda_cons (pd_var 1) (pda_nil)))))) (blkOk_by (own := [("number", 2)]) (by kernel_rfl)) (fun _ _ _ _ _ => pg_name (i := 2) sc_p_fall_by.nd rfl (by first | exact .inl rfl | exact .inr rfl)) (tg_name (i := 2) (by decide)) (mon_name (i := 2)) (fun _ _ _ _ _ => pdts_nil) (fun _ _ _ _ _ => pd_neg (pd_var 2)))))
    sem_p_fall_by
/-- rows that never go, with the shares that show it -/
structure NvOk (g : Pg) (nv : List (Nat × List (Int × Int))) : Prop where
  lt : ∀ p ∈ nv, p.1 < g.rs.length
  up : (nv.map (·.1)).Pairwise (· < ·)
  at_ : ∀ p ∈ nv, ∃ r, g.rs[p.1]? = some r ∧ CarV r.ws (-1, List.replicate (2 * g.nm.length) 0) p.2
def nvD (p : Nat × List (Int × Int)) : D := .tup [.int (p.1 : Int), .lst (p.2.map fr)]
def natsV (is : List Nat) : D := .lst (is.map fun (k : Nat) => D.int (k : Int))
def leftV (g : Pg) (nv : List (Nat × List (Int × Int))) : List Nat := (List.range g.rs.length).filter fun i => !decide (i ∈ nv.map (·.1))
/-- no more wishes than the numbers' sizes let by -/
structure Few (B N : Nat) (g : Pg) : Prop where
  ex : ∀ r ∈ g.rs, B + 2 + N + 2 + (N + 2) * r.ws.length ≤ 3800
def IsNv (g : Pg) (x : D) : Prop := ∃ nv, x = .lst (nv.map nvD) ∧ NvOk g nv
def sp_p_rows_that_go : FS := fun ds ms P => match ds with
  | [d, x] => ∃ (g : Pg) (B N : Nat), d = pgD g ∧ PgOk B g ∧ AnyX N x ∧ N ≤ 500 ∧ Few B N g ∧ (∀ nv, x = .lst (nv.map nvD) → NvOk g nv → P (natsV (leftV g nv)) ms) ∧ (¬ IsNv g x → P .non ms)
  | _ => False
theorem len_p_rows_that_go : ∀ ds ms Q, sp_p_rows_that_go ds ms Q → ds.length = 2 := fun ds ms Q h => by
  unfold sp_p_rows_that_go at h
  split at h <;> first | rfl | exact h.elim
def t_p_rows_that_go : DTS := dSeq (dAsg (dVar 0) (sTup 3 (sCons (sName 2) (sCons (sName 3) (sCons (sName 4) (sNil)))))) (dSeq (dIfS (dOr (dNot (dTest (dIsi .list (dVar 1)))) (dNot (dTest (dCB cAll (aCons (dLc (iSeq (dVar 1)) (sName 8) (dYes) (dAndV (dIsi .tuple (dVar 8)) (dOp fEq (dCB cLen (aCons (dVar 8) (aNil))) (dC (.int 2)))) [8]) (aNil)))))) (dRet (dC .non)) (dNext)) (dSeq (dAsg (dLc (iSeq (dVar 1)) (sTup 2 (sCons (sName 6) (sCons (sName 7) (sNil)))) (dYes) (dVar 6) [6, 7]) (sName 5)) (dSeq (dIfS (dNot (dTest (dCall 2 0 [0, 1] sp_p_is_rising (aCons (dCB cLen (aCons (dVar 4) (aNil))) (aCons (dVar 5) (aNil))) (aNil)))) (dRet (dC .non)) (dNext)) (dSeq (dIfS (dNot (dTest (dCB cAll (aCons (dLc (iSeq (dVar 1)) (sTup 2 (sCons (sName 6) (sCons (sName 7) (sNil)))) (dYes) (dCall 3 0 [0, 1, 2] sp_p_carries (aCons (dOp fIx (dOp fIx (dVar 4) (dVar 6)) (dC (.int 2))) (aCons (dCall 1 0 [0] sp_p_minus_one (aCons (dOp fMul (dC (.int 2)) (dCB cLen (aCons (dVar 2) (aNil)))) (aNil)) (aNil)) (aCons (dVar 7) (aNil)))) (aNil)) [6, 7]) (aNil))))) (dRet (dC .non)) (dNext)) (dRet (dLc (iRange1 (aCons (dCB cLen (aCons (dVar 4) (aNil))) (aNil))) (sName 6) (dTest (dOp fNotIn (dVar 6) (dVar 5))) (dVar 6) [6]))))))
theorem nats_notin {n : Nat} {xs : List Nat} {ms : MS} {P : D → MS → Prop} (h : P (.bl (!decide (n ∈ xs))) ms) : InOk (.int (n : Int)) (natL xs) true ms P := by
  have e : ∀ xs : List Nat, toPys (natL xs) = some (xs.map fun (k : Nat) => PyData.int (k : Int)) ∧ PyData.canLayAll0 (xs.map fun (k : Nat) => PyData.int (k : Int)) = true ∧
      ((xs.map fun (k : Nat) => PyData.int (k : Int)).any fun z => PyData.eqv z (.int (n : Int))) = decide (n ∈ xs) := by
    intro xs
    induction xs with
    | nil => exact ⟨rfl, rfl, rfl⟩
    | cons x r ih =>
      refine ⟨by show toPys (D.int (x : Int) :: natL r) = _; unfold toPys; rw [ih.1]; rfl, ih.2.1, ?_⟩
      rw [List.map_cons, List.any_cons, ih.2.2, show PyData.eqv (.int (x : Int)) (.int (n : Int)) = decide (n = x) from by
        show ((x : Int) == (n : Int)) = _
        rw [Bool.eq_iff_iff, beq_iff_eq, decide_eq_true_iff]; omega]
      rw [Bool.eq_iff_iff, Bool.or_eq_true_iff, decide_eq_true_iff, decide_eq_true_iff, decide_eq_true_iff, List.mem_cons]
  exact ⟨_, _, rfl, (e xs).1, rfl, Nat.zero_le _, (e xs).2.1, by rw [(e xs).2.2, Bool.true_xor]; exact h⟩
theorem rng_nats (n : Nat) : rng 0 n = (List.range n).map fun (k : Nat) => D.int (k : Int) := by
  unfold rng
  refine List.map_congr_left fun i _ => ?_
  rw [Int.zero_add]
theorem rng_natsV (n : Nat) : rng 0 n = natL (List.range n) := by
  unfold rng
  refine List.map_congr_left fun i _ => ?_
  rw [Int.zero_add]
/-- a comprehension with a test, over known items -/
theorem comp_fV {α : Type} {g : DG} {tt : DT} {te : DE} {ds : DS} {ms : MS} (e : α → D) (p : α → Bool) (f : α → D) : ∀ (xs : List α) (acc : List D) (P : List D → MS → Prop), acc.length + xs.length ≤ 1000000 →
    (∀ x ∈ xs, ∀ (K : D → MS → Prop) (L : MS → Prop), (p x = true → K (f x) ms) → (p x = false → L ms) → g (e x) ds fun ds2 => tt ds2 ms fun b m3 => if b = true then te ds2 m3 K else L m3) →
    P (acc ++ (xs.filter p).map f) ms → compD g tt te ds (xs.map e) acc ms P
  | [], acc, P, _, _, h => by rw [List.filter_nil, List.map_nil, List.append_nil] at h; exact h
  | x :: r, acc, P, hl, t, h => by
    rw [List.length_cons] at hl
    rw [List.map_cons]
    unfold compD
    refine t x List.mem_cons_self (fun y m4 => acc.length < sizeLine ∧ compD g tt te ds (r.map e) (acc ++ [y]) m4 P) (fun m3 => compD g tt te ds (r.map e) acc m3 P) (fun e1 => ?_) fun e1 => ?_
    · refine ⟨Nat.lt_of_lt_of_le (by omega : acc.length < 1000001) (by decide), comp_fV e p f r _ P (by rw [List.length_append, List.length_singleton]; omega) (fun y hy => t y (List.mem_cons_of_mem _ hy)) ?_⟩
      rw [List.filter_cons, if_pos e1, List.map_cons] at h
      rw [List.append_assoc]
      exact h
    · refine comp_fV e p f r _ P (by omega) (fun y hy => t y (List.mem_cons_of_mem _ hy)) ?_
      rw [List.filter_cons, if_neg (by rw [e1]; decide)] at h
      exact h
/-- pairs: tuples of two -/
def isTwo (d : D) : Bool := match d with
  | .tup [_, _] => true
  | _ => false
theorem isTwos : ∀ {xs : List D}, xs.all isTwo = true ↔ ∃ ps : List (D × D), xs = ps.map fun p => .tup [p.1, p.2]
  | [] => ⟨fun _ => ⟨[], rfl⟩, fun _ => rfl⟩
  | x :: r => by
    rw [List.all_cons, Bool.and_eq_true_iff, isTwos (xs := r)]
    refine ⟨fun ⟨h, ps, e⟩ => ?_, fun ⟨ps, e⟩ => ?_⟩
    · unfold isTwo at h
      split at h
      · exact ⟨(_, _) :: ps, by rw [e]; rfl⟩
      · cases h
    · cases ps with
      | nil => cases e
      | cons p ps =>
        rw [List.map_cons] at e
        injection e with e1 e2
        exact ⟨by rw [e1]; rfl, ps, e2⟩
theorem isTwo_ty {d : D} (h : ∃ a, tyD d = some a) {ms : MS} {Q : D → MS → Prop} {ds : DS} {i : Nat} (hi : slot ds i = some d) (q : Q (.bl (isTwo d)) ms) : dAndV (dIsi .tuple (dVar i)) (dOp fEq (dCB cLen (aCons (dVar i) aNil)) (dC (.int 2))) ds ms Q := by
  obtain ⟨a, e⟩ := h
  walk_at "dl"
  rw [hi]
  simp only [e]
  cases d with
  | tup ys =>
    cases e
    rw [if_pos (by rfl)]
    have e2 : ((ys.length : Int) == 2) = isTwo (.tup ys) := by
      match ys with
      | [] => rfl
      | [_] => rfl
      | [_, _] => rfl
      | _ :: _ :: _ :: r =>
        show _ = false
        rw [beq_eq_false_iff_ne]
        simp only [List.length_cons]
        omega
    show Q (.bl ((ys.length : Int) == 2)) ms
    rw [e2]
    exact q
  | _ => cases e <;> exact q
theorem fst_nats : ∀ {ps : List (D × D)} {is : List Nat}, (ps.map (·.1)) = natL is → ps.length = is.length ∧ ∃ ys : List D, ys.length = is.length ∧ (ps.map fun p => D.tup [p.1, p.2]) = (is.zip ys).map fun q => D.tup [.int (q.1 : Int), q.2]
  | [], [], _ => ⟨rfl, [], rfl, rfl⟩
  | [], _ :: _, h => by cases h
  | _ :: _, [], h => by cases h
  | p :: ps, i :: is, h => by
    have h : p.1 :: ps.map (·.1) = D.int (i : Int) :: natL is := h
    injection h with h1 h2
    obtain ⟨l, ys, l2, e⟩ := fst_nats h2
    refine ⟨by rw [List.length_cons, List.length_cons, l], p.2 :: ys, by rw [List.length_cons, List.length_cons, l2], ?_⟩
    rw [List.map_cons, List.zip_cons_cons, List.map_cons, e, h1]
theorem zip_nv {g : Pg} {B : Nat → D → Prop} : ∀ {is : List Nat} {ys : List D}, is.length = ys.length → (∀ q ∈ is.zip ys, ∃ ss : List (Int × Int), q.2 = .lst (ss.map fr) ∧ B q.1 (.lst (ss.map fr))) → ∃ nv : List (Nat × List (Int × Int)), ((is.zip ys).map fun q => D.tup [.int (q.1 : Int), q.2]) = nv.map nvD ∧ nv.map (·.1) = is ∧ ∀ p ∈ nv, B p.1 (.lst (p.2.map fr))
  | [], [], _, _ => ⟨[], rfl, rfl, fun _ h => by cases h⟩
  | [], _ :: _, e, _ => by cases e
  | _ :: _, [], e, _ => by cases e
  | k :: is, x :: xs, e, h => by
    obtain ⟨ss, e1, o1⟩ := h (k, x) (by rw [List.zip_cons_cons]; exact List.mem_cons_self)
    obtain ⟨ps, e2, e3, o2⟩ := zip_nv (g := g) (is := is) (ys := xs) (by simpa using e) fun q hq => h q (by rw [List.zip_cons_cons]; exact List.mem_cons_of_mem _ hq)
    refine ⟨(k, ss) :: ps, by rw [List.zip_cons_cons, List.map_cons, List.map_cons, e2]; show D.tup [_, x] :: _ = _; rw [show x = _ from e1]; rfl, by rw [List.map_cons, e3], fun q hq => ?_⟩
    rcases List.mem_cons.mp hq with rfl | hq
    · exact o1
    · exact o2 q hq
theorem nv_inj {a b : Nat × List (Int × Int)} (h : nvD a = nvD b) : a = b := by
  obtain ⟨i, s⟩ := a
  obtain ⟨j, t⟩ := b
  unfold nvD at h
  simp only [D.tup.injEq, List.cons.injEq, D.int.injEq, D.lst.injEq, and_true] at h
  rw [Int.ofNat_inj.mp h.1, frs_inj h.2]
theorem maps_inj {α : Type} {f : α → D} (hf : ∀ a b, f a = f b → a = b) : ∀ {xs ys : List α}, xs.map f = ys.map f → xs = ys
  | [], [], _ => rfl
  | [], _ :: _, h => by cases h
  | _ :: _, [], h => by cases h
  | x :: xs, y :: ys, h => by
    rw [List.map_cons, List.map_cons] at h
    injection h with h1 h2
    rw [hf _ _ h1, maps_inj hf h2]
theorem sem_p_rows_that_go : ∀ ds ms Q, sp_p_rows_that_go ds ms Q → t_p_rows_that_go { nx := fun _ m => Q .non m, rt := Q } (startD 9 ds) ms := by
  intro ds ms Q h
  unfold sp_p_rows_that_go at h
  split at h
  · rename_i d x
    obtain ⟨g, B, N, rfl, ok, an, hN, few, hy, hn⟩ := h
    have r10 := ok.rl
    have n3 := ok.nm.l2
    obtain ⟨ty, ety⟩ := an.ty
    simp only [startD]
    unfold t_p_rows_that_go pgD
    walk_at "st"
    cases x with
    | lst xs =>
      obtain ⟨hl, oka⟩ := an.lst
      walk_at "st"
      simp only [wipeD, List.set]
      refine comp_pure (fun x => .bl (isTwo x)) xs [] _ (by rw [List.length_nil]; omega) (fun x hx P0 q => isTwo_ty (oka x hx).ty rfl q) ?_
      rw [List.nil_append]
      walk_at "st"
      refine w_all (bls_map isTwo xs) ?_
      rw [all_id]
      cases h2 : xs.all isTwo with
      | false =>
        walk_at "st"
        refine hn fun ⟨nv, e, _⟩ => ?_
        injection e with e
        rw [isTwos.mpr ⟨nv.map fun p => (.int (p.1 : Int), .lst (p.2.map fr)), by rw [e, List.map_map]; rfl⟩] at h2
        cases h2
      | true =>
      obtain ⟨ps, rfl⟩ := isTwos.mp h2
      rw [List.length_map] at hl
      walk_at "st"
      simp only [wipeD, List.set]
      refine comp_e (fun p : D × D => D.tup [p.1, p.2]) (fun p => p.1) ps [] _ (by rw [List.length_nil]; omega) (fun p hp P0 q => ?_) ?_
      · walk_at "st"
        exact q
      rw [List.nil_append]
      walk_at "st"
      rw [List.length_map]
      refine ⟨N, AnyX.mkL (by rw [List.length_map]; exact hl) (fun z hz => ?_), ?_⟩
      · obtain ⟨p, hp, rfl⟩ := List.mem_map.mp hz
        exact (oka _ (List.mem_map_of_mem hp)).tup.2 p.1 (by simp)
      have fsts : ∀ nv : List (Nat × List (Int × Int)), (ps.map fun p => D.tup [p.1, p.2]) = nv.map nvD → ps.map (·.1) = natL (nv.map (·.1)) ∧ ps.map (·.2) = nv.map fun q => .lst (q.2.map fr) := by
        intro nv e
        have e : (ps.map fun p => D.tup [p.1, p.2]) = (nv.map fun q => ((.int (q.1 : Int), .lst (q.2.map fr)) : D × D)).map fun p => D.tup [p.1, p.2] := by rw [e, List.map_map]; rfl
        have e := maps_inj (f := fun p : D × D => D.tup [p.1, p.2]) (fun a b z => by
          simp only [D.tup.injEq, List.cons.injEq, and_true] at z
          obtain ⟨a1, a2⟩ := a
          obtain ⟨b1, b2⟩ := b
          simp only at z
          rw [z.1, z.2]) e
        rw [e, List.map_map, List.map_map]
        refine ⟨?_, rfl⟩
        unfold natL
        rw [List.map_map]; rfl
      cases hr : tf (Ris (g.rs.length : Int) (.lst (ps.map fun p => p.1))) with
      | false =>
        walk_at "st"
        refine hn fun ⟨nv, e, o⟩ => ?_
        injection e with e
        rw [tf_yes ⟨nv.map (·.1), by rw [(fsts nv e).1], fun k hk => by
          obtain ⟨p, hp, rfl⟩ := List.mem_map.mp hk
          have := o.lt p hp
          omega, o.up⟩] at hr
        cases hr
      | true =>
      obtain ⟨is, ei, hk, up⟩ := tf_iff.mp hr
      injection ei with ei
      obtain ⟨l1, ys, l2, e2⟩ := fst_nats ei
      have hk : ∀ k ∈ is, k < g.rs.length := fun k h => by have := hk k h; omega
      rw [ei]
      have l7 : is.length ≤ 1000 := by omega
      have any2 : ∀ q ∈ is.zip ys, AnyX N q.2 := fun q hq => by
        have : D.tup [.int (q.1 : Int), q.2] ∈ ps.map fun p => D.tup [p.1, p.2] := by rw [e2]; exact List.mem_map_of_mem hq
        exact (oka _ this).tup.2 q.2 (by simp)
      walk_at "st"
      rw [e2]
      simp only [wipeD, List.set]
      have cf : ∀ k ∈ is, CFit ((g.rs.getD k ⟨0, 0, []⟩).ws) (-1) (List.replicate (2 * g.nm.length) 0) N ∧ g.rs[k]? = some (g.rs.getD k ⟨0, 0, []⟩) := by
        intro k hk'
        have er : g.rs[k]? = some (g.rs.getD k ⟨0, 0, []⟩) := by rw [List.getD_eq_getElem?_getD, List.getElem?_eq_getElem (hk k hk')]; rfl
        have ro := ok.ro _ (mem_at er)
        refine ⟨⟨⟨B + 2, fun w hw x hx => ((ro.wo w hw).bd x hx).mono (by omega), (show Bd 1 (-1 : Int) by unfold Bd; decide).mono (by omega), few.ex _ (mem_at er)⟩, fun w hw => by rw [(ro.wo w hw).ln, List.length_replicate], by rw [List.length_replicate]; omega⟩, er⟩
      refine comp_e (fun q : Nat × D => D.tup [.int (q.1 : Int), q.2]) (fun q => D.bl (tf (IsCar (g.rs.getD q.1 ⟨0, 0, []⟩).ws (-1, List.replicate (2 * g.nm.length) 0) q.2))) (is.zip ys) [] _ (by rw [List.length_zip, List.length_nil]; omega) (fun q hq P0 q0 => ?_) ?_
      · obtain ⟨c, er⟩ := cf q.1 (List.of_mem_zip hq).1
        walk_at "st"
        refine w_ix_l (d := rwD (g.rs.getD q.1 ⟨0, 0, []⟩)) (atI_nat (by rw [List.getElem?_map, er]; rfl)) ?_
        unfold rwD
        walk_at "st"
        rw [List.length_map]
        refine ⟨.inr (.inr ⟨by omega, by omega⟩), ?_⟩
        walk_at "st"
        refine ⟨by omega, by omega, ?_⟩
        rw [show m1D (2 * (g.nm.length : Int)) = D.int (-1) :: (List.replicate (2 * g.nm.length) (0 : Int)).map D.int by
          unfold m1D
          rw [show (2 * (g.nm.length : Int)).toNat = 2 * g.nm.length by omega]]
        walk_at "st"
        exact ⟨_, -1, List.replicate (2 * g.nm.length) 0, N, rfl, rfl, c, any2 q hq, q0⟩
      rw [List.nil_append]
      walk_at "st"
      refine w_all (bls_map _ _) ?_
      rw [all_id]
      cases hA : (is.zip ys).all fun q => tf (IsCar (g.rs.getD q.1 ⟨0, 0, []⟩).ws (-1, List.replicate (2 * g.nm.length) 0) q.2) with
      | false =>
        walk_at "st"
        refine hn fun ⟨nv, e, o⟩ => ?_
        injection e with e
        have f := fsts nv e
        have ei2 := natL_inj (ei.symm.trans f.1)
        have ey : (is.zip ys).map (fun q => D.tup [.int (q.1 : Int), q.2]) = nv.map nvD := e2.symm.trans e
        rw [(tfs_all (fun q : Nat × D => IsCar (g.rs.getD q.1 ⟨0, 0, []⟩).ws (-1, List.replicate (2 * g.nm.length) 0) q.2) _).mpr fun q hq => by
          have : D.tup [.int (q.1 : Int), q.2] ∈ nv.map nvD := by rw [← ey]; exact List.mem_map_of_mem hq
          obtain ⟨p, hp, z⟩ := List.mem_map.mp this
          unfold nvD at z
          simp only [D.tup.injEq, List.cons.injEq, D.int.injEq, and_true] at z
          obtain ⟨r, er, c⟩ := o.at_ p hp
          have z1 : p.1 = q.1 := by omega
          rw [z1] at er
          rw [(cf q.1 (List.of_mem_zip hq).1).2] at er
          injection er with er
          rw [er]
          exact ⟨p.2, z.2.symm, c⟩] at hA
        cases hA
      | true =>
      have hA := (tfs_all (fun q : Nat × D => IsCar (g.rs.getD q.1 ⟨0, 0, []⟩).ws (-1, List.replicate (2 * g.nm.length) 0) q.2) _).mp hA
      obtain ⟨nv, e3, e4, o⟩ := zip_nv (g := g) (B := fun k d => k ∈ is ∧ IsCar (g.rs.getD k ⟨0, 0, []⟩).ws (-1, List.replicate (2 * g.nm.length) 0) d) l2.symm fun q hq => by
        obtain ⟨ss, e, c⟩ := hA q hq
        exact ⟨ss, e, (List.of_mem_zip hq).1, ss, rfl, c⟩
      have nvo : NvOk g nv := by
        refine ⟨fun p hp => hk _ (o p hp).1, by rw [e4]; exact up, fun p hp => ?_⟩
        obtain ⟨hm, ss, e, c⟩ := o p hp
        injection e with e
        rw [← frs_inj e] at c
        exact ⟨_, (cf p.1 hm).2, c⟩
      have hy := hy nv (by rw [e2, e3]) nvo
      walk_at "st"
      rw [List.length_map]
      refine w_mRng ⟨by omega, by omega⟩ ?_
      rw [Int.toNat_natCast, rng_natsV]
      simp only [wipeD, List.set]
      refine comp_fV (fun (k : Nat) => D.int (k : Int)) (fun i => !decide (i ∈ nv.map (·.1))) (fun (k : Nat) => D.int (k : Int)) (List.range g.rs.length) [] _ (by rw [List.length_range, List.length_nil]; omega) (fun i hi K L hK hL => ?_) ?_
      · walk_at "st"
        refine nats_notin ?_
        rw [← e4]
        cases hd : !decide (i ∈ nv.map (·.1)) with
        | true =>
          rw [hd] at hK
          walk_at "st"
          exact hK rfl
        | false =>
          rw [hd] at hL
          walk_at "st"
          exact hL rfl
      · rw [List.nil_append]
        walk_at "st"
        exact hy
    | _ => cases ety <;> (walk_at "st"; exact hn fun ⟨_, e, _⟩ => by cases e)
  · exact h.elim
theorem ok_p_rows_that_go (T : Tx P K mg) : FnG P w K mg base 6 T.f_p_rows_that_go T.d_p_rows_that_go ["program", "thing"] (spD K sp_p_rows_that_go) := by
  have G_p_is_rising := ok_p_is_rising (P := P) (w := w) (base := base) T
  have G_p_carries := ok_p_carries (P := P) (w := w) (base := base) T
  have G_p_minus_one := ok_p_minus_one (P := P) (w := w) (base := base) T
  exact fnG_of (k := 5) (t := t_p_rows_that_go) T.F_p_rows_that_go sc_p_rows_that_go len_p_rows_that_go
    (fun cdv A outer s H hr => pds_cons (pds_asg (vs := [2, 3, 4]) (pd_var 0) (pg_tup rfl (pgs_cons (pg_name (i := 2) sc_p_rows_that_go.nd rfl (.inr rfl)) (pgs_cons (pg_name (i := 3) sc_p_rows_that_go.nd rfl (.inl rfl)) (pgs_cons (pg_name (i := 4) sc_p_rows_that_go.nd rfl (.inr rfl)) (pgs_nil))))) (tg_tup (tgs_cons (tg_name (i := 2) (by decide)) (tgs_cons (tg_name (i := 3) (by decide)) (tgs_cons (tg_name (i := 4) (by decide)) (tgs_nil) (mon_name (i := 4))) (mon_name (i := 3))) (mon_name (i := 2))))) (pds_cons (pds_if (pdt_w (pdw_or (pdt_not (pdt_val (pd_isi .list (by decide) rfl T.n_isinstance rfl T.n_list (by decide +kernel) (by decide) (by decide) (pd_var 1)))) (pdw_or1 (pdt_not (pdt_val (pd_callB (cr_all rfl) cal_all rfl T.n_all (by decide +kernel) (pda_cons (pd_lc (own := [("one", 8)]) rfl sc_p_rows_that_go.nd (pdi_list (pd_var 1)) (blkOk_by (own := [("one", 8)]) (by kernel_rfl)) (fun _ _ _ _ _ => pg_name (i := 8) sc_p_rows_that_go.nd rfl (by first | exact .inl rfl | exact .inr rfl)) (tg_name (i := 8) (by decide)) (mon_name (i := 8)) (fun _ _ _ _ _ => pdts_nil) (fun _ _ _ _ _ => pd_and (pd_isi .tuple (by decide) rfl T.n_isinstance rfl T.n_tuple (by decide +kernel) (by decide) (by decide) (pd_var 8)) (pd_one (pd_cmp (op_eqF hr.r.units) opd_eq (pd_callB call_len cal_len rfl T.n_len (by decide +kernel) (pda_cons (pd_var 8) (pda_nil))) (pd_int))))) (pda_nil)))))))) (pds_one (pds_ret (pd_non))) (pds_nil)) (pds_cons (pds_set (i := 5) sc_p_rows_that_go.nd rfl (.inr rfl) (pd_lc (own := [("row", 6), ("shares", 7)]) rfl sc_p_rows_that_go.nd (pdi_list (pd_var 1)) (blkOk_by (own := [("row", 6), ("shares", 7)]) (by kernel_rfl)) (fun _ _ _ _ _ => pg_tup rfl (pgs_cons (pg_name (i := 6) sc_p_rows_that_go.nd rfl (by first | exact .inl rfl | exact .inr rfl)) (pgs_cons (pg_name (i := 7) sc_p_rows_that_go.nd rfl (by first | exact .inl rfl | exact .inr rfl)) (pgs_nil)))) (tg_tup (tgs_cons (tg_name (i := 6) (by decide)) (tgs_cons (tg_name (i := 7) (by decide)) (tgs_nil) (mon_name (i := 7))) (mon_name (i := 6)))) (mon_tup (mon_cons (mon_name (i := 6)) (mon_cons (mon_name (i := 7)) (mon_nil)))) (fun _ _ _ _ _ => pdts_nil) (fun _ _ _ _ _ => pd_var 6))) (pds_cons (pds_if (pdt_not (pdt_val (pd_call G_p_is_rising (hr.mono (by decide)) rfl T.g_p_is_rising T.F_p_is_rising.kp T.b_p_is_rising_2 (pda_cons (pd_callB call_len cal_len rfl T.n_len (by decide +kernel) (pda_cons (pd_var 4) (pda_nil))) (pda_cons (pd_var 5) (pda_nil)))))) (pds_one (pds_ret (pd_non))) (pds_nil)) (pds_cons (pds_if (pdt_not (pdt_val (pd_callB (cr_all rfl) cal_all rfl T.n_all (by decide +kernel) (pda_cons (pd_lc (own := [("row", 6), ("shares", 7)]) rfl sc_p_rows_that_go.nd (pdi_list (pd_var 1)) (blkOk_by (own := [("row", 6), ("shares", 7)]) (by kernel_rfl)) (fun _ _ _ _ _ => pg_tup rfl (pgs_cons (pg_name (i := 6) sc_p_rows_that_go.nd rfl (by first | exact .inl rfl | exact .inr rfl)) (pgs_cons (pg_name (i := 7) sc_p_rows_that_go.nd rfl (by first | exact .inl rfl | exact .inr rfl)) (pgs_nil)))) (tg_tup (tgs_cons (tg_name (i := 6) (by decide)) (tgs_cons (tg_name (i := 7) (by decide)) (tgs_nil) (mon_name (i := 7))) (mon_name (i := 6)))) (mon_tup (mon_cons (mon_name (i := 6)) (mon_cons (mon_name (i := 7)) (mon_nil)))) (fun _ _ _ _ _ => pdts_nil) (fun _ _ _ _ _ => pd_call G_p_carries (hr.mono (by decide)) rfl T.g_p_carries T.F_p_carries.kp T.b_p_carries_3 (pda_cons (pd_ix ix_seq opd_ix (pd_ix ix_seq opd_ix (pd_var 4) (pd_var 6)) (pd_int)) (pda_cons (pd_call G_p_minus_one (hr.mono (by decide)) rfl T.g_p_minus_one T.F_p_minus_one.kp T.b_p_minus_one_1 (pda_cons (pd_op op_mulA opd_mul (pd_int) (pd_callB call_len cal_len rfl T.n_len (by decide +kernel) (pda_cons (pd_var 2) (pda_nil)))) (pda_nil))) (pda_cons (pd_var 7) (pda_nil)))))) (pda_nil))))) (pds_one (pds_ret (pd_non))) (pds_nil)) (pds_one (pds_ret (pd_lc (own := [("row", 6)]) rfl sc_p_rows_that_go.nd (pdi_range1 rfl T.n_range (pda_cons (pd_callB call_len cal_len rfl T.n_len (by decide +kernel) (pda_cons (pd_var 4) (pda_nil))) (pda_nil))) (blkOk_by (own := [("row", 6)]) (by kernel_rfl)) (fun _ _ _ _ _ => pg_name (i := 6) sc_p_rows_that_go.nd rfl (by first | exact .inl rfl | exact .inr rfl)) (tg_name (i := 6) (by decide)) (mon_name (i := 6)) (fun _ _ _ _ _ => pdts_one (pdt_cmp (op_notInF hr.r.units) opd_notIn (pd_var 6) (pd_var 5) (by rfl))) (fun _ _ _ _ _ => pd_var 6)))))))))
    sem_p_rows_that_go
/-- what is asked of a row's fall, and of its bound -/
def askT (a b : Int × List Int) (f : Bool) : Int × List Int := (a.1 - b.1 - (if f then 1 else 0), a.2 ++ b.2.map fun x => 0 - x)
def bndT (a : Int × List Int) : Int × List Int := (a.1, a.2 ++ List.replicate a.2.length 0)
def sp_p_fall_asked : FS := fun ds ms P => match ds with
  | [d, .lst ys, .bl f] => ∃ (r : Rw) (t : Tb) (B n : Nat) (a b : Int × List Int), d = rwD r ∧ ys = t.map lnT ∧ TbOk B n t ∧ n ≤ 8 ∧ 0 ≤ r.s ∧ r.s < t.length ∧ 0 ≤ r.t ∧ r.t < t.length ∧ t[r.s.toNat]? = some a ∧ t[r.t.toNat]? = some b ∧
      P (.lst (((askT a b f).1 :: (askT a b f).2).map D.int)) ms
  | _ => False
theorem len_p_fall_asked : ∀ ds ms Q, sp_p_fall_asked ds ms Q → ds.length = 3 := fun ds ms Q h => by
  unfold sp_p_fall_asked at h
  split at h <;> first | rfl | exact h.elim
def t_p_fall_asked : DTS := dSeq (dAsg (dFrz (dCall 2 0 [0, 1] sp_p_fall_by (aCons (dVar 0) (aCons (dVar 1) (aNil))) (aNil))) (sName 3)) (dRet (dIf (dTru (dVar 2)) (dLst (aCons (dOp fSub (dOp fIx (dVar 3) (dC (.int 0))) (dC (.int 1))) (aStar (dSl (dVar 3) (oSome (dC (.int 1))) (oNone)) (aNil)))) (dVar 3)))
theorem ask_false (a b : Int × List Int) : (fallL a b).map D.int = ((askT a b false).1 :: (askT a b false).2).map D.int := by
  rw [fall_eq]
  show _ = ((a.1 - b.1 - 0) :: _).map D.int
  rw [Int.sub_zero]
  rfl
theorem sem_p_fall_asked : ∀ ds ms Q, sp_p_fall_asked ds ms Q → t_p_fall_asked { nx := fun _ m => Q .non m, rt := Q } (startD 4 ds) ms := by
  intro ds ms Q h
  unfold sp_p_fall_asked at h
  split at h
  · rename_i d ys f
    obtain ⟨r, t, B, n, a, b, rfl, rfl, ok, n8, s0, s1, t0, t1, ea, eb, h⟩ := h
    simp only [startD]
    unfold t_p_fall_asked
    walk_at "st"
    refine ⟨r, t, B, n, a, b, rfl, rfl, ok, n8, s0, s1, t0, t1, ea, eb, fun p hp => ?_⟩
    walk_at "st"
    cases f with
    | true =>
      refine w_iteT rfl ?_
      have e : (fallL a b).map D.int = D.int (a.1 - b.1) :: (a.2 ++ b.2.map fun x => 0 - x).map D.int := by rw [fall_eq]; rfl
      rw [e]
      walk_at "st"
      rw [cut_1, List.append_nil]
      refine ⟨size_ok (by
        rw [List.length_cons, List.length_map, List.length_append, List.length_map, ok.ln a (mem_at ea), ok.ln b (mem_at eb)]; omega), ?_⟩
      exact h
    | false =>
      refine w_iteF rfl ?_
      walk_at "st"
      rw [ask_false]
      exact h
  · exact h.elim
theorem ok_p_fall_asked (T : Tx P K mg) : FnG P w K mg base 4 T.f_p_fall_asked T.d_p_fall_asked ["way", "weighing", "falls"] (spD K sp_p_fall_asked) := by
  have G_p_fall_by := ok_p_fall_by (P := P) (w := w) (base := base) T
  exact fnG_of (k := 3) (t := t_p_fall_asked) T.F_p_fall_asked sc_p_fall_asked len_p_fall_asked
    (fun cdv A outer s H hr => pds_cons (pds_set (i := 3) sc_p_fall_asked.nd rfl (.inl rfl) (pd_frz (pd_call G_p_fall_by (hr.mono (by decide)) rfl T.g_p_fall_by T.F_p_fall_by.kp T.b_p_fall_by_2 (pda_cons (pd_var 0) (pda_cons (pd_var 1) (pda_nil)))))) (pds_one (pds_ret (pd_ifExp (pdt_tru (pd_var 2)) (pd_lst (pda_cons (pd_op op_sub opd_sub (pd_ix ix_seq opd_ix (pd_var 3) (pd_int)) (pd_int)) (pda_star (pd_slice (pd_var 3) (pdo_some (pd_int)) (pdo_none)) (pda_nil)))) (pd_var 3)))))
    sem_p_fall_asked
structure En where
  row : Int
  falls : Bool
  lost : List (Int × Int)
  bound : List (Int × Int)
def enD (e : En) : D := .tup [.int e.row, .bl e.falls, .lst (e.lost.map fr), .lst (e.bound.map fr)]
structure Rk where
  tb : Tb
  es : List En
def rkD (k : Rk) : D := .tup [.lst (k.tb.map lnT), .lst (k.es.map enD)]
structure EnOk (g : Pg) (t : Tb) (row : Nat) (e : En) : Prop where
  nr : e.row = (row : Int)
  ex : ∃ r a b, g.rs[row]? = some r ∧ t[r.s.toNat]? = some a ∧ t[r.t.toNat]? = some b ∧ CarV r.ws (askT a b e.falls) e.lost ∧ CarV r.ws (bndT a) e.bound
def IsEn (g : Pg) (t : Tb) (row : Nat) (d : D) : Prop := ∃ e, d = enD e ∧ EnOk g t row e
def sp_p_lets_entry : FS := fun ds ms P => match ds with
  | [d, .lst ys, .int i, x] => ∃ (g : Pg) (t : Tb) (B row N : Nat), d = pgD g ∧ ys = t.map lnT ∧ i = (row : Int) ∧ PgOk B g ∧ TbOk B g.nm.length t ∧ B ≤ 500 ∧ t.length = g.pm.length ∧ AnyX N x ∧ N ≤ 500 ∧ Few B N g ∧ row < g.rs.length ∧ P (.bl (tf (IsEn g t row x))) ms
  | _ => False
theorem len_p_lets_entry : ∀ ds ms Q, sp_p_lets_entry ds ms Q → ds.length = 4 := fun ds ms Q h => by
  unfold sp_p_lets_entry at h
  split at h <;> first | rfl | exact h.elim
def t_p_lets_entry : DTS := dSeq (dIfS (dOr (dNot (dTest (dIsi .tuple (dVar 3)))) (dTest (dOp fNe (dCB cLen (aCons (dVar 3) (aNil))) (dC (.int 4))))) (dRet (dC (.bl false))) (dNext)) (dSeq (dAsg (dVar 3) (sTup 4 (sCons (sName 4) (sCons (sName 5) (sCons (sName 6) (sCons (sName 7) (sNil))))))) (dSeq (dIfS (dOr (dNot (dTest (dCall 1 0 [0] sp_p_is_whole (aCons (dVar 4) (aNil)) (aNil)))) (dOr (dTest (dOp fNe (dVar 4) (dVar 2))) (dNot (dTest (dIsi .bool (dVar 5)))))) (dRet (dC (.bl false))) (dNext)) (dSeq (dAsg (dOp fIx (dOp fIx (dVar 0) (dC (.int 2))) (dVar 2)) (sName 8)) (dSeq (dIfS (dNot (dTest (dCall 3 0 [0, 1, 2] sp_p_carries (aCons (dOp fIx (dVar 8) (dC (.int 2))) (aCons (dCall 3 0 [0, 1, 2] sp_p_fall_asked (aCons (dVar 8) (aCons (dVar 1) (aCons (dVar 5) (aNil)))) (aNil)) (aCons (dVar 6) (aNil)))) (aNil)))) (dRet (dC (.bl false))) (dNext)) (dRet (dCall 3 0 [0, 1, 2] sp_p_carries (aCons (dOp fIx (dVar 8) (dC (.int 2))) (aCons (dCall 1 0 [0] sp_p_line_ahead (aCons (dOp fIx (dVar 1) (dOp fIx (dVar 8) (dC (.int 0)))) (aNil)) (aNil)) (aCons (dVar 7) (aNil)))) (aNil)))))))
theorem sem_p_lets_entry : ∀ ds ms Q, sp_p_lets_entry ds ms Q → t_p_lets_entry { nx := fun _ m => Q .non m, rt := Q } (startD 9 ds) ms := by
  intro ds ms Q h
  unfold sp_p_lets_entry at h
  split at h
  · rename_i d ys i x
    obtain ⟨g, t, B, row, N, rfl, rfl, rfl, ok, tok, hB, tl, an, hN, few, hrow, h⟩ := h
    obtain ⟨r, er⟩ : ∃ r, g.rs[row]? = some r := ⟨_, List.getElem?_eq_getElem hrow⟩
    have hr := mem_at er
    have ro := ok.ro r hr
    have n3 := ok.nm.l2
    have s1 : r.s < (t.length : Int) := by rw [tl]; exact ro.s1
    have t1 : r.t < (t.length : Int) := by rw [tl]; exact ro.t1
    obtain ⟨a, ha, e1, e2⟩ := tb_at ro.s0 s1
    obtain ⟨b, hb, e3, e4⟩ := tb_at ro.t0 t1
    have la := tok.ln _ ha
    have lb := tok.ln _ hb
    have ba := tok.bd _ ha a.1 List.mem_cons_self
    have bb := tok.bd _ hb b.1 List.mem_cons_self
    have fw := few.ex r hr
    have bw : ∀ w ∈ r.ws, ∀ x ∈ w.ls, Bd (B + 2) x := fun w hw x hx => ((ro.wo w hw).bd x hx).mono (by omega)
    have f1 : ∀ f, CFit r.ws (askT a b f).1 (askT a b f).2 N := by
      intro f
      have lf : (askT a b f).2.length = 2 * g.nm.length := by
        show (a.2 ++ b.2.map fun x => 0 - x).length = _
        rw [List.length_append, List.length_map, la, lb]; omega
      refine ⟨⟨B + 2, bw, ?_, fw⟩, fun w hw => (ro.wo w hw).ln.trans lf.symm, by omega⟩
      have z1 : Bd (B + 1) (a.1 - b.1) := by rw [Int.sub_eq_add_neg]; exact ba.add bb.neg
      have z2 : Bd (B + 1) (-(if f then (1 : Int) else 0)) := by
        have : Bd 1 (-(if f then (1 : Int) else 0)) := by unfold Bd; cases f <;> decide
        exact this.mono (by omega)
      show Bd (B + 2) (a.1 - b.1 - (if f then 1 else 0))
      rw [Int.sub_eq_add_neg (a := a.1 - b.1)]
      exact z1.add z2
    have f2 : CFit r.ws (bndT a).1 (bndT a).2 N := by
      have lf : (bndT a).2.length = 2 * g.nm.length := by
        show (a.2 ++ List.replicate a.2.length 0).length = _
        rw [List.length_append, List.length_replicate, la]; omega
      exact ⟨⟨B + 2, bw, ba.mono (by omega), fw⟩, fun w hw => (ro.wo w hw).ln.trans lf.symm, by omega⟩
    obtain ⟨ty, ety⟩ := an.ty
    simp only [startD]
    unfold t_p_lets_entry pgD
    walk_at "st"
    cases x with
    | tup xs =>
      obtain ⟨hl, oka⟩ := an.tup
      walk_at "st"
      by_cases h4 : xs.length ≠ 4
      · refine w_iteT (by rw [Bool.not_eq_true', beq_eq_false_iff_ne]; omega) ?_
        walk_at "st"
        refine tf_f h fun ⟨p, e, _⟩ => ?_
        injection e with e
        rw [e] at h4
        exact h4 rfl
      have h4 : xs.length = 4 := by omega
      refine w_iteF (by rw [h4]; rfl) ?_
      match xs, h4 with
      | [x0, x1, x2, x3], _ =>
      have a0 := oka x0 (by simp)
      have a1 := oka x1 (by simp)
      have a2 := oka x2 (by simp)
      have a3 := oka x3 (by simp)
      have inv : IsEn g t row (.tup [x0, x1, x2, x3]) ↔ x0 = .int (row : Int) ∧ ∃ f, x1 = .bl f ∧ IsCar r.ws ((askT a b f).1, (askT a b f).2) x2 ∧ IsCar r.ws ((bndT a).1, (bndT a).2) x3 := by
        constructor
        · rintro ⟨e, z, nr, r', a', b', q1, q2, q3, c1, c2⟩
          unfold enD at z
          simp only [D.tup.injEq, List.cons.injEq, and_true] at z
          obtain ⟨z0, z1, z2, z3⟩ := z
          rw [er] at q1
          cases q1
          rw [e1] at q2
          cases q2
          rw [e3] at q3
          cases q3
          exact ⟨by rw [z0, nr], _, z1, ⟨_, z2, c1⟩, ⟨_, z3, c2⟩⟩
        · rintro ⟨z0, f, z1, ⟨ss, z2, c1⟩, ⟨us, z3, c2⟩⟩
          exact ⟨⟨row, f, ss, us⟩, by rw [z0, z1, z2, z3]; rfl, rfl, r, a, b, er, e1, e3, c1, c2⟩
      have hI : Q (.bl (tf (x0 = .int (row : Int) ∧ ∃ f, x1 = .bl f ∧ IsCar r.ws ((askT a b f).1, (askT a b f).2) x2 ∧ IsCar r.ws ((bndT a).1, (bndT a).2) x3))) ms := tf_e h (by rw [tf_iff]; exact inv.symm)
      walk_at "st"
      refine ⟨a0.ty, ?_⟩
      cases hw : isW x0 with
      | false =>
        walk_at "st"
        refine tf_f hI fun ⟨z, _⟩ => ?_
        rw [z] at hw
        cases hw
      | true =>
      obtain ⟨n, rfl⟩ : ∃ n, x0 = .int n := by
        cases x0 with
        | int n => exact ⟨n, rfl⟩
        | _ => cases hw
      walk_at "st"
      by_cases hn : n ≠ (row : Int)
      · refine w_iteT (by rw [Bool.not_eq_true', beq_eq_false_iff_ne]; exact hn) ?_
        walk_at "st"
        refine tf_f hI fun ⟨z, _⟩ => ?_
        injection z with z
        exact hn z
      have hn : n = (row : Int) := by omega
      refine w_iteF (by rw [hn]; simp) ?_
      subst hn
      obtain ⟨ty1, ety1⟩ := a1.ty
      walk_at "st"
      cases x1 with
      | bl f =>
        walk_at "st"
        refine w_ix_l (d := rwD r) (atI_nat (by rw [List.getElem?_map, er]; rfl)) ?_
        unfold rwD
        walk_at "st"
        refine ⟨r, t, B, g.nm.length, a, b, rfl, rfl, tok, by omega, ro.s0, s1, ro.t0, t1, e1, e3, ?_⟩
        walk_at "st"
        refine ⟨r.ws, (askT a b f).1, (askT a b f).2, N, rfl, rfl, f1 f, a2, ?_⟩
        cases hc : tf (IsCar r.ws ((askT a b f).1, (askT a b f).2) x2) with
        | false =>
          walk_at "st"
          refine tf_f hI fun ⟨_, f', z, c, _⟩ => ?_
          injection z with z
          subst z
          rw [tf_yes c] at hc
          cases hc
        | true =>
        walk_at "st"
        refine w_ix_l e2 ?_
        walk_at "st"
        refine ⟨a.1, a.2, rfl, by omega, ?_⟩
        walk_at "st"
        refine ⟨r.ws, (bndT a).1, (bndT a).2, N, rfl, rfl, f2, a3, ?_⟩
        refine tf_e hI ?_
        rw [tf_iff]
        exact ⟨fun c => ⟨rfl, f, rfl, tf_iff.mp hc, c⟩, fun ⟨_, _, _, _, c⟩ => c⟩
      | _ => cases ety1 <;> (walk_at "st"; exact tf_f hI fun ⟨_, f', z, _⟩ => by cases z)
    | _ => cases ety <;> (walk_at "st"; exact tf_f h fun ⟨_, z, _⟩ => by cases z)
  · exact h.elim
theorem ok_p_lets_entry (T : Tx P K mg) : FnG P w K mg base 6 T.f_p_lets_entry T.d_p_lets_entry ["program", "weighing", "row", "thing"] (spD K sp_p_lets_entry) := by
  have G_p_carries := ok_p_carries (P := P) (w := w) (base := base) T
  have G_p_line_ahead := ok_p_line_ahead (P := P) (w := w) (base := base) T
  have G_p_is_whole := ok_p_is_whole (P := P) (w := w) (base := base) T
  have G_p_fall_asked := ok_p_fall_asked (P := P) (w := w) (base := base) T
  exact fnG_of (k := 5) (t := t_p_lets_entry) T.F_p_lets_entry sc_p_lets_entry len_p_lets_entry
    (fun cdv A outer s H hr => pds_cons (pds_if (pdt_w (pdw_or (pdt_not (pdt_val (pd_isi .tuple (by decide) rfl T.n_isinstance rfl T.n_tuple (by decide +kernel) (by decide) (by decide) (pd_var 3)))) (pdw_or1 (pdt_cmp (op_neF hr.r.units) opd_ne (pd_callB call_len cal_len rfl T.n_len (by decide +kernel) (pda_cons (pd_var 3) (pda_nil))) (pd_int))))) (pds_one (pds_ret (pd_bl))) (pds_nil)) (pds_cons (pds_asg (vs := [4, 5, 6, 7]) (pd_var 3) (pg_tup rfl (pgs_cons (pg_name (i := 4) sc_p_lets_entry.nd rfl (.inl rfl)) (pgs_cons (pg_name (i := 5) sc_p_lets_entry.nd rfl (.inl rfl)) (pgs_cons (pg_name (i := 6) sc_p_lets_entry.nd rfl (.inl rfl)) (pgs_cons (pg_name (i := 7) sc_p_lets_entry.nd rfl (.inl rfl)) (pgs_nil)))))) (tg_tup (tgs_cons (tg_name (i := 4) (by decide)) (tgs_cons (tg_name (i := 5) (by decide)) (tgs_cons (tg_name (i := 6) (by decide)) (tgs_cons (tg_name (i := 7) (by decide)) (tgs_nil) (mon_name (i := 7))) (mon_name (i := 6))) (mon_name (i := 5))) (mon_name (i := 4))))) (pds_cons (pds_if (pdt_w (pdw_or (pdt_not (pdt_val (pd_call G_p_is_whole (hr.mono (by decide)) rfl T.g_p_is_whole T.F_p_is_whole.kp T.b_p_is_whole_1 (pda_cons (pd_var 4) (pda_nil))))) (pdw_or (pdt_cmp (op_neF hr.r.units) opd_ne (pd_var 4) (pd_var 2)) (pdw_or1 (pdt_not (pdt_val (pd_isi .bool (by decide) rfl T.n_isinstance rfl T.n_bool (by decide +kernel) (by decide) (by decide) (pd_var 5)))))))) (pds_one (pds_ret (pd_bl))) (pds_nil)) (pds_cons (pds_set (i := 8) sc_p_lets_entry.nd rfl (.inl rfl) (pd_ix ix_seq opd_ix (pd_ix ix_seq opd_ix (pd_var 0) (pd_int)) (pd_var 2))) (pds_cons (pds_if (pdt_not (pdt_val (pd_call G_p_carries (hr.mono (by decide)) rfl T.g_p_carries T.F_p_carries.kp T.b_p_carries_3 (pda_cons (pd_ix ix_seq opd_ix (pd_var 8) (pd_int)) (pda_cons (pd_call G_p_fall_asked (hr.mono (by decide)) rfl T.g_p_fall_asked T.F_p_fall_asked.kp T.b_p_fall_asked_3 (pda_cons (pd_var 8) (pda_cons (pd_var 1) (pda_cons (pd_var 5) (pda_nil))))) (pda_cons (pd_var 6) (pda_nil))))))) (pds_one (pds_ret (pd_bl))) (pds_nil)) (pds_one (pds_ret (pd_call G_p_carries (hr.mono (by decide)) rfl T.g_p_carries T.F_p_carries.kp T.b_p_carries_3 (pda_cons (pd_ix ix_seq opd_ix (pd_var 8) (pd_int)) (pda_cons (pd_call G_p_line_ahead (hr.mono (by decide)) rfl T.g_p_line_ahead T.F_p_line_ahead.kp T.b_p_line_ahead_1 (pda_cons (pd_ix ix_seq opd_ix (pd_var 1) (pd_ix ix_seq opd_ix (pd_var 8) (pd_int))) (pda_nil))) (pda_cons (pd_var 7) (pda_nil))))))))))))
    sem_p_lets_entry
/-- a rank told for the rows that are left -/
structure RkOk (g : Pg) (left : List Nat) (k : Rk) : Prop where
  tl : k.tb.length = g.pm.length
  tn : ∀ p ∈ k.tb, p.2.length = g.nm.length
  el : k.es.length = left.length
  eo : ∀ p ∈ left.zip k.es, EnOk g k.tb p.1 p.2
def outR (left : List Nat) (k : Rk) : List Nat := ((left.zip k.es).filter fun p => !p.2.falls).map (·.1)
def natsD (is : List Nat) : D := .lst (is.map fun (k : Nat) => D.int (k : Int))
def sp_p_left_behind : FS := fun ds ms P => match ds with
  | [d, .lst ys, x] => ∃ (g : Pg) (left : List Nat) (N : Nat), d = pgD g ∧ ys = natL left ∧ PgOk N g ∧ N ≤ 500 ∧ AnyX N x ∧ Few N N g ∧ (∀ k ∈ left, k < g.rs.length) ∧ left.length ≤ 100 ∧
      (∀ k, x = rkD k → RkOk g left k → P (natsD (outR left k)) ms) ∧ ((¬ ∃ k, x = rkD k ∧ RkOk g left k) → P .non ms)
  | _ => False
theorem len_p_left_behind : ∀ ds ms Q, sp_p_left_behind ds ms Q → ds.length = 3 := fun ds ms Q h => by
  unfold sp_p_left_behind at h
  split at h <;> first | rfl | exact h.elim
def t_p_left_behind : DTS := dSeq (dIfS (dOr (dNot (dTest (dIsi .tuple (dVar 2)))) (dTest (dOp fNe (dCB cLen (aCons (dVar 2) (aNil))) (dC (.int 2))))) (dRet (dC .non)) (dNext)) (dSeq (dAsg (dVar 2) (sTup 2 (sCons (sName 3) (sCons (sName 4) (sNil))))) (dSeq (dIfS (dOr (dNot (dTest (dCall 2 0 [0, 1] sp_p_is_weighing (aCons (dVar 0) (aCons (dVar 3) (aNil))) (aNil)))) (dOr (dNot (dTest (dIsi .list (dVar 4)))) (dTest (dOp fNe (dCB cLen (aCons (dVar 4) (aNil))) (dCB cLen (aCons (dVar 1) (aNil))))))) (dRet (dC .non)) (dNext)) (dSeq (dIfS (dNot (dTest (dCB cAll (aCons (dLc (iZipD (aCons (dVar 1) (aCons (dVar 4) (aNil)))) (sTup 2 (sCons (sName 5) (sCons (sName 6) (sNil)))) (dYes) (dCall 4 0 [0, 1, 2, 3] sp_p_lets_entry (aCons (dVar 0) (aCons (dVar 3) (aCons (dVar 5) (aCons (dVar 6) (aNil))))) (aNil)) [5, 6]) (aNil))))) (dRet (dC .non)) (dNext)) (dRet (dLc (iZipD (aCons (dVar 1) (aCons (dVar 4) (aNil)))) (sTup 2 (sCons (sName 5) (sCons (sName 6) (sNil)))) (dNot (dTru (dOp fIx (dVar 6) (dC (.int 1))))) (dVar 5) [5, 6])))))
theorem PgOk.mono {B B' : Nat} {g : Pg} (h : PgOk B g) (hb : B ≤ B') : PgOk B' g := ⟨h.nm, h.pm, h.rl, fun r hr => ⟨(h.ro r hr).s0, (h.ro r hr).s1, (h.ro r hr).t0, (h.ro r hr).t1, (h.ro r hr).wl, fun w hw => ⟨fun x hx => (((h.ro r hr).wo w hw).bd x hx).mono hb, ((h.ro r hr).wo w hw).ln⟩⟩⟩
theorem zip_ens {g : Pg} {t : Tb} : ∀ {is : List Nat} {xs : List D}, is.length = xs.length → (∀ q ∈ is.zip xs, IsEn g t q.1 q.2) → ∃ es : List En, xs = es.map enD ∧ ∀ q ∈ is.zip es, EnOk g t q.1 q.2
  | [], [], _, _ => ⟨[], rfl, fun _ h => by cases h⟩
  | [], _ :: _, e, _ => by cases e
  | _ :: _, [], e, _ => by cases e
  | k :: is, x :: xs, e, h => by
    obtain ⟨p, e1, o1⟩ := h (k, x) (by rw [List.zip_cons_cons]; exact List.mem_cons_self)
    obtain ⟨ps, e2, o2⟩ := zip_ens (is := is) (xs := xs) (by simpa using e) fun q hq => h q (by rw [List.zip_cons_cons]; exact List.mem_cons_of_mem _ hq)
    refine ⟨p :: ps, by rw [show x = enD p from e1, e2]; rfl, fun q hq => ?_⟩
    rw [List.zip_cons_cons] at hq
    rcases List.mem_cons.mp hq with rfl | hq
    · exact o1
    · exact o2 q hq
theorem zip_mapE {is : List Nat} {ps : List En} {q : Nat × D} (h : q ∈ is.zip (ps.map enD)) : ∃ p, q.2 = enD p ∧ (q.1, p) ∈ is.zip ps := by
  rw [List.zip_map_right] at h
  obtain ⟨r, hr, rfl⟩ := List.mem_map.mp h
  exact ⟨r.2, rfl, hr⟩
theorem lnT_inj {p q : Int × List Int} (h : lnT p = lnT q) : p = q := by
  have go : ∀ {xs ys : List Int}, xs.map D.int = ys.map D.int → xs = ys := by
    intro xs
    induction xs with
    | nil => intro ys h; cases ys with | nil => rfl | cons _ _ => cases h
    | cons x xs ih => intro ys h; cases ys with
      | nil => cases h
      | cons y ys => rw [List.map_cons, List.map_cons] at h; injection h with h1 h2; injection h1 with h1; rw [h1, ih h2]
  unfold lnT at h
  injection h with h
  have := go h
  injection this with h1 h2
  obtain ⟨a, b⟩ := p
  obtain ⟨c, d⟩ := q
  simp only at h1 h2
  rw [h1, h2]
theorem en_inj {p q : En} (h : enD p = enD q) : p = q := by
  obtain ⟨a, b, c, d⟩ := p
  obtain ⟨a', b', c', d'⟩ := q
  unfold enD at h
  simp only [D.tup.injEq, List.cons.injEq, D.int.injEq, D.bl.injEq, D.lst.injEq, and_true] at h
  obtain ⟨e0, e1, e2, e3⟩ := h
  rw [e0, e1, frs_inj e2, frs_inj e3]
theorem rk_inj {p q : Rk} (h : rkD p = rkD q) : p = q := by
  obtain ⟨a, b⟩ := p
  obtain ⟨a', b'⟩ := q
  unfold rkD at h
  simp only [D.tup.injEq, List.cons.injEq, D.lst.injEq, and_true] at h
  rw [maps_inj (fun _ _ => lnT_inj) h.1, maps_inj (fun _ _ => en_inj) h.2]
theorem anyx_tb {N : Nat} {t : Tb} (h : AnyX N (.lst (t.map lnT))) : ∀ p ∈ t, ∀ x ∈ p.1 :: p.2, Bd N x := fun p hp x hx =>
  ((h.lst.2 _ (List.mem_map_of_mem hp)).lst.2 _ (List.mem_map_of_mem hx)).int
theorem sem_p_left_behind : ∀ ds ms Q, sp_p_left_behind ds ms Q → t_p_left_behind { nx := fun _ m => Q .non m, rt := Q } (startD 7 ds) ms := by
  intro ds ms Q h
  unfold sp_p_left_behind at h
  split at h
  · rename_i d ys x
    obtain ⟨g, left, N, rfl, rfl, ok, hN, an, few, hk, l100, hy, hn⟩ := h
    have n3 := ok.nm.l2
    have p6 := ok.pm.l2
    obtain ⟨ty, ety⟩ := an.ty
    simp only [startD]
    unfold t_p_left_behind
    walk_at "st"
    cases x with
    | tup xs =>
      obtain ⟨hl, oka⟩ := an.tup
      walk_at "st"
      by_cases h2 : xs.length ≠ 2
      · refine w_iteT (by rw [Bool.not_eq_true', beq_eq_false_iff_ne]; omega) ?_
        walk_at "st"
        refine hn fun ⟨k, e, _⟩ => ?_
        injection e with e
        rw [e] at h2
        exact h2 rfl
      have h2 : xs.length = 2 := by omega
      refine w_iteF (by rw [h2]; rfl) ?_
      match xs, h2 with
      | [x0, x1], _ =>
      have a0 := oka x0 (by simp)
      have a1 := oka x1 (by simp)
      have inv : ∀ k, D.tup [x0, x1] = rkD k → x0 = .lst (k.tb.map lnT) ∧ x1 = .lst (k.es.map enD) := fun k e => by
        unfold rkD at e
        simp only [D.tup.injEq, List.cons.injEq, and_true] at e
        exact e
      walk_at "st"
      refine ⟨g, N, rfl, by omega, a0, ?_⟩
      cases ht : tf (IsTb g x0) with
      | false =>
        walk_at "st"
        refine hn fun ⟨k, e, o⟩ => ?_
        rw [tf_yes ⟨k.tb, (inv k e).1, o.tl, o.tn⟩] at ht
        cases ht
      | true =>
      obtain ⟨t, rfl, tl, tn⟩ := tf_iff.mp ht
      have tok : TbOk N g.nm.length t := ⟨anyx_tb a0, tn⟩
      obtain ⟨ty1, ety1⟩ := a1.ty
      walk_at "st"
      cases x1 with
      | lst xs =>
        obtain ⟨hl1, ok1⟩ := a1.lst
        walk_at "st"
        rw [show (natL left).length = left.length from List.length_map ..]
        by_cases hb : xs.length ≠ left.length
        · refine w_iteT (by rw [Bool.not_eq_true', beq_eq_false_iff_ne]; omega) ?_
          walk_at "st"
          refine hn fun ⟨k, e, o⟩ => ?_
          have := (inv k e).2
          injection this with this
          rw [this, List.length_map] at hb
          exact hb o.el
        have hb : xs.length = left.length := by omega
        refine w_iteF (by rw [hb]; simp) ?_
        walk_at "st"
        rw [show zipD (natL left) xs = (left.zip xs).map fun q => D.tup [.int (q.1 : Int), q.2] from zipD_m1 _ _ _]
        simp only [wipeD, List.set]
        refine comp_e (fun q : Nat × D => D.tup [.int (q.1 : Int), q.2]) (fun q => D.bl (tf (IsEn g t q.1 q.2))) (left.zip xs) [] _ (by rw [List.length_zip, List.length_nil]; omega) (fun q hq P0 q0 => ?_) ?_
        · walk_at "st"
          exact ⟨g, t, N, q.1, N, rfl, rfl, rfl, ok, tok, hN, tl, ok1 _ (List.of_mem_zip hq).2, hN, few, hk _ (List.of_mem_zip hq).1, q0⟩
        rw [List.nil_append]
        walk_at "st"
        refine w_all (bls_map _ _) ?_
        rw [all_id]
        cases hA : (left.zip xs).all fun q => tf (IsEn g t q.1 q.2) with
        | false =>
          walk_at "st"
          refine hn fun ⟨k, e, o⟩ => ?_
          obtain ⟨z1, z2⟩ := inv k e
          injection z1 with z1
          injection z2 with z2
          have z1 := maps_inj (fun _ _ => lnT_inj) z1
          subst z1
          subst z2
          rw [(tfs_all (fun q : Nat × D => IsEn g k.tb q.1 q.2) _).mpr fun q hq => by
            obtain ⟨p, e3, h3⟩ := zip_mapE hq
            exact ⟨p, e3, o.eo _ h3⟩] at hA
          cases hA
        | true =>
        obtain ⟨es, rfl, eo⟩ := zip_ens (g := g) (t := t) hb.symm ((tfs_all (fun q : Nat × D => IsEn g t q.1 q.2) _).mp hA)
        rw [List.length_map] at hb hl1
        have rk : RkOk g left ⟨t, es⟩ := ⟨tl, tn, hb, eo⟩
        have h := hy ⟨t, es⟩ rfl rk
        walk_at "st"
        rw [show zipD (natL left) (es.map enD) = (left.zip es).map fun q => D.tup [.int (q.1 : Int), enD q.2] from zipD_mp _ _ _ _]
        simp only [wipeD, List.set]
        refine comp_fV (fun p : Nat × En => D.tup [.int (p.1 : Int), enD p.2]) (fun p => !p.2.falls) (fun p => D.int (p.1 : Int)) _ [] _ (by rw [List.length_zip, List.length_nil]; omega) (fun p hp K L hK hL => ?_) ?_
        · unfold enD
          walk_at "st"
          cases hf : p.2.falls with
          | true =>
            rw [hf] at hK hL
            walk_at "st"
            exact hL rfl
          | false =>
            rw [hf] at hK hL
            walk_at "st"
            exact hK rfl
        · rw [List.nil_append]
          walk_at "st"
          unfold natsD outR at h
          rw [List.map_map] at h
          exact h
      | _ => cases ety1 <;> (walk_at "st"; exact hn fun ⟨k, e, _⟩ => by have := (inv k e).2; cases this)
    | _ => cases ety <;> (walk_at "st"; exact hn fun ⟨_, e, _⟩ => by cases e)
  · exact h.elim
theorem ok_p_left_behind (T : Tx P K mg) : FnG P w K mg base 7 T.f_p_left_behind T.d_p_left_behind ["program", "left", "thing"] (spD K sp_p_left_behind) := by
  have G_p_is_weighing := ok_p_is_weighing (P := P) (w := w) (base := base) T
  have G_p_lets_entry := ok_p_lets_entry (P := P) (w := w) (base := base) T
  exact fnG_of (k := 6) (t := t_p_left_behind) T.F_p_left_behind sc_p_left_behind len_p_left_behind
    (fun cdv A outer s H hr => pds_cons (pds_if (pdt_w (pdw_or (pdt_not (pdt_val (pd_isi .tuple (by decide) rfl T.n_isinstance rfl T.n_tuple (by decide +kernel) (by decide) (by decide) (pd_var 2)))) (pdw_or1 (pdt_cmp (op_neF hr.r.units) opd_ne (pd_callB call_len cal_len rfl T.n_len (by decide +kernel) (pda_cons (pd_var 2) (pda_nil))) (pd_int))))) (pds_one (pds_ret (pd_non))) (pds_nil)) (pds_cons (pds_asg (vs := [3, 4]) (pd_var 2) (pg_tup rfl (pgs_cons (pg_name (i := 3) sc_p_left_behind.nd rfl (.inr rfl)) (pgs_cons (pg_name (i := 4) sc_p_left_behind.nd rfl (.inl rfl)) (pgs_nil)))) (tg_tup (tgs_cons (tg_name (i := 3) (by decide)) (tgs_cons (tg_name (i := 4) (by decide)) (tgs_nil) (mon_name (i := 4))) (mon_name (i := 3))))) (pds_cons (pds_if (pdt_w (pdw_or (pdt_not (pdt_val (pd_call G_p_is_weighing (hr.mono (by decide)) rfl T.g_p_is_weighing T.F_p_is_weighing.kp T.b_p_is_weighing_2 (pda_cons (pd_var 0) (pda_cons (pd_var 3) (pda_nil)))))) (pdw_or (pdt_not (pdt_val (pd_isi .list (by decide) rfl T.n_isinstance rfl T.n_list (by decide +kernel) (by decide) (by decide) (pd_var 4)))) (pdw_or1 (pdt_cmp (op_neF hr.r.units) opd_ne (pd_callB call_len cal_len rfl T.n_len (by decide +kernel) (pda_cons (pd_var 4) (pda_nil))) (pd_callB call_len cal_len rfl T.n_len (by decide +kernel) (pda_cons (pd_var 1) (pda_nil)))))))) (pds_one (pds_ret (pd_non))) (pds_nil)) (pds_cons (pds_if (pdt_not (pdt_val (pd_callB (cr_all rfl) cal_all rfl T.n_all (by decide +kernel) (pda_cons (pd_lc (own := [("row", 5), ("entry", 6)]) rfl sc_p_left_behind.nd (pdi_zip rfl T.n_zip (pda_cons (pd_var 1) (pda_cons (pd_var 4) (pda_nil)))) (blkOk_by (own := [("row", 5), ("entry", 6)]) (by kernel_rfl)) (fun _ _ _ _ _ => pg_tup rfl (pgs_cons (pg_name (i := 5) sc_p_left_behind.nd rfl (by first | exact .inl rfl | exact .inr rfl)) (pgs_cons (pg_name (i := 6) sc_p_left_behind.nd rfl (by first | exact .inl rfl | exact .inr rfl)) (pgs_nil)))) (tg_tup (tgs_cons (tg_name (i := 5) (by decide)) (tgs_cons (tg_name (i := 6) (by decide)) (tgs_nil) (mon_name (i := 6))) (mon_name (i := 5)))) (mon_tup (mon_cons (mon_name (i := 5)) (mon_cons (mon_name (i := 6)) (mon_nil)))) (fun _ _ _ _ _ => pdts_nil) (fun _ _ _ _ _ => pd_call G_p_lets_entry (hr.mono (by decide)) rfl T.g_p_lets_entry T.F_p_lets_entry.kp T.b_p_lets_entry_4 (pda_cons (pd_var 0) (pda_cons (pd_var 3) (pda_cons (pd_var 5) (pda_cons (pd_var 6) (pda_nil))))))) (pda_nil))))) (pds_one (pds_ret (pd_non))) (pds_nil)) (pds_one (pds_ret (pd_lc (own := [("row", 5), ("entry", 6)]) rfl sc_p_left_behind.nd (pdi_zip rfl T.n_zip (pda_cons (pd_var 1) (pda_cons (pd_var 4) (pda_nil)))) (blkOk_by (own := [("row", 5), ("entry", 6)]) (by kernel_rfl)) (fun _ _ _ _ _ => pg_tup rfl (pgs_cons (pg_name (i := 5) sc_p_left_behind.nd rfl (by first | exact .inl rfl | exact .inr rfl)) (pgs_cons (pg_name (i := 6) sc_p_left_behind.nd rfl (by first | exact .inl rfl | exact .inr rfl)) (pgs_nil)))) (tg_tup (tgs_cons (tg_name (i := 5) (by decide)) (tgs_cons (tg_name (i := 6) (by decide)) (tgs_nil) (mon_name (i := 6))) (mon_name (i := 5)))) (mon_tup (mon_cons (mon_name (i := 5)) (mon_cons (mon_name (i := 6)) (mon_nil)))) (fun _ _ _ _ _ => pdts_one (pdt_not (pdt_tru (pd_ix ix_seq opd_ix (pd_var 6) (pd_int))))) (fun _ _ _ _ _ => pd_var 5))))))))
    sem_p_left_behind
/-- ranks told one behind the other -/
inductive Goes (g : Pg) : List Nat → List Rk → List Nat → Prop
  | nil (left : List Nat) : Goes g left [] left
  | cons {left out : List Nat} {k : Rk} {ks : List Rk} : RkOk g left k → Goes g (outR left k) ks out → Goes g left (k :: ks) out
/-- what never and ranks leave -/
def Leaves (g : Pg) (y x : D) (out : List Nat) : Prop := ∃ nv ks, y = .lst (nv.map nvD) ∧ NvOk g nv ∧ x = .lst (ks.map rkD) ∧ Goes g (leftV g nv) ks out
def sp_p_left_by : FS := fun ds ms P => match ds with
  | [d, y, x] => ∃ (g : Pg) (N : Nat), d = pgD g ∧ PgOk N g ∧ N ≤ 500 ∧ AnyX N y ∧ AnyX N x ∧ Few N N g ∧
      (∀ out, Leaves g y x out → P (natsD out) ms) ∧ ((¬ ∃ out, Leaves g y x out) → P .non ms)
  | _ => False
theorem len_p_left_by : ∀ ds ms Q, sp_p_left_by ds ms Q → ds.length = 3 := fun ds ms Q h => by
  unfold sp_p_left_by at h
  split at h <;> first | rfl | exact h.elim
def t_p_left_by : DTS := dSeq (dDrop (dCall 1 0 [0] sp_p_look_at (aCons (dVar 0) (aNil)) (aNil))) (dSeq (dAsg (dCall 2 0 [0, 1] sp_p_rows_that_go (aCons (dVar 0) (aCons (dVar 1) (aNil))) (aNil)) (sName 3)) (dSeq (dIfS (dOr (dTest (dOp fIs (dVar 3) (dC .non))) (dNot (dTest (dIsi .list (dVar 2))))) (dRet (dC .non)) (dNext)) (dSeq (dFor (iSeq (dVar 2)) (sName 4) (dSeq (dAsg (dCall 3 0 [0, 1, 2] sp_p_left_behind (aCons (dVar 0) (aCons (dVar 3) (aCons (dVar 4) (aNil)))) (aNil)) (sName 3)) (dIfS (dTest (dOp fIs (dVar 3) (dC .non))) (dRet (dC .non)) (dNext)))) (dRet (dVar 3)))))
theorem outR_sub {left : List Nat} {k : Rk} : ∀ i ∈ outR left k, i ∈ left := fun i hi => by
  unfold outR at hi
  obtain ⟨p, hp, rfl⟩ := List.mem_map.mp hi
  exact (List.of_mem_zip (List.mem_filter.mp hp).1).1
theorem outR_len {left : List Nat} {k : Rk} : (outR left k).length ≤ left.length := by
  unfold outR
  rw [List.length_map]
  refine Nat.le_trans (List.length_filter_le ..) ?_
  rw [List.length_zip]
  exact Nat.min_le_left ..
theorem by_loop {tb : DTS} {E : EN} {ms : MS} {x0 x1 x2 : Option D} {g : Pg} {N : Nat}
    (htb : ∀ (left : List Nat) (x : D) (G : DS → MS → Prop), AnyX N x → (∀ k ∈ left, k < g.rs.length) → left.length ≤ 100 → (∀ k, x = rkD k → RkOk g left k → G [x0, x1, x2, some (natsD (outR left k)), some x] ms) → ((¬ ∃ k, x = rkD k ∧ RkOk g left k) → E.rt .non ms) →
      tb (EN.lp E G) [x0, x1, x2, some (natsD left), some x] ms) :
    ∀ (xs : List D) (left : List Nat) (x4 : Option D), (∀ x ∈ xs, AnyX N x) → (∀ k ∈ left, k < g.rs.length) → left.length ≤ 100 → (∀ ks out x4, xs = ks.map rkD → Goes g left ks out → E.nx [x0, x1, x2, some (natsD out), x4] ms) →
      ((¬ ∃ ks out, xs = ks.map rkD ∧ Goes g left ks out) → E.rt .non ms) → loopD (sName 4) tb E xs [x0, x1, x2, some (natsD left), x4] ms
  | [], left, x4, _, _, _, q, _ => q [] left x4 rfl (.nil left)
  | x :: xs, left, x4, hx, hk, hl, q, r => by
    refine w_loopC ?_
    walk_at "st"
    refine htb left x _ (hx x List.mem_cons_self) hk hl (fun k e o => ?_) fun n => r fun ⟨ks, out, e, go⟩ => ?_
    · refine by_loop htb xs (outR left k) _ (fun y hy => hx y (List.mem_cons_of_mem _ hy)) (fun i hi => hk i (outR_sub i hi)) (Nat.le_trans outR_len hl) (fun ks out x4 e2 go => q (k :: ks) out x4 (by rw [e, e2]; rfl) (.cons o go)) fun n => r fun ⟨ks, out, e2, go⟩ => ?_
      cases ks with
      | nil => cases e2
      | cons k' ks =>
        rw [List.map_cons] at e2
        injection e2 with e3 e4
        have : k = k' := rk_inj (e.symm.trans e3)
        subst this
        cases go with
        | cons o' go => exact n ⟨ks, out, e4, go⟩
    · cases ks with
      | nil => cases e
      | cons k' ks =>
        rw [List.map_cons] at e
        injection e with e3 e4
        cases go with
        | cons o' go => exact n ⟨k', e3, o'⟩
theorem leftV_lt {g : Pg} {nv : List (Nat × List (Int × Int))} : (∀ k ∈ leftV g nv, k < g.rs.length) ∧ (leftV g nv).length ≤ g.rs.length := by
  unfold leftV
  refine ⟨fun k h => List.mem_range.mp (List.mem_filter.mp h).1, ?_⟩
  have := List.length_filter_le (fun i => !decide (i ∈ nv.map (·.1))) (List.range g.rs.length)
  rwa [List.length_range] at this
theorem leftV_nil (g : Pg) : leftV g [] = List.range g.rs.length := by
  unfold leftV
  exact List.filter_eq_self.mpr fun _ _ => rfl
theorem sem_p_left_by : ∀ ds ms Q, sp_p_left_by ds ms Q → t_p_left_by { nx := fun _ m => Q .non m, rt := Q } (startD 5 ds) ms := by
  intro ds ms Q h
  unfold sp_p_left_by at h
  split at h
  · rename_i d y x
    obtain ⟨g, N, rfl, ok, hN, ay, an, few, hy, hn⟩ := h
    have rl := ok.rl
    obtain ⟨ty, ety⟩ := an.ty
    simp only [startD]
    unfold t_p_left_by
    walk_at "st"
    refine ⟨g, N, rfl, ok, ?_⟩
    walk_at "st"
    refine ⟨g, N, N, rfl, ok, ay, hN, few, fun nv ev nvo => ?_, fun n => by
      walk_at "st"
      exact hn fun ⟨_, nv, _, e, o, _⟩ => n ⟨nv, e, o⟩⟩
    have lv := leftV_lt (g := g) (nv := nv)
    unfold natsV
    walk_at "st"
    cases x with
    | lst xs =>
      obtain ⟨hl, oka⟩ := an.lst
      walk_at "st"
      refine by_loop (g := g) (N := N) (fun left x G ax hk l100 hG hR => ?_) xs (leftV g nv) none oka lv.1 (by omega) (fun ks out x4 e go => ?_) fun n => hn fun ⟨out, nv', ks, e', o', e, go⟩ => ?_
      · unfold natsD
        walk_at "st"
        refine ⟨g, left, N, rfl, rfl, ok, hN, ax, few, hk, l100, fun k e o => ?_, fun n => ?_⟩
        · unfold natsD
          walk_at "st"
          exact hG k e o
        · walk_at "st"
          exact hR n
      · walk_at "st"
        exact hy out ⟨nv, ks, ev, nvo, by rw [e], go⟩
      · injection e with e
        rw [ev] at e'
        injection e' with e'
        rw [← maps_inj (fun _ _ => nv_inj) e'] at go
        exact n ⟨ks, out, e, go⟩
    | _ => cases ety <;> (walk_at "st"; exact hn fun ⟨_, _, _, _, _, e, _⟩ => by cases e)
  · exact h.elim
theorem ok_p_left_by (T : Tx P K mg) : FnG P w K mg base 9 T.f_p_left_by T.d_p_left_by ["program", "never", "ranks"] (spD K sp_p_left_by) := by
  have G_p_look_at := ok_p_look_at (P := P) (w := w) (base := base) T
  have G_p_rows_that_go := ok_p_rows_that_go (P := P) (w := w) (base := base) T
  have G_p_left_behind := ok_p_left_behind (P := P) (w := w) (base := base) T
  exact fnG_of (k := 8) (t := t_p_left_by) T.F_p_left_by sc_p_left_by len_p_left_by
    (fun cdv A outer s H hr => pds_cons (pds_expr (pd_call G_p_look_at (hr.mono (by decide)) rfl T.g_p_look_at T.F_p_look_at.kp T.b_p_look_at_1 (pda_cons (pd_var 0) (pda_nil)))) (pds_cons (pds_set (i := 3) sc_p_left_by.nd rfl (.inl rfl) (pd_call G_p_rows_that_go (hr.mono (by decide)) rfl T.g_p_rows_that_go T.F_p_rows_that_go.kp T.b_p_rows_that_go_2 (pda_cons (pd_var 0) (pda_cons (pd_var 1) (pda_nil))))) (pds_cons (pds_if (pdt_w (pdw_or (pdt_cmp op_isD opd_is (pd_var 3) (pd_non)) (pdw_or1 (pdt_not (pdt_val (pd_isi .list (by decide) rfl T.n_isinstance rfl T.n_list (by decide +kernel) (by decide) (by decide) (pd_var 2))))))) (pds_one (pds_ret (pd_non))) (pds_nil)) (pds_cons (pds_for (vs := [4]) rfl (pdi_list (pd_var 2)) (pg_name (i := 4) sc_p_left_by.nd rfl (.inl rfl)) (tg_name (i := 4) (by decide)) (pds_cons (pds_set (i := 3) sc_p_left_by.nd rfl (.inl rfl) (pd_call G_p_left_behind (hr.mono (by decide)) rfl T.g_p_left_behind T.F_p_left_behind.kp T.b_p_left_behind_3 (pda_cons (pd_var 0) (pda_cons (pd_var 3) (pda_cons (pd_var 4) (pda_nil)))))) (pds_one (pds_if (pdt_cmp op_isD opd_is (pd_var 3) (pd_non)) (pds_one (pds_ret (pd_non))) (pds_nil))))) (pds_one (pds_ret (pd_var 3)))))))
    sem_p_left_by
def sp_p_lets_ranks : FS := fun ds ms P => match ds with
  | [d, y, x] => ∃ (g : Pg) (N : Nat), d = pgD g ∧ PgOk N g ∧ N ≤ 500 ∧ AnyX N y ∧ AnyX N x ∧ Few N N g ∧ P (.bl (tf (Leaves g y x []))) ms
  | _ => False
theorem len_p_lets_ranks : ∀ ds ms Q, sp_p_lets_ranks ds ms Q → ds.length = 3 := fun ds ms Q h => by
  unfold sp_p_lets_ranks at h
  split at h <;> first | rfl | exact h.elim
def t_p_lets_ranks : DTS := dRet (dOp fEq (dCall 3 0 [0, 1, 2] sp_p_left_by (aCons (dVar 0) (aCons (dVar 1) (aCons (dVar 2) (aNil)))) (aNil)) (dLst (aNil)))
theorem Goes.one {g : Pg} : ∀ {ks : List Rk} {left o1 o2 : List Nat}, Goes g left ks o1 → Goes g left ks o2 → o1 = o2
  | [], _, _, _, .nil _, .nil _ => rfl
  | _ :: _, _, _, _, .cons _ h1, .cons _ h2 => Goes.one h1 h2
theorem Leaves.one {g : Pg} {y x : D} {o1 o2 : List Nat} (h1 : Leaves g y x o1) (h2 : Leaves g y x o2) : o1 = o2 := by
  obtain ⟨n1, k1, e1, _, f1, g1⟩ := h1
  obtain ⟨n2, k2, e2, _, f2, g2⟩ := h2
  rw [e1] at e2
  rw [f1] at f2
  injection e2 with e2
  injection f2 with f2
  rw [← maps_inj (fun _ _ => nv_inj) e2, ← maps_inj (fun _ _ => rk_inj) f2] at g2
  exact g1.one g2
theorem sem_p_lets_ranks : ∀ ds ms Q, sp_p_lets_ranks ds ms Q → t_p_lets_ranks { nx := fun _ m => Q .non m, rt := Q } (startD 3 ds) ms := by
  intro ds ms Q h
  unfold sp_p_lets_ranks at h
  split at h
  · rename_i d y x
    obtain ⟨g, N, rfl, ok, hN, ay, an, few, h⟩ := h
    simp only [startD]
    unfold t_p_lets_ranks
    walk_at "st"
    refine ⟨g, N, rfl, ok, hN, ay, an, few, fun out lv => ?_, fun n => ?_⟩
    · unfold natsD
      walk_at "st"
      refine tf_e h ?_
      constructor
      · intro z
        have : out = [] := by cases out with | nil => rfl | cons _ _ => cases z
        subst this
        exact lv
      · intro lv'
        rw [lv.one lv']; rfl
    · walk_at "st"
      refine (show ShD D.non ∧ ShD (.lst []) ∧ _ from ⟨⟨_, rfl, rfl⟩, ⟨_, rfl, rfl⟩, ?_⟩)
      rw [show eqD .non (.lst []) = false from rfl]
      walk_at "st"
      exact tf_f h fun lv => n ⟨_, lv⟩
  · exact h.elim
theorem ok_p_lets_ranks (T : Tx P K mg) : FnG P w K mg base 10 T.f_p_lets_ranks T.d_p_lets_ranks ["program", "never", "ranks"] (spD K sp_p_lets_ranks) := by
  have G_p_left_by := ok_p_left_by (P := P) (w := w) (base := base) T
  exact fnG_of (k := 9) (t := t_p_lets_ranks) T.F_p_lets_ranks sc_p_lets_ranks len_p_lets_ranks
    (fun cdv A outer s H hr => pds_one (pds_ret (pd_cmp (op_eqF hr.r.units) opd_eq (pd_call G_p_left_by (hr.mono (by decide)) rfl T.g_p_left_by T.F_p_left_by.kp T.b_p_left_by_3 (pda_cons (pd_var 0) (pda_cons (pd_var 1) (pda_cons (pd_var 2) (pda_nil))))) (pd_lst (pda_nil)))))
    sem_p_lets_ranks
def PO (a b : Int) : Prop := 0 ≤ a ∧ 0 ≤ b ∧ b < 2147483647
def PoolAt (ms : MS) (p : Addr) : Prop := ∃ a b, PO a b ∧ look ms p = some [.int a, .int b]
def pu (ms : MS) (p : Addr) (a b : Int) : MS := put ms p [.int a, .int b]
theorem put_put : ∀ (ms : MS) (p : Addr) (x y : List D), put (put ms p x) p y = put ms p y
  | [], _, _, _ => rfl
  | (q, zs) :: r, p, x, y => by
    by_cases h : q = p
    · simp only [put, h, if_true]
    · simp only [put, h, if_false, put_put r p x y]
theorem pu_pu (ms : MS) (p : Addr) (a b c d : Int) : pu (pu ms p a b) p c d = pu ms p c d := put_put ms p _ _
theorem PoolAt.pu {ms : MS} {p : Addr} (h : PoolAt ms p) {a b : Int} (o : PO a b) : PoolAt (pu ms p a b) p := by
  obtain ⟨x, y, _, e⟩ := h
  exact ⟨a, b, o, look_put_same e⟩
/-- the pool has been drawn from, all else is as it was -/
def Chg (ms : MS) (p : Addr) (ms' : MS) : Prop := ∃ a b, PO a b ∧ ms' = pu ms p a b
theorem put_self : ∀ {ms : MS} {p : Addr} {xs : List D}, look ms p = some xs → put ms p xs = ms
  | [], _, _, h => by cases h
  | (q, zs) :: r, p, xs, h => by
    unfold look at h
    by_cases e : q = p
    · rw [if_pos e] at h
      cases h
      simp only [put, e, if_true]
    · rw [if_neg e] at h
      simp only [put, e, if_false, put_self h]
theorem PoolAt.refl {ms : MS} {p : Addr} (h : PoolAt ms p) : Chg ms p ms := by
  obtain ⟨a, b, o, e⟩ := h
  exact ⟨a, b, o, (put_self e).symm⟩
theorem Chg.trans {ms m1 m2 : MS} {p : Addr} (h : Chg ms p m1) (h2 : Chg m1 p m2) : Chg ms p m2 := by
  obtain ⟨a, b, o, rfl⟩ := h
  obtain ⟨c, d, o2, rfl⟩ := h2
  exact ⟨c, d, o2, pu_pu ms p a b c d⟩
theorem PoolAt.chg {ms m1 : MS} {p : Addr} (h : PoolAt ms p) (c : Chg ms p m1) : PoolAt m1 p := by
  obtain ⟨a, b, o, rfl⟩ := c
  exact h.pu o
theorem PoolAt.new {ms : MS} {p : Addr} {a b : Int} (o : PO a b) : PoolAt ((p, [.int a, .int b]) :: ms) p := ⟨a, b, o, by unfold look; rw [if_pos rfl]⟩
def sp_L_pool : FS := fun ds ms P => match ds with
  | [.fro xs, .int k] => ∃ ns : List Int, xs = ns.map D.int ∧ 0 ≤ k ∧ k < 100 ∧ ∀ p, (∀ q ∈ ms, q.1 ≠ p) → ∀ a b, PO a b → P (.opq (.ref p)) ((p, [.int a, .int b]) :: ms)
  | _ => False
theorem len_L_pool : ∀ ds ms Q, sp_L_pool ds ms Q → ds.length = 2 := fun ds ms Q h => by
  unfold sp_L_pool at h
  split at h <;> first | rfl | exact h.elim
def t_L_pool : DTS := dSeq (dAsg (dC (.int 0)) (sName 2)) (dSeq (dIfS (dTest (dOp fLt (dVar 1) (dCB cLen (aCons (dVar 0) (aNil))))) (dAsg (dOp fIx (dVar 0) (dVar 1)) (sName 2)) (dNext)) (dSeq (dAsg (dOp fMod (dOp fPow (dOp fAdd (dOp fAdd (dOp fMod (dVar 2) (dC (.int 2147483629))) (dOp fMul (dOp fMul (dC (.int 104729)) (dVar 1)) (dVar 1))) (dC (.int 17))) (dC (.int 3))) (dC (.int 2147483647))) (sName 3)) (dSeq (dIfS (dTest (dOp fLt (dVar 2) (dOp fPow (dC (.int 10)) (dC (.int 18))))) (dAsg (dC (.int 0)) (sName 2)) (dNext)) (dRet (dLstM (aCons (dVar 2) (aCons (dVar 3) (aNil))))))))
theorem w_powN {i j : Int} {ms : MS} {P : D → MS → Prop} (e : CPow i j) (h : P (.int (i ^ j.toNat)) ms) : fPow (.int i) (.int j) ms P := ⟨e, h⟩
theorem seed_bd {c k : Int} (k0 : 0 ≤ k) (k1 : k < 100) : 0 ≤ c.fmod 2147483629 + 104729 * k * k + 17 ∧ c.fmod 2147483629 + 104729 * k * k + 17 < 2 ^ 33 := by
  have h1 := Int.fmod_nonneg_of_pos c (show (0 : Int) < 2147483629 by decide)
  have h2 := Int.fmod_lt_of_pos c (show (0 : Int) < 2147483629 by decide)
  have h3 : 0 ≤ 104729 * k * k := Int.mul_nonneg (by omega) k0
  have h4 : 104729 * k * k ≤ 104729 * 100 * 100 := Int.mul_le_mul (by omega) (by omega) k0 (by decide)
  omega
theorem pool_end {c k : Int} {x0 x3 : Option D} {ms : MS} {Q : D → MS → Prop} (k0 : 0 ≤ k) (k1 : k < 100) (h : ∀ p, (∀ q ∈ ms, q.1 ≠ p) → ∀ a b, PO a b → Q (.opq (.ref p)) ((p, [.int a, .int b]) :: ms)) (hx : x3 = none) :
    StG (dSeq (dAsg (dOp fMod (dOp fPow (dOp fAdd (dOp fAdd (dOp fMod (dVar 2) (dC (.int 2147483629))) (dOp fMul (dOp fMul (dC (.int 104729)) (dVar 1)) (dVar 1))) (dC (.int 17))) (dC (.int 3))) (dC (.int 2147483647))) (sName 3))
      (dSeq (dIfS (dTest (dOp fLt (dVar 2) (dOp fPow (dC (.int 10)) (dC (.int 18))))) (dAsg (dC (.int 0)) (sName 2)) dNext) (dRet (dLstM (aCons (dVar 2) (aCons (dVar 3) aNil)))))) { nx := fun _ m => Q .non m, rt := Q } [x0, some (.int k), some (.int c), x3] ms := by
  subst hx
  obtain ⟨b0, b1⟩ := seed_bd (c := c) k0 k1
  walk_at "st"
  refine ⟨by decide, ?_⟩
  walk_at "st"
  refine ⟨.inr (.inr ⟨by omega, by omega⟩), ?_⟩
  walk_at "st"
  refine ⟨.inr (.inr ⟨by omega, by omega⟩), ?_⟩
  walk_at "st"
  refine w_powN ⟨by decide, by decide, by omega⟩ ?_
  walk_at "st"
  refine ⟨by decide, ?_⟩
  generalize (c.fmod 2147483629 + 104729 * k * k + 17) ^ Int.toNat 3 = z
  have f0 := Int.fmod_nonneg_of_pos z (show (0 : Int) < 2147483647 by decide)
  have f1 := Int.fmod_lt_of_pos z (show (0 : Int) < 2147483647 by decide)
  walk_at "st"
  by_cases hc : c < 1000000000000000000
  · refine w_iteT (decide_eq_true hc) ?_
    walk_at "st"
    exact fun p hp => h p hp _ _ ⟨by decide, f0, f1⟩
  · refine w_iteF (decide_eq_false hc) ?_
    walk_at "st"
    exact fun p hp => h p hp _ _ ⟨by omega, f0, f1⟩
theorem sem_L_pool : ∀ ds ms Q, sp_L_pool ds ms Q → t_L_pool { nx := fun _ m => Q .non m, rt := Q } (startD 4 ds) ms := by
  intro ds ms Q h
  unfold sp_L_pool at h
  split at h
  · rename_i xs k
    obtain ⟨ns, rfl, k0, k1, h⟩ := h
    simp only [startD]
    unfold t_L_pool
    walk_at "st"
    by_cases hk : k < ((ns.map D.int).length : Int)
    · refine w_iteT (decide_eq_true hk) ?_
      have hl : k.toNat < ns.length := by rw [List.length_map] at hk; omega
      obtain ⟨c, ha⟩ : ∃ c : Int, atI (ns.map D.int) k = some (.int c) := by
        obtain ⟨j, rfl⟩ : ∃ j : Nat, k = (j : Int) := ⟨k.toNat, by omega⟩
        have hj : j < ns.length := by omega
        exact ⟨ns[j], atI_nat (by rw [List.getElem?_map, List.getElem?_eq_getElem hj]; rfl)⟩
      walk_at "st"
      refine w_ix_f ha ?_
      walk_at "s1"
      walk_at "s1"
      walk_at "s1"
      exact pool_end k0 k1 h rfl
    · refine w_iteF (decide_eq_false hk) ?_
      walk_at "s1"
      walk_at "s1"
      exact pool_end k0 k1 h rfl
  · exact h.elim
theorem ok_L_pool (T : Tx P K mg) : FnG P w K mg base 1 T.f_L_pool T.d_L_pool ["_law_script", "_law_k"] (spD K sp_L_pool) := by
  exact fnG_of (k := 0) (t := t_L_pool) T.F_L_pool sc_L_pool len_L_pool
    (fun cdv A outer s H hr => pds_cons (pds_set (i := 2) sc_L_pool.nd rfl (.inl rfl) (pd_int)) (pds_cons (pds_if (pdt_cmp op_lt opd_lt (pd_var 1) (pd_callB call_len cal_len rfl T.n_len (by decide +kernel) (pda_cons (pd_var 0) (pda_nil)))) (pds_one (pds_set (i := 2) sc_L_pool.nd rfl (.inl rfl) (pd_ix ix_seq opd_ix (pd_var 0) (pd_var 1)))) (pds_nil)) (pds_cons (pds_set (i := 3) sc_L_pool.nd rfl (.inl rfl) (pd_op op_modN opd_mod (pd_op op_pow opd_pow (pd_op op_addD opd_add (pd_op op_addD opd_add (pd_op op_modN opd_mod (pd_var 2) (pd_int)) (pd_op op_mulA opd_mul (pd_op op_mulA opd_mul (pd_int) (pd_var 1)) (pd_var 1))) (pd_int)) (pd_int)) (pd_int))) (pds_cons (pds_if (pdt_cmp op_lt opd_lt (pd_var 2) (pd_op op_pow opd_pow (pd_int) (pd_int))) (pds_one (pds_set (i := 2) sc_L_pool.nd rfl (.inl rfl) (pd_int))) (pds_nil)) (pds_one (pds_ret (pd_lstM (pda_cons (pd_var 2) (pda_cons (pd_var 3) (pda_nil))))))))))
    sem_L_pool
def sp_L_take : FS := fun ds ms P => match ds with
  | [.opq (.ref p), .int m] => PoolAt ms p ∧ 0 < m ∧ m ≤ 1000000000 ∧ ∀ r, 0 ≤ r → r < m → ∀ ms', Chg ms p ms' → P (.int r) ms'
  | _ => False
theorem len_L_take : ∀ ds ms Q, sp_L_take ds ms Q → ds.length = 2 := fun ds ms Q h => by
  unfold sp_L_take at h
  split at h <;> first | rfl | exact h.elim
def t_L_take : DTS := dSeq (dIfS (dTest (dOp fGt (dOp fIx (dVar 0) (dC (.int 0))) (dC (.int 0)))) (dSeq (dAsg (dOp fMod (dOp fIx (dVar 0) (dC (.int 0))) (dVar 1)) (sName 2)) (dSeq (dSetIx (dVar 0) (dC (.int 0)) (dOp fDiv (dOp fIx (dVar 0) (dC (.int 0))) (dVar 1))) (dRet (dVar 2)))) (dNext)) (dSeq (dSetIx (dVar 0) (dC (.int 1)) (dOp fMod (dOp fAdd (dOp fMul (dOp fIx (dVar 0) (dC (.int 1))) (dC (.int 48271))) (dC (.int 11))) (dC (.int 2147483647)))) (dRet (dOp fMod (dOp fDiv (dOp fMod (dOp fMul (dOp fIx (dVar 0) (dC (.int 1))) (dOp fIx (dVar 0) (dC (.int 1)))) (dC (.int 2147483629))) (dC (.int 64))) (dVar 1))))
theorem sem_L_take : ∀ ds ms Q, sp_L_take ds ms Q → t_L_take { nx := fun _ m => Q .non m, rt := Q } (startD 3 ds) ms := by
  intro ds ms Q h
  unfold sp_L_take at h
  split at h
  · rename_i p m
    obtain ⟨⟨a, b, ⟨a0, b0, b1⟩, e⟩, m0, m1, h⟩ := h
    unfold t_L_take
    walk_at "dl"
    simp only [fIx, asL, e, atI_0, atI_1]
    have hm : CDivA a m := ⟨by omega, Nat.lt_of_lt_of_le (Bd.log (n := 30) (x := m) (by unfold Bd; omega) (by decide)) (by decide)⟩
    have i0 : ixN ([D.int a, D.int b].length) 0 = some 0 := rfl
    have i1 : ixN ([D.int a, D.int b].length) 1 = some 1 := rfl
    have s0 : ∀ x : D, [D.int a, D.int b].set 0 x = [x, D.int b] := fun _ => rfl
    have s1 : ∀ x : D, [D.int a, D.int b].set 1 x = [D.int a, x] := fun _ => rfl
    by_cases ha : 0 < a
    · rw [if_pos ha]
      simp only [i0, s0]
      refine ⟨by omega, hm, h _ (Int.fmod_nonneg_of_pos _ m0) (Int.fmod_lt_of_pos _ m0) _ ⟨_, _, ⟨?_, b0, b1⟩, rfl⟩⟩
      rw [Int.fdiv_eq_ediv_of_nonneg _ (by omega)]
      exact Int.ediv_nonneg a0 (by omega)
    · rw [if_neg ha]
      simp only [i1, s1, look_put_same e, atI_1]
      have f0 := Int.fmod_nonneg_of_pos (b * 48271 + 11) (show (0 : Int) < 2147483647 by decide)
      have f1 := Int.fmod_lt_of_pos (b * 48271 + 11) (show (0 : Int) < 2147483647 by decide)
      refine ⟨.inr (.inr ⟨by decide, by decide⟩), by decide, .inr (.inl ⟨by omega, by omega⟩), by decide, ⟨by decide, by decide⟩, by omega, h _ (Int.fmod_nonneg_of_pos _ m0) (Int.fmod_lt_of_pos _ m0) _ ⟨_, _, ⟨a0, f0, f1⟩, rfl⟩⟩
  · exact h.elim
theorem ok_L_take (T : Tx P K mg) : FnG P w K mg base 1 T.f_L_take T.d_L_take ["_law_pool_here", "_law_many"] (spD K sp_L_take) := by
  exact fnG_of (k := 0) (t := t_L_take) T.F_L_take sc_L_take len_L_take
    (fun cdv A outer s H hr => pds_cons (pds_if (pdt_cmp op_gt opd_gt (pd_ix ix_seq opd_ix (pd_var 0) (pd_int)) (pd_int)) (pds_cons (pds_set (i := 2) sc_L_take.nd rfl (.inl rfl) (pd_op op_modN opd_mod (pd_ix ix_seq opd_ix (pd_var 0) (pd_int)) (pd_var 1))) (pds_cons (pds_setIx (pd_op op_fdivA opd_div (pd_ix ix_seq opd_ix (pd_var 0) (pd_int)) (pd_var 1)) (pd_var 0) (pd_int)) (pds_one (pds_ret (pd_var 2))))) (pds_nil)) (pds_cons (pds_setIx (pd_op op_modN opd_mod (pd_op op_addD opd_add (pd_op op_mulA opd_mul (pd_ix ix_seq opd_ix (pd_var 0) (pd_int)) (pd_int)) (pd_int)) (pd_int)) (pd_var 0) (pd_int)) (pds_one (pds_ret (pd_op op_modN opd_mod (pd_op op_fdivA opd_div (pd_op op_modN opd_mod (pd_op op_mulA opd_mul (pd_ix ix_seq opd_ix (pd_var 0) (pd_int)) (pd_ix ix_seq opd_ix (pd_var 0) (pd_int))) (pd_int)) (pd_int)) (pd_var 1))))))
    sem_L_take
theorem PoolAt.mem {ms : MS} {p : Addr} (h : PoolAt ms p) : ∃ e ∈ ms, e.1 = p := by
  obtain ⟨a, b, _, e⟩ := h
  exact ⟨_, look_mem e, rfl⟩
theorem chg_look {ms ms' : MS} {p q : Addr} {xs : List D} (c : Chg ms p ms') (h : look ms q = some xs) (hpq : p ≠ q) : look ms' q = some xs := by
  obtain ⟨a, b, _, rfl⟩ := c
  unfold pu
  rw [look_put_ne hpq]
  exact h
/-- the pool at p, and a list that is being made at q -/
structure PL (ms : MS) (p q : Addr) (xs : List D) : Prop where
  po : PoolAt ms p
  lk : look ms q = some xs
  ne : p ≠ q
theorem PL.new {ms : MS} {p q : Addr} {xs : List D} (h : PoolAt ms p) (hq : ∀ e ∈ ms, e.1 ≠ q) : PL ((q, xs) :: ms) p q xs := by
  obtain ⟨e, he, z⟩ := h.mem
  have hne : p ≠ q := z ▸ hq e he
  obtain ⟨a, b, o, l⟩ := h
  exact ⟨⟨a, b, o, by unfold look; rw [if_neg hne.symm]; exact l⟩, look_new, hne⟩
theorem PL.chg {ms ms' : MS} {p q : Addr} {xs : List D} (h : PL ms p q xs) (c : Chg ms p ms') : PL ms' p q xs := ⟨h.po.chg c, chg_look c h.lk h.ne, h.ne⟩
/-- how many cells are gone through -/
theorem cells_le (N : Int) (h : 1 ≤ N) (y : Nat) : 0 ≤ (if (if N < (y : Int) then N else (y : Int)) > 1 then if N < (y : Int) then N else (y : Int) else 1) ∧ (if (if N < (y : Int) then N else (y : Int)) > 1 then if N < (y : Int) then N else (y : Int) else 1) ≤ N := by
  split
  · split <;> omega
  · omega
theorem take_step {ms : MS} {p : Addr} {m : Int} {P : D → MS → Prop} (h : PoolAt ms p) (m0 : 0 < m) (m1 : m ≤ 1000000000) (q : ∀ r, 0 ≤ r → r < m → ∀ ms', PoolAt ms' p → Chg ms p ms' → P (.int r) ms') : sp_L_take [.opq (.ref p), .int m] ms P :=
  ⟨h, m0, m1, fun r h0 h1 ms' c => q r h0 h1 ms' (h.chg c) c⟩
theorem comp_pool {g : DG} {te : DE} {ds : DS} {p : Addr} {Good : D → Prop} : ∀ (xs acc : List D) (ms : MS) (P : List D → MS → Prop), PoolAt ms p → acc.length + xs.length ≤ 1000000 →
    (∀ x ∈ xs, ∀ m, PoolAt m p → ∀ P0 : D → MS → Prop, (∀ d m', Good d → PoolAt m' p → Chg m p m' → P0 d m') → g x ds fun ds2 => te ds2 m P0) →
    (∀ ys m', ys.length = xs.length → (∀ y ∈ ys, Good y) → PoolAt m' p → Chg ms p m' → P (acc ++ ys) m') → compD g dYes te ds xs acc ms P
  | [], acc, ms, P, hp, _, _, h => by
    have := h [] ms rfl (fun y hy => by cases hy) hp hp.refl
    rw [List.append_nil] at this
    exact this
  | x :: r, acc, ms, P, hp, hl, t, h => by
    rw [List.length_cons] at hl
    unfold compD
    simp only [dYes, if_true]
    refine t x List.mem_cons_self ms hp _ fun d m' gd hp' c => ⟨Nat.lt_of_lt_of_le (by omega : acc.length < 1000001) (by decide), comp_pool r _ m' P hp' (by rw [List.length_append, List.length_singleton]; omega) (fun y hy => t y (List.mem_cons_of_mem _ hy)) fun ys m2 l2 g2 p2 c2 => ?_⟩
    rw [List.append_assoc]
    exact h (d :: ys) m2 (by rw [List.length_cons, List.length_cons, l2]) (fun y hy => by
      rcases List.mem_cons.mp hy with rfl | hy
      · exact gd
      · exact g2 y hy) p2 (c.trans c2)
theorem PoolAt.cons {m : MS} {p q : Addr} {xs : List D} (h : PoolAt m p) (hne : p ≠ q) : PoolAt ((q, xs) :: m) p := by
  obtain ⟨a, b, o, l⟩ := h
  exact ⟨a, b, o, by unfold look; rw [if_neg hne.symm]; exact l⟩
theorem PoolAt.tail {m : MS} {p q : Addr} {xs : List D} (h : PoolAt ((q, xs) :: m) p) (hne : p ≠ q) : PoolAt m p := by
  obtain ⟨a, b, o, l⟩ := h
  unfold look at l
  rw [if_neg hne.symm] at l
  exact ⟨a, b, o, l⟩
theorem chg_cons {m m1 : MS} {p q : Addr} {xs : List D} (hne : p ≠ q) (c : Chg ((q, xs) :: m) p m1) : ∃ m', m1 = (q, xs) :: m' ∧ Chg m p m' := by
  obtain ⟨a, b, o, rfl⟩ := c
  refine ⟨pu m p a b, ?_, a, b, o, rfl⟩
  unfold pu
  conv => lhs; unfold put
  rw [if_neg hne.symm]
theorem take_stepC {m : MS} {p q : Addr} {xs : List D} {n : Int} {P : D → MS → Prop} (hne : p ≠ q) (h : PoolAt m p) (m0 : 0 < n) (m1 : n ≤ 1000000000) (k : ∀ r, 0 ≤ r → r < n → ∀ m', PoolAt m' p → Chg m p m' → P (.int r) ((q, xs) :: m')) : sp_L_take [.opq (.ref p), .int n] ((q, xs) :: m) P :=
  take_step (h.cons hne) m0 m1 fun r h0 h1 m2 p2 c2 => by
    obtain ⟨m', rfl, c'⟩ := chg_cons hne c2
    exact k r h0 h1 m' (p2.tail hne) c'
theorem PoolAt.ne {m : MS} {p q : Addr} (h : PoolAt m p) (hq : ∀ e ∈ m, e.1 ≠ q) : p ≠ q := by
  obtain ⟨e, he, z⟩ := h.mem
  exact z ▸ hq e he
/-- a loop whose turns are counted -/
theorem loop_n {g : DG} {tb : DTS} {E : EN} (I : Nat → DS → MS → Prop) (K : Nat) : ∀ (xs : List D) (k : Nat) (ds : DS) (ms : MS), k + xs.length ≤ K → I k ds ms →
    (∀ x ∈ xs, ∀ k ds ms, k < K → I k ds ms → ∀ N : DS → MS → Prop, (∀ ds' ms', I (k + 1) ds' ms' → N ds' ms') → g x ds fun ds1 => tb (EN.lp E N) ds1 ms) →
    (∀ ds ms, I (k + xs.length) ds ms → E.nx ds ms) → loopD g tb E xs ds ms
  | [], k, ds, ms, _, h, _, q => q ds ms h
  | x :: r, k, ds, ms, hK, h, t, q => t x List.mem_cons_self k ds ms (by rw [List.length_cons] at hK; omega) h _ fun ds' ms' h' => loop_n I K r (k + 1) ds' ms' (by rw [List.length_cons] at hK; omega) h' (fun y hy => t y (List.mem_cons_of_mem _ hy)) fun ds2 ms2 h2 => q ds2 ms2 (by rw [List.length_cons]; rwa [Nat.add_right_comm, Nat.add_assoc] at h2)
theorem set_ints {B : Nat} {is : List Int} {v : Int} (j : Nat) (h : ∀ i ∈ is, Bd B i) (hv : Bd B v) : ∀ i ∈ is.set j v, Bd B i := fun i hi => by
  rcases List.mem_or_eq_of_mem_set hi with z | z
  · exact h i z
  · exact z ▸ hv
theorem map_set_int (is : List Int) (j : Nat) (v : Int) : (is.map D.int).set j (.int v) = (is.set j v).map D.int := by rw [List.map_set]
theorem ixN_ok {n : Nat} {i : Int} (h0 : 0 ≤ i) (h1 : i < (n : Int)) : ixN n i = some i.toNat := by
  unfold ixN
  rw [if_pos h0, if_pos h1]
theorem atI_ints {is : List Int} {i : Int} (h0 : 0 ≤ i) (h1 : i < (is.length : Int)) : ∃ v, atI (is.map D.int) i = some (.int v) ∧ v ∈ is := by
  obtain ⟨j, rfl⟩ : ∃ j : Nat, i = (j : Int) := ⟨i.toNat, by omega⟩
  have hj : j < is.length := by omega
  exact ⟨is[j], atI_nat (by rw [List.getElem?_map, List.getElem?_eq_getElem hj]; rfl), List.getElem_mem hj⟩
theorem word_of3 {a b c : D} {d : D} (h : d ∈ [a, b, c]) (ha : ∃ j, a = wdD j) (hb : ∃ j, b = wdD j) (hc : ∃ j, c = wdD j) : ∃ j, d = wdD j := by
  simp only [List.mem_cons, List.not_mem_nil, or_false] at h
  rcases h with rfl | rfl | rfl
  · exact ha
  · exact hb
  · exact hc
theorem look_2 {p q : Addr} {xs ys : List D} {m : MS} (h : p ≠ q) : look ((q, xs) :: (p, ys) :: m) p = some ys := by
  unfold look
  rw [if_neg (fun z => h z.symm)]
  exact look_new
theorem wd_l : ∃ j, D.str "least" = wdD j := ⟨false, rfl⟩
theorem wd_j : ∃ j, D.str "just" = wdD j := ⟨true, rfl⟩
theorem line_cons {B : Nat} {is : List Int} {n : Nat} (hl : is.length = n + 1) (hb : ∀ i ∈ is, Bd B i) (j : Bool) : ∃ w : Wi, D.tup [wdD j, .lst (is.map D.int)] = wiD w ∧ WiOk B n w := by
  cases is with
  | nil => cases hl
  | cons l fs => exact ⟨⟨j, l, fs⟩, rfl, hb, by rw [List.length_cons] at hl; exact Nat.succ.inj hl⟩
theorem nm_xyz {n : Nat} (h1 : 1 ≤ n) (h3 : n ≤ 3) : NmOk 3 ((["x", "y", "z"] : List Str).take n) := by
  have : n = 1 ∨ n = 2 ∨ n = 3 := by omega
  rcases this with rfl | rfl | rfl <;> exact ⟨by decide, by decide, by decide +kernel, by decide +kernel⟩
theorem nm_abc {n : Nat} (h1 : 1 ≤ n) (h3 : n ≤ 6) : NmOk 6 ((["a", "b", "c", "d", "e", "f"] : List Str).take n) := by
  have : n = 1 ∨ n = 2 ∨ n = 3 ∨ n = 4 ∨ n = 5 ∨ n = 6 := by omega
  rcases this with rfl | rfl | rfl | rfl | rfl | rfl <;> exact ⟨by decide, by decide, by decide +kernel, by decide +kernel⟩
theorem maps_of {α : Type} {f : α → D} {ok : α → Prop} : ∀ ys : List D, (∀ y ∈ ys, ∃ a, y = f a ∧ ok a) → ∃ as : List α, ys = as.map f ∧ ∀ a ∈ as, ok a
  | [], _ => ⟨[], rfl, fun _ h => by cases h⟩
  | y :: r, h => by
    obtain ⟨a, rfl, ha⟩ := h y List.mem_cons_self
    obtain ⟨as, e, ho⟩ := maps_of r fun z hz => h z (List.mem_cons_of_mem _ hz)
    refine ⟨a :: as, by rw [e]; rfl, fun z hz => ?_⟩
    rcases List.mem_cons.mp hz with hz | hz
    · exact hz ▸ ha
    · exact ho z hz
/-- a loop over range(n), by its number -/
theorem loop_r {g : DG} {tb : DTS} {E : EN} (I : Nat → DS → MS → Prop) (n : Nat) : ∀ (m k : Nat), k + m = n → ∀ (ds : DS) (ms : MS), I k ds ms →
    (∀ k ds ms, k < n → I k ds ms → ∀ N : DS → MS → Prop, (∀ ds' ms', I (k + 1) ds' ms' → N ds' ms') → g (.int (0 + (k : Nat))) ds fun ds1 => tb (EN.lp E N) ds1 ms) →
    (∀ ds ms, I n ds ms → E.nx ds ms) → loopD g tb E ((List.range' k m).map fun i => D.int (0 + (i : Nat))) ds ms
  | 0, k, hk, ds, ms, h, _, q => q ds ms (by rw [← hk]; exact h)
  | m + 1, k, hk, ds, ms, h, t, q => t k ds ms (by omega) h _ fun ds' ms' h' => loop_r I n m (k + 1) (by omega) ds' ms' h' t q
theorem loop_rng {g : DG} {tb : DTS} {E : EN} (I : Nat → DS → MS → Prop) (n : Nat) {ds : DS} {ms : MS} (h : I 0 ds ms)
    (t : ∀ k ds ms, k < n → I k ds ms → ∀ N : DS → MS → Prop, (∀ ds' ms', I (k + 1) ds' ms' → N ds' ms') → g (.int (0 + (k : Nat))) ds fun ds1 => tb (EN.lp E N) ds1 ms)
    (q : ∀ ds ms, I n ds ms → E.nx ds ms) : loopD g tb E (rng 0 n) ds ms := by
  unfold rng
  rw [List.range_eq_range']
  exact loop_r I n n 0 (Nat.zero_add n) ds ms h t q
def sp_L_line : FS := fun ds ms P => match ds with
  | [.opq (.ref p), .int m, .int far] => PoolAt ms p ∧ 0 ≤ m ∧ m ≤ 8 ∧ 0 ≤ far ∧ far ≤ 15 ∧ ∀ is : List Int, (is.length : Int) = m + 1 → (∀ i ∈ is, Bd 4 i) → ∀ ms', PoolAt ms' p → Chg ms p ms' → P (.lst (is.map D.int)) ms'
  | _ => False
theorem len_L_line : ∀ ds ms Q, sp_L_line ds ms Q → ds.length = 3 := fun ds ms Q h => by
  unfold sp_L_line at h
  split at h <;> first | rfl | exact h.elim
def t_L_line : DTS := dRet (dLc (iRange1 (aCons (dOp fAdd (dVar 1) (dC (.int 1))) (aNil))) (sName 3) (dYes) (dOp fSub (dCall 2 0 [0, 1] sp_L_take (aCons (dVar 0) (aCons (dOp fAdd (dOp fMul (dC (.int 2)) (dVar 2)) (dC (.int 1))) (aNil))) (aNil)) (dVar 2)) [3])
theorem sem_L_line : ∀ ds ms Q, sp_L_line ds ms Q → t_L_line { nx := fun _ m => Q .non m, rt := Q } (startD 4 ds) ms := by
  intro ds ms Q h
  unfold sp_L_line at h
  split at h
  · rename_i p m far
    obtain ⟨hp, m0, m8, f0, f15, h⟩ := h
    simp only [startD]
    unfold t_L_line
    walk_at "st"
    refine w_mRng ⟨by omega, by omega⟩ ?_
    simp only [wipeD, List.set]
    refine comp_pool (p := p) (Good := fun d => ∃ i, d = .int i ∧ Bd 4 i) _ [] ms _ hp ?_ ?_ ?_
    · rw [rng_len, List.length_nil]; omega
    · intro x hx m1 hm P0 q
      walk_at "st"
      refine ⟨.inr (.inr ⟨by omega, by omega⟩), ?_⟩
      walk_at "st"
      refine take_step hm (by omega) (by omega) fun r a1 b1 m2 p2 c2 => ?_
      walk_at "st"
      exact q _ _ ⟨_, rfl, by unfold Bd; omega⟩ p2 c2
    · intro ys m1 hl hg p1 c1
      rw [List.nil_append]
      rw [rng_len] at hl
      obtain ⟨is, rfl, hi, _⟩ := ints_of _ hg
      rw [List.length_map] at hl
      exact h is (by omega) hi m1 p1 c1
  · exact h.elim
theorem ok_L_line (T : Tx P K mg) : FnG P w K mg base 2 T.f_L_line T.d_L_line ["_law_pool_here", "_law_many", "_law_far"] (spD K sp_L_line) := by
  have G_L_take := ok_L_take (P := P) (w := w) (base := base) T
  exact fnG_of (k := 1) (t := t_L_line) T.F_L_line sc_L_line len_L_line
    (fun cdv A outer s H hr => pds_one (pds_ret (pd_lc (own := [("_law_k", 3)]) rfl sc_L_line.nd (pdi_range1 rfl T.n_range (pda_cons (pd_op op_addD opd_add (pd_var 1) (pd_int)) (pda_nil))) (blkOk_by (own := [("_law_k", 3)]) (by kernel_rfl)) (fun _ _ _ _ _ => pg_name (i := 3) sc_L_line.nd rfl (by first | exact .inl rfl | exact .inr rfl)) (tg_name (i := 3) (by decide)) (mon_name (i := 3)) (fun _ _ _ _ _ => pdts_nil) (fun _ _ _ _ _ => pd_op op_sub opd_sub (pd_call G_L_take (hr.mono (by decide)) rfl T.g_L_take T.F_L_take.kp T.b_L_take_2 (pda_cons (pd_var 0) (pda_cons (pd_op op_addD opd_add (pd_op op_mulA opd_mul (pd_int) (pd_var 2)) (pd_int)) (pda_nil)))) (pd_var 2)))))
    sem_L_line
def sp_L_fall : FS := fun ds ms P => match ds with
  | [.lst ys, d] => ∃ (r : Rw) (t : Tb) (B n : Nat) (a b : Int × List Int), d = rwD r ∧ ys = t.map lnT ∧ TbOk B n t ∧ n ≤ 8 ∧ 0 ≤ r.s ∧ r.s < t.length ∧ 0 ≤ r.t ∧ r.t < t.length ∧ t[r.s.toNat]? = some a ∧ t[r.t.toNat]? = some b ∧
      ∀ p, (∀ q ∈ ms, q.1 ≠ p) → P (.opq (.ref p)) ((p, (fallL a b).map D.int) :: ms)
  | _ => False
theorem len_L_fall : ∀ ds ms Q, sp_L_fall ds ms Q → ds.length = 2 := fun ds ms Q h => by
  unfold sp_L_fall at h
  split at h <;> first | rfl | exact h.elim
def t_L_fall : DTS := dSeq (dAsg (dVar 1) (sTup 3 (sCons (sName 2) (sCons (sName 3) (sCons (sName 4) (sNil)))))) (dSeq (dAsg (dOp fSub (dCB cLen (aCons (dOp fIx (dVar 0) (dC (.int 0))) (aNil))) (dC (.int 1))) (sName 5)) (dSeq (dAsg (dOp fAddM (dOp fIx (dVar 0) (dVar 2)) (dOp fMul (dLst (aCons (dC (.int 0)) (aNil))) (dVar 5))) (sName 6)) (dSeq (dSetIx (dVar 6) (dC (.int 0)) (dOp fSub (dOp fIx (dVar 6) (dC (.int 0))) (dOp fIx (dOp fIx (dVar 0) (dVar 3)) (dC (.int 0))))) (dSeq (dFor (iRange1 (aCons (dVar 5) (aNil))) (sName 7) (dSetIx (dVar 6) (dOp fAdd (dOp fAdd (dC (.int 1)) (dVar 5)) (dVar 7)) (dOp fSub (dC (.int 0)) (dOp fIx (dOp fIx (dVar 0) (dVar 3)) (dOp fAdd (dC (.int 1)) (dVar 7)))))) (dRet (dVar 6))))))
/-- the line that is being made -/
def fallG (a b : Int × List Int) (n k : Nat) : List Int := ((a.1 - b.1) :: a.2) ++ ((b.2.map fun x => 0 - x).take k ++ List.replicate (n - k) 0)
theorem fallG_end {a b : Int × List Int} {n : Nat} (hb : b.2.length = n) : fallG a b n n = fallL a b := by
  unfold fallG
  rw [fall_eq, Nat.sub_self, List.replicate_zero, List.append_nil, List.take_of_length_le (by rw [List.length_map, hb]; exact Nat.le_refl _)]
  rfl
theorem fallG_len {a b : Int × List Int} {n k : Nat} (ha : a.2.length = n) (hb : b.2.length = n) (hk : k ≤ n) : (fallG a b n k).length = 2 * n + 1 := by
  unfold fallG
  rw [List.length_append, List.length_append, List.length_take, List.length_map, List.length_replicate, List.length_cons]
  omega
theorem fallG_step {a b : Int × List Int} {n k : Nat} {v : Int} (ha : a.2.length = n) (hb : b.2.length = n) (hk : k < n) (hv : b.2[k]? = some v) : (fallG a b n k).set (1 + n + k) (0 - v) = fallG a b n (k + 1) := by
  unfold fallG
  rw [List.set_append_right _ _ (by rw [List.length_cons, ha]; omega), List.length_cons, ha]
  congr 1
  have hk' : k < (b.2.map fun x => 0 - x).length := by rw [List.length_map, hb]; exact hk
  have hl : ((b.2.map fun x => 0 - x).take k).length = k := by rw [List.length_take]; omega
  rw [List.set_append_right _ _ (by rw [hl]; omega), hl, show 1 + n + k - (n + 1) - k = 0 by omega, show n - k = (n - (k + 1)) + 1 by omega, List.replicate_succ, List.set_cons_zero, List.take_succ, List.getElem?_map, hv]
  rw [List.append_assoc]
  rfl
theorem sem_L_fall : ∀ ds ms Q, sp_L_fall ds ms Q → t_L_fall { nx := fun _ m => Q .non m, rt := Q } (startD 8 ds) ms := by
  intro ds ms Q h
  unfold sp_L_fall at h
  split at h
  · obtain ⟨r, t, B, n, a, b, rfl, rfl, ok, n8, s0, s1, t0, t1, ea, eb, h⟩ := h
    obtain ⟨a', ha, e1, e2⟩ := tb_at s0 s1
    obtain ⟨b', hb, e3, e4⟩ := tb_at t0 t1
    rw [ea] at e1
    rw [eb] at e3
    cases e1
    cases e3
    obtain ⟨z, hz, ez, ez2⟩ := tb_at (t := t) (i := 0) (by decide) (by omega)
    have la := ok.ln _ ha
    have lb := ok.ln _ hb
    have lz := ok.ln _ hz
    simp only [startD]
    unfold t_L_fall rwD
    walk_at "st"
    refine w_ix_l ez2 ?_
    unfold lnT at e2 e4 ez2 ⊢
    walk_at "st"
    refine w_ix_l e2 ?_
    have en : (((z.1 :: z.2).map D.int).length : Int) - 1 = (n : Int) := by rw [List.length_map, List.length_cons, lz]; omega
    rw [en]
    walk_at "st"
    refine ⟨zeros_ok (by omega) (by omega), ?_⟩
    walk_at "st"
    rw [rep_flat0, ← List.map_append, Int.toNat_natCast]
    refine ⟨size_ok (by simp; omega), fun q hq => ?_⟩
    walk_at "st"
    refine w_ix_o look_new (w_at0 _ _) ?_
    walk_at "st"
    refine w_ix_l e4 ?_
    walk_at "st"
    refine w_mSetIx look_new (ixN_ok (by omega) (by simp; omega)) put_new ?_
    have eg : ((((a.1 :: a.2) ++ List.replicate n (0 : Int)).map D.int).set (Int.toNat 0) (.int (a.1 - b.1))) = (fallG a b n 0).map D.int := by
      unfold fallG
      rw [map_set_int, List.take_zero, List.nil_append, Nat.sub_zero]
      rfl
    rw [eg]
    walk_at "st"
    refine w_mRng ⟨by omega, by omega⟩ ?_
    rw [Int.toNat_natCast]
    refine loop_rng (fun k ds m => m = (q, (fallG a b n k).map D.int) :: ms ∧ ∃ x7, ds = [some (.lst (t.map fun p => D.lst ((p.1 :: p.2).map D.int))), some (.tup [.int r.s, .int r.t, .lst (r.ws.map wiD)]), some (.int r.s), some (.int r.t), some (.lst (r.ws.map wiD)), some (.int (n : Int)), some (.opq (.ref q)), x7]) n ⟨rfl, _, rfl⟩ ?_ ?_
    · rintro k ds m hk ⟨rfl, x7, rfl⟩ N hN
      walk_at "st"
      refine w_ix_l e4 ?_
      walk_at "st"
      have hb2 : b.2[k]? = some b.2[k] := List.getElem?_eq_getElem (by omega)
      refine w_ix_l (d := .int b.2[k]) ?_ ?_
      · rw [show (1 + (0 + (k : Int))) = ((k + 1 : Nat) : Int) by omega]
        refine atI_nat ?_
        rw [List.map_cons, List.getElem?_cons_succ, List.getElem?_map, hb2]; rfl
      · walk_at "st"
        refine w_mSetIx look_new (ixN_ok (by omega) (by rw [List.length_map, fallG_len la lb (by omega)]; omega)) put_new ?_
        rw [map_set_int, show (1 + (n : Int) + (0 + (k : Int))).toNat = 1 + n + k by omega, fallG_step la lb hk hb2]
        walk_at "st"
        exact hN _ _ ⟨rfl, _, rfl⟩
    · rintro ds m ⟨rfl, x7, rfl⟩
      walk_at "st"
      rw [fallG_end lb]
      exact h q hq
  · exact h.elim
theorem ok_L_fall (T : Tx P K mg) : FnG P w K mg base 1 T.f_L_fall T.d_L_fall ["_law_table", "_law_row_here"] (spD K sp_L_fall) := by
  exact fnG_of (k := 0) (t := t_L_fall) T.F_L_fall sc_L_fall len_L_fall
    (fun cdv A outer s H hr => pds_cons (pds_asg (vs := [2, 3, 4]) (pd_var 1) (pg_tup rfl (pgs_cons (pg_name (i := 2) sc_L_fall.nd rfl (.inl rfl)) (pgs_cons (pg_name (i := 3) sc_L_fall.nd rfl (.inl rfl)) (pgs_cons (pg_name (i := 4) sc_L_fall.nd rfl (.inl rfl)) (pgs_nil))))) (tg_tup (tgs_cons (tg_name (i := 2) (by decide)) (tgs_cons (tg_name (i := 3) (by decide)) (tgs_cons (tg_name (i := 4) (by decide)) (tgs_nil) (mon_name (i := 4))) (mon_name (i := 3))) (mon_name (i := 2))))) (pds_cons (pds_set (i := 5) sc_L_fall.nd rfl (.inl rfl) (pd_op op_sub opd_sub (pd_callB call_len cal_len rfl T.n_len (by decide +kernel) (pda_cons (pd_ix ix_seq opd_ix (pd_var 0) (pd_int)) (pda_nil))) (pd_int))) (pds_cons (pds_set (i := 6) sc_L_fall.nd rfl (.inl rfl) (pd_op op_addD opd_addM (pd_ix ix_seq opd_ix (pd_var 0) (pd_var 2)) (pd_op op_mulA opd_mul (pd_lst (pda_cons (pd_int) (pda_nil))) (pd_var 5)))) (pds_cons (pds_setIx (pd_op op_sub opd_sub (pd_ix ix_seq opd_ix (pd_var 6) (pd_int)) (pd_ix ix_seq opd_ix (pd_ix ix_seq opd_ix (pd_var 0) (pd_var 3)) (pd_int))) (pd_var 6) (pd_int)) (pds_cons (pds_for (vs := [7]) rfl (pdi_range1 rfl T.n_range (pda_cons (pd_var 5) (pda_nil))) (pg_name (i := 7) sc_L_fall.nd rfl (.inl rfl)) (tg_name (i := 7) (by decide)) (pds_one (pds_setIx (pd_op op_sub opd_sub (pd_int) (pd_ix ix_seq opd_ix (pd_ix ix_seq opd_ix (pd_var 0) (pd_var 3)) (pd_op op_addD opd_add (pd_int) (pd_var 7)))) (pd_var 6) (pd_op op_addD opd_add (pd_op op_addD opd_add (pd_int) (pd_var 5)) (pd_var 7))))) (pds_one (pds_ret (pd_var 6))))))))
    sem_L_fall
def sp_L_low : FS := fun ds ms P => match ds with
  | [.int a, .int b] => b ≠ 0 ∧ Bd 8000 b ∧ P (fr (lowT a b)) ms
  | _ => False
theorem len_L_low : ∀ ds ms Q, sp_L_low ds ms Q → ds.length = 2 := fun ds ms Q h => by
  unfold sp_L_low at h
  split at h <;> first | rfl | exact h.elim
def t_L_low : DTS := dSeq (dAsg (dCB cAbs (aCons (dVar 0) (aNil))) (sName 2)) (dSeq (dAsg (dCB cAbs (aCons (dVar 1) (aNil))) (sName 3)) (dSeq (dWhile (dTest (dOp fGt (dVar 3) (dC (.int 0)))) (dPar 2 3 (aCons (dVar 3) (aCons (dOp fMod (dVar 2) (dVar 3)) (aNil))))) (dSeq (dIfS (dTest (dOp fLt (dVar 1) (dC (.int 0)))) (dAsg (dOp fSub (dC (.int 0)) (dVar 2)) (sName 2)) (dNext)) (dRet (dTup (aCons (dOp fDiv (dVar 0) (dVar 2)) (aCons (dOp fDiv (dVar 1) (dVar 2)) (aNil))))))))
theorem loop_low {E : EN} {ms : MS} {x y : Option D} : ∀ (n : Nat) (a b : Int), b.toNat < n → 0 ≤ a → 0 ≤ b → (∀ g : Int, g = (Int.gcd a b : Int) → E.nx [x, y, some (.int g), some (.int 0)] ms) →
    whileD (dTest (dOp fGt (dVar 3) (dC (.int 0)))) (dPar 2 3 (aCons (dVar 3) (aCons (dOp fMod (dVar 2) (dVar 3)) aNil))) E n [x, y, some (.int a), some (.int b)] ms := by
  intro n
  induction n with
  | zero => intro a b h; omega
  | succ n ih =>
    intro a b h ha hb q
    unfold whileD
    walk_at "dl"
    by_cases h0 : b = 0
    · subst h0
      rw [if_neg (by omega)]
      refine q a ?_
      rw [Int.gcd_zero_right]
      omega
    · rw [if_pos (by omega)]
      have h1 := Int.fmod_nonneg_of_pos a (show 0 < b by omega)
      have h2 := Int.fmod_lt_of_pos a (show 0 < b by omega)
      refine ⟨h0, ih b (a.fmod b) (by omega) hb h1 fun g hg => q g ?_⟩
      rw [hg, gcd_fmod]
theorem sem_L_low : ∀ ds ms Q, sp_L_low ds ms Q → t_L_low { nx := fun _ m => Q .non m, rt := Q } (startD 4 ds) ms := by
  intro ds ms Q h
  unfold sp_L_low at h
  split at h
  · rename_i a b
    obtain ⟨h0, hb, h⟩ := h
    unfold t_L_low
    walk_at "dl"
    have ea : (if a < 0 then -a else a) = (a.natAbs : Int) := by split <;> omega
    have eb : (if b < 0 then -b else b) = (b.natAbs : Int) := by split <;> omega
    rw [ea, eb]
    refine ⟨b.natAbs + 1, loop_low _ _ _ (by omega) (by omega) (by omega) fun g hg => ?_⟩
    have hg2 : g = (Int.gcd a b : Int) := by rw [hg]; rfl
    subst hg2
    walk_at "dl"
    have hd := fun x => sgcd_ok (a := a) h0 hb (by decide) (by decide) x
    have e : fr (lowT a b) = .tup [.int (a.fdiv (sgcd a b)), .int (b.fdiv (sgcd a b))] := rfl
    rw [e] at h
    unfold sgcd at hd h
    by_cases hn : b < 0
    · rw [if_pos hn] at hd h
      simp only [hn, if_true, Int.zero_sub]
      exact ⟨hd a, hd b, by decide, h⟩
    · rw [if_neg hn] at hd h
      simp only [hn, if_false]
      exact ⟨hd a, hd b, by decide, h⟩
  · exact h.elim
theorem ok_L_low (T : Tx P K mg) : FnG P w K mg base 1 T.f_L_low T.d_L_low ["_law_top", "_law_bottom"] (spD K sp_L_low) := by
  exact fnG_of (k := 0) (t := t_L_low) T.F_L_low sc_L_low len_L_low
    (fun cdv A outer s H hr => pds_cons (pds_set (i := 2) sc_L_low.nd rfl (.inl rfl) (pd_callB call_abs cal_abs rfl T.n_abs (by decide +kernel) (pda_cons (pd_var 0) (pda_nil)))) (pds_cons (pds_set (i := 3) sc_L_low.nd rfl (.inl rfl) (pd_callB call_abs cal_abs rfl T.n_abs (by decide +kernel) (pda_cons (pd_var 1) (pda_nil)))) (pds_cons (pds_while (pdt_cmp op_gt opd_gt (pd_var 3) (pd_int)) (pds_one (pds_par (i := 2) (j := 3) rfl sc_L_low.nd rfl rfl (by decide) rfl rfl (pda_cons (pd_var 3) (pda_cons (pd_op op_modN opd_mod (pd_var 2) (pd_var 3)) (pda_nil))) (by rfl)))) (pds_cons (pds_if (pdt_cmp op_lt opd_lt (pd_var 1) (pd_int)) (pds_one (pds_set (i := 2) sc_L_low.nd rfl (.inl rfl) (pd_op op_sub opd_sub (pd_int) (pd_var 2)))) (pds_nil)) (pds_one (pds_ret (pd_tup (pda_cons (pd_op op_fdivA opd_div (pd_var 0) (pd_var 2)) (pda_cons (pd_op op_fdivA opd_div (pd_var 1) (pd_var 2)) (pda_nil))))))))))
    sem_L_low
def foundL (L sp : Int × List Int) (b m s : Int) : List Int := (b * L.1 - m * sp.1 - s) :: List.zipWith (fun x y => b * x - m * y) L.2 sp.2
def sp_L_shown_wish : FS := fun ds ms P => match ds with
  | [.opq (.ref p), .lst xs, .lst ys, .int bel] => ∃ L sp : Int × List Int, PoolAt ms p ∧ xs = (L.1 :: L.2).map D.int ∧ ys = (sp.1 :: sp.2).map D.int ∧ L.2.length ≤ 8 ∧ sp.2.length = L.2.length ∧ (∀ x ∈ L.1 :: L.2, Bd 6 x) ∧ (∀ x ∈ sp.1 :: sp.2, Bd 6 x) ∧ (bel = 0 ∨ bel = 2) ∧
      ∀ b m s : Int, 1 ≤ b → b ≤ 3 → -bel ≤ m → m ≤ 2 → 0 ≤ s → s ≤ 2 → ∀ ms', PoolAt ms' p → Chg ms p ms' → P (.lst [.lst ((foundL L sp b m s).map D.int), fr (1, b), fr (lowT m b)]) ms'
  | _ => False
theorem len_L_shown_wish : ∀ ds ms Q, sp_L_shown_wish ds ms Q → ds.length = 4 := fun ds ms Q h => by
  unfold sp_L_shown_wish at h
  split at h <;> first | rfl | exact h.elim
def t_L_shown_wish : DTS := dSeq (dAsg (dOp fAdd (dC (.int 1)) (dCall 2 0 [0, 1] sp_L_take (aCons (dVar 0) (aCons (dC (.int 3)) (aNil))) (aNil))) (sName 4)) (dSeq (dAsg (dOp fSub (dCall 2 0 [0, 1] sp_L_take (aCons (dVar 0) (aCons (dOp fAdd (dC (.int 3)) (dVar 3)) (aNil))) (aNil)) (dVar 3)) (sName 5)) (dSeq (dAsg (dCall 2 0 [0, 1] sp_L_take (aCons (dVar 0) (aCons (dC (.int 3)) (aNil))) (aNil)) (sName 6)) (dSeq (dAsg (dLcM (iZipD (aCons (dVar 1) (aCons (dVar 2) (aNil)))) (sTup 2 (sCons (sName 8) (sCons (sName 9) (sNil)))) (dYes) (dOp fSub (dOp fMul (dVar 4) (dVar 8)) (dOp fMul (dVar 5) (dVar 9))) [8, 9]) (sName 7)) (dSeq (dSetIx (dVar 7) (dC (.int 0)) (dOp fSub (dOp fIx (dVar 7) (dC (.int 0))) (dVar 6))) (dRet (dLst (aCons (dFrz (dVar 7)) (aCons (dTup (aCons (dC (.int 1)) (aCons (dVar 4) (aNil)))) (aCons (dCall 2 0 [0, 1] sp_L_low (aCons (dVar 5) (aCons (dVar 4) (aNil))) (aNil)) (aNil))))))))))
theorem bd_abs {n : Nat} {x : Int} (h : Bd n x) : -(2 ^ n : Nat) < x ∧ x < (2 ^ n : Nat) := by
  unfold Bd at h
  omega
theorem mul_small {x y : Int} (hx : -1000 ≤ x ∧ x ≤ 1000) (hy : -1000 ≤ y ∧ y ≤ 1000) : CMulD x y := .inr (.inr ⟨by omega, by omega⟩)
theorem sem_L_shown_wish : ∀ ds ms Q, sp_L_shown_wish ds ms Q → t_L_shown_wish { nx := fun _ m => Q .non m, rt := Q } (startD 10 ds) ms := by
  intro ds ms Q h
  unfold sp_L_shown_wish at h
  split at h
  · rename_i p xs ys bel
    obtain ⟨L, sp, hp, rfl, rfl, l8, ls, bL, bS, hb, h⟩ := h
    have b02 : 0 ≤ bel ∧ bel ≤ 2 := by omega
    simp only [startD]
    unfold t_L_shown_wish
    walk_at "st"
    refine take_step hp (by decide) (by decide) fun r1 a1 b1 m1 p1 c1 => ?_
    walk_at "st"
    refine take_step p1 (by omega) (by omega) fun r2 a2 b2 m2 p2 c2 => ?_
    walk_at "st"
    refine take_step p2 (by decide) (by decide) fun r3 a3 b3 m3 p3 c3 => ?_
    walk_at "st"
    simp only [wipeD, List.set]
    rw [zipD_ints]
    refine comp_e (fun q : Int × Int => D.tup [.int q.1, .int q.2]) (fun q => D.int ((1 + r1) * q.1 - (r2 - bel) * q.2)) _ [] _ (by rw [List.length_zip, List.length_nil, List.length_cons, List.length_cons]; omega) (fun q hq P0 q0 => ?_) ?_
    · have h1 := bd_abs (bL _ (List.of_mem_zip hq).1)
      have h2 := bd_abs (bS _ (List.of_mem_zip hq).2)
      walk_at "st"
      refine ⟨mul_small (by omega) (by omega), ?_⟩
      walk_at "st"
      refine ⟨mul_small (by omega) (by omega), ?_⟩
      walk_at "st"
      exact q0
    · rw [List.nil_append, map_zip2 (fun x y => D.int ((1 + r1) * x - (r2 - bel) * y))]
      have e1 : List.zipWith (fun x y => D.int ((1 + r1) * x - (r2 - bel) * y)) (L.1 :: L.2) (sp.1 :: sp.2) = (((1 + r1) * L.1 - (r2 - bel) * sp.1) :: List.zipWith (fun x y => (1 + r1) * x - (r2 - bel) * y) L.2 sp.2).map D.int := by
        rw [List.zipWith_cons_cons, List.map_cons, List.map_zipWith]
      rw [e1]
      intro q hq
      walk_at "st"
      refine w_ix_o look_new (w_at0 _ _) ?_
      walk_at "st"
      refine w_mSetIx look_new (ixN_ok (by omega) (by simp)) put_new ?_
      rw [map_set_int]
      walk_at "st"
      refine ⟨by omega, (show Bd 3 (1 + r1) by unfold Bd; omega).mono (by decide), ?_⟩
      walk_at "st"
      exact h (1 + r1) (r2 - bel) r3 (by omega) (by omega) (by omega) (by omega) a3 (by omega) m3 p3 (c1.trans (c2.trans c3))
  · exact h.elim
theorem ok_L_shown_wish (T : Tx P K mg) : FnG P w K mg base 2 T.f_L_shown_wish T.d_L_shown_wish ["_law_pool_here", "_law_line_here", "_law_spare", "_law_below"] (spD K sp_L_shown_wish) := by
  have G_L_take := ok_L_take (P := P) (w := w) (base := base) T
  have G_L_low := ok_L_low (P := P) (w := w) (base := base) T
  exact fnG_of (k := 1) (t := t_L_shown_wish) T.F_L_shown_wish sc_L_shown_wish len_L_shown_wish
    (fun cdv A outer s H hr => pds_cons (pds_set (i := 4) sc_L_shown_wish.nd rfl (.inr rfl) (pd_op op_addD opd_add (pd_int) (pd_call G_L_take (hr.mono (by decide)) rfl T.g_L_take T.F_L_take.kp T.b_L_take_2 (pda_cons (pd_var 0) (pda_cons (pd_int) (pda_nil)))))) (pds_cons (pds_set (i := 5) sc_L_shown_wish.nd rfl (.inr rfl) (pd_op op_sub opd_sub (pd_call G_L_take (hr.mono (by decide)) rfl T.g_L_take T.F_L_take.kp T.b_L_take_2 (pda_cons (pd_var 0) (pda_cons (pd_op op_addD opd_add (pd_int) (pd_var 3)) (pda_nil)))) (pd_var 3))) (pds_cons (pds_set (i := 6) sc_L_shown_wish.nd rfl (.inl rfl) (pd_call G_L_take (hr.mono (by decide)) rfl T.g_L_take T.F_L_take.kp T.b_L_take_2 (pda_cons (pd_var 0) (pda_cons (pd_int) (pda_nil))))) (pds_cons (pds_setLcM (i := 7) (own := [("_law_number", 8), ("_law_other", 9)]) rfl sc_L_shown_wish.nd rfl rfl (sw_true rfl rfl rfl (by decide +kernel)) (pdi_zip rfl T.n_zip (pda_cons (pd_var 1) (pda_cons (pd_var 2) (pda_nil)))) (blkOk_by (own := [("_law_number", 8), ("_law_other", 9)]) (by kernel_rfl)) (fun _ _ _ _ _ => pg_tup rfl (pgs_cons (pg_name (i := 8) sc_L_shown_wish.nd rfl (by first | exact .inl rfl | exact .inr rfl)) (pgs_cons (pg_name (i := 9) sc_L_shown_wish.nd rfl (by first | exact .inl rfl | exact .inr rfl)) (pgs_nil)))) (tg_tup (tgs_cons (tg_name (i := 8) (by decide)) (tgs_cons (tg_name (i := 9) (by decide)) (tgs_nil) (mon_name (i := 9))) (mon_name (i := 8)))) (mon_tup (mon_cons (mon_name (i := 8)) (mon_cons (mon_name (i := 9)) (mon_nil)))) (fun _ _ _ _ _ => pdts_nil) (fun _ _ _ _ _ => pd_op op_sub opd_sub (pd_op op_mulA opd_mul (pd_var 4) (pd_var 8)) (pd_op op_mulA opd_mul (pd_var 5) (pd_var 9)))) (pds_cons (pds_setIx (pd_op op_sub opd_sub (pd_ix ix_seq opd_ix (pd_var 7) (pd_int)) (pd_var 6)) (pd_var 7) (pd_int)) (pds_one (pds_ret (pd_lst (pda_cons (pd_frz (pd_var 7)) (pda_cons (pd_tup (pda_cons (pd_int) (pda_cons (pd_var 4) (pda_nil)))) (pda_cons (pd_call G_L_low (hr.mono (by decide)) rfl T.g_L_low T.F_L_low.kp T.b_L_low_2 (pda_cons (pd_var 5) (pda_cons (pd_var 4) (pda_nil)))) (pda_nil))))))))))))
    sem_L_shown_wish
theorem PoolAt.app {p : Addr} : ∀ {qs m : MS}, (∀ e ∈ qs, e.1 ≠ p) → PoolAt m p → PoolAt (qs ++ m) p
  | [], _, _, h => h
  | (q, xs) :: qs, m, hq, h => PoolAt.cons (PoolAt.app (fun e he => hq e (List.mem_cons_of_mem _ he)) h) fun z => hq (q, xs) List.mem_cons_self z.symm
theorem PoolAt.untail {p : Addr} : ∀ {qs m : MS}, (∀ e ∈ qs, e.1 ≠ p) → PoolAt (qs ++ m) p → PoolAt m p
  | [], _, _, h => h
  | (q, xs) :: qs, m, hq, h => PoolAt.untail (fun e he => hq e (List.mem_cons_of_mem _ he)) (PoolAt.tail h fun z => hq (q, xs) List.mem_cons_self z.symm)
theorem chg_app {p : Addr} : ∀ {qs m m1 : MS}, (∀ e ∈ qs, e.1 ≠ p) → Chg (qs ++ m) p m1 → ∃ m', m1 = qs ++ m' ∧ Chg m p m'
  | [], m, m1, _, c => ⟨m1, rfl, c⟩
  | (q, xs) :: qs, m, m1, hq, c => by
    obtain ⟨m2, rfl, c2⟩ := chg_cons (fun z => hq (q, xs) List.mem_cons_self z.symm) c
    obtain ⟨m3, rfl, c3⟩ := chg_app (fun e he => hq e (List.mem_cons_of_mem _ he)) c2
    exact ⟨m3, rfl, c3⟩
theorem take_stepQ {p : Addr} {qs m : MS} {n : Int} {P : D → MS → Prop} (hq : ∀ e ∈ qs, e.1 ≠ p) (h : PoolAt m p) (m0 : 0 < n) (m1 : n ≤ 1000000000) (k : ∀ r, 0 ≤ r → r < n → ∀ m', PoolAt m' p → Chg m p m' → P (.int r) (qs ++ m')) :
    sp_L_take [.opq (.ref p), .int n] (qs ++ m) P :=
  take_step (h.app hq) m0 m1 fun r h0 h1 m2 p2 c2 => by
    obtain ⟨m', rfl, c'⟩ := chg_app hq c2
    exact k r h0 h1 m' (p2.untail hq) c'
theorem look_ne {p q : Addr} {xs : List D} {m : MS} (h : q ≠ p) : look ((q, xs) :: m) p = look m p := by
  conv => lhs; unfold look
  rw [if_neg h]
theorem put_ne {p q : Addr} {xs ys : List D} {m : MS} (h : q ≠ p) : put ((q, xs) :: m) p ys = (q, xs) :: put m p ys := by
  conv => lhs; unfold put
  rw [if_neg h]
theorem drp_ne {p q : Addr} {xs : List D} {m : MS} (h : q ≠ p) : drp ((q, xs) :: m) p = (q, xs) :: drp m p := by
  conv => lhs; unfold drp
  rw [if_neg h]
/-- the line that is asked for at a turn -/
def aimT (ts : List Tb) (s t rank i : Nat) : Int × List Int :=
  if i % 2 = 0 then askT ((ts.getD (i / 2) []).getD s (0, [])) ((ts.getD (i / 2) []).getD t (0, [])) (decide (i / 2 = rank)) else bndT ((ts.getD (i / 2) []).getD s (0, []))
structure Sh where
  at_ : Nat
  b : Int
  o : Int × Int
def shD (x : Sh) : D := .tup [.int (x.at_ : Int), fr (1, x.b), fr x.o]
/-- the share's place, what it is of, and the rest of the first wish -/
structure Sh1 (ws : List Wi) (L : Int × List Int) (x : Sh) : Prop where
  ex : ∃ (sp w : Wi) (m s : Int), ws[0]? = some sp ∧ ws[x.at_]? = some w ∧ 1 ≤ x.at_ ∧ w.j = false ∧ 1 ≤ x.b ∧ x.b ≤ 3 ∧ -2 ≤ m ∧ m ≤ 2 ∧ (sp.j = false → 0 ≤ m) ∧ 0 ≤ s ∧ x.o = lowT m x.b ∧ w.ls = foundL L (sp.l, sp.fs) x.b m s
theorem get_app {α : Type} {xs ys : List α} {i : Nat} {x : α} (h : xs[i]? = some x) : (xs ++ ys)[i]? = some x := by
  rw [List.getElem?_append_left (List.getElem?_eq_some_iff.mp h).1]; exact h
theorem Sh1.app {ws vs : List Wi} {L : Int × List Int} {x : Sh} (h : Sh1 ws L x) : Sh1 (ws ++ vs) L x := by
  obtain ⟨sp, w, m, s, h1, h2, h3⟩ := h
  exact ⟨sp, w, m, s, get_app h1, get_app h2, h3⟩
abbrev Td := Nat × List Sh
def tdD (x : Td) : D := .tup [.int (x.1 : Int), .lst (x.2.map shD)]
/-- a row that is made, and what is told of it -/
structure RwT (ts : List Tb) (r : Rw) (x : Td) : Prop where
  wl : r.ws.length = 1 + 2 * (x.1 + 1)
  xl : x.2.length = 2 * (x.1 + 1)
  sh : ∀ (i : Nat) (y : Sh), x.2[i]? = some y → Sh1 r.ws (aimT ts r.s.toNat r.t.toNat x.1 i) y
/-- a program that is made with ranks -/
structure Rkd (ts : List Tb) (td : List Td) (ranks : Nat) (g : Pg) : Prop where
  ok : PgOk 7 g
  tl : ts.length = ranks
  tb : ∀ t ∈ ts, TbOk 4 g.nm.length t ∧ t.length = g.pm.length
  dl : td.length = g.rs.length
  rk : ∀ x ∈ td, x.1 < ranks
  rw_ : ∀ (i : Nat) (r : Rw) (x : Td), g.rs[i]? = some r → td[i]? = some x → RwT ts r x
def sp_L_ranked : FS := fun ds ms P => match ds with
  | [.opq (.ref p), .int a, .int b, .int c, .int d] => PoolAt ms p ∧ 1 ≤ a ∧ a ≤ 3 ∧ 1 ≤ b ∧ b ≤ 3 ∧ 0 ≤ c ∧ c ≤ 5 ∧ 1 ≤ d ∧ d ≤ 3 ∧
      ∀ (g : Pg) (ts : List Tb) (td : List Td), Rkd ts td d.toNat g → (g.nm.length : Int) ≤ a → (g.pm.length : Int) ≤ b → (g.rs.length : Int) = c → ∀ q, q ≠ p → ∀ ms', PoolAt ms' p → Chg ms p ms' → P (.lst [.tup [.lst (g.nm.map D.str), .lst (g.pm.map D.str), .opq (.ref q)], .lst (ts.map tbD), .lst (td.map tdD)]) ((q, g.rs.map rwD) :: ms')
  | _ => False
theorem len_L_ranked : ∀ ds ms Q, sp_L_ranked ds ms Q → ds.length = 5 := fun ds ms Q h => by
  unfold sp_L_ranked at h
  split at h <;> first | rfl | exact h.elim
def t_L_ranked_c3 : DTS := dSeq (dAsg (dCall 4 0 [0, 1, 2, 3] sp_L_shown_wish (aCons (dVar 0) (aCons (dVar 20) (aCons (dVar 14) (aCons (dOp fMul (dC (.int 2)) (dCB cInt1 (aCons (dOp fEq (dVar 15) (dC (.str "just"))) (aNil)))) (aNil))))) (aNil)) (sLst 3 (sCons (sName 21) (sCons (sName 22) (sCons (sName 23) (sNil)))))) (dSeq (dDrop (dAppend (dVar 16) (aCons (dTup (aCons (dC (.str "least")) (aCons (dVar 21) (aNil)))) (aNil)))) (dDrop (dAppend (dVar 17) (aCons (dTup (aCons (dOp fSub (dCB cLen (aCons (dVar 16) (aNil))) (dC (.int 1))) (aCons (dVar 22) (aCons (dVar 23) (aNil))))) (aNil)))))
def t_L_ranked_c2 : DTS := dSeq (dFor (iRange1 (aCons (dOp fAdd (dVar 13) (dC (.int 1))) (aNil))) (sName 18) (dSeq (dAsg (dCall 2 0 [0, 1] sp_L_fall (aCons (dOp fIx (dVar 8) (dVar 18)) (aCons (dTup (aCons (dVar 11) (aCons (dVar 12) (aCons (dLst (aNil)) (aNil))))) (aNil))) (aNil)) (sName 19)) (dSeq (dSetIx (dVar 19) (dC (.int 0)) (dOp fSub (dOp fIx (dVar 19) (dC (.int 0))) (dCB cInt1 (aCons (dOp fEq (dVar 18) (dVar 13)) (aNil))))) (dFor (iSeq (dLst (aCons (dFrz (dVar 19)) (aCons (dOp fAdd (dOp fIx (dOp fIx (dVar 8) (dVar 18)) (dVar 11)) (dOp fMul (dLst (aCons (dC (.int 0)) (aNil))) (dVar 5))) (aNil))))) (sName 20) (t_L_ranked_c3))))) (dSeq (dDrop (dAppend (dVar 9) (aCons (dTup (aCons (dVar 11) (aCons (dVar 12) (aCons (dFrz (dVar 16)) (aNil))))) (aNil)))) (dDrop (dAppend (dVar 10) (aCons (dTup (aCons (dVar 13) (aCons (dFrz (dVar 17)) (aNil)))) (aNil)))))
def t_L_ranked_c1 : DTS := dSeq (dFor (iRange1 (aCons (dVar 3) (aNil))) (sName 7) (dSeq (dAsg (dCall 2 0 [0, 1] sp_L_take (aCons (dVar 0) (aCons (dVar 6) (aNil))) (aNil)) (sName 11)) (dSeq (dAsg (dCall 2 0 [0, 1] sp_L_take (aCons (dVar 0) (aCons (dVar 6) (aNil))) (aNil)) (sName 12)) (dSeq (dAsg (dCall 2 0 [0, 1] sp_L_take (aCons (dVar 0) (aCons (dVar 4) (aNil))) (aNil)) (sName 13)) (dSeq (dAsg (dCall 3 0 [0, 1, 2] sp_L_line (aCons (dVar 0) (aCons (dOp fMul (dC (.int 2)) (dVar 5)) (aCons (dC (.int 2)) (aNil)))) (aNil)) (sName 14)) (dSeq (dAsg (dOp fIx (dLst (aCons (dC (.str "least")) (aCons (dC (.str "least")) (aCons (dC (.str "just")) (aNil))))) (dCall 2 0 [0, 1] sp_L_take (aCons (dVar 0) (aCons (dC (.int 3)) (aNil))) (aNil))) (sName 15)) (dSeq (dAsg (dLstM (aCons (dTup (aCons (dVar 15) (aCons (dVar 14) (aNil)))) (aNil))) (sName 16)) (dSeq (dAsg (dLstM (aNil)) (sName 17)) (t_L_ranked_c2))))))))) (dSeq (dAsg (dTup (aCons (dSl (dLst (aCons (dC (.str "x")) (aCons (dC (.str "y")) (aCons (dC (.str "z")) (aNil))))) (oNone) (oSome (dVar 5))) (aCons (dSl (dLst (aCons (dC (.str "a")) (aCons (dC (.str "b")) (aCons (dC (.str "c")) (aCons (dC (.str "d")) (aCons (dC (.str "e")) (aCons (dC (.str "f")) (aNil)))))))) (oNone) (oSome (dVar 6))) (aCons (dVar 9) (aNil))))) (sName 24)) (dRet (dLst (aCons (dVar 24) (aCons (dVar 8) (aCons (dFrz (dVar 10)) (aNil)))))))
def t_L_ranked : DTS := dSeq (dAsg (dOp fAdd (dC (.int 1)) (dCall 2 0 [0, 1] sp_L_take (aCons (dVar 0) (aCons (dVar 1) (aNil))) (aNil))) (sName 5)) (dSeq (dAsg (dOp fAdd (dC (.int 1)) (dCall 2 0 [0, 1] sp_L_take (aCons (dVar 0) (aCons (dVar 2) (aNil))) (aNil))) (sName 6)) (dSeq (dAsg (dLc (iRange1 (aCons (dVar 4) (aNil))) (sName 7) (dYes) (dLc (iRange1 (aCons (dVar 6) (aNil))) (sName 25) (dYes) (dCall 3 0 [0, 1, 2] sp_L_line (aCons (dVar 0) (aCons (dVar 5) (aCons (dC (.int 2)) (aNil)))) (aNil)) [25]) [7]) (sName 8)) (dSeq (dAsg (dLstM (aNil)) (sName 9)) (dSeq (dAsg (dLstM (aNil)) (sName 10)) (t_L_ranked_c1)))))
/-- rows and what is told of them, while they are made -/
structure Mr (ts : List Tb) (sz pl ranks : Nat) (k : Nat) (rs : List Rw) (td : List Td) : Prop where
  rl : rs.length = k
  dl : td.length = k
  ro : ∀ r ∈ rs, RwOk 7 sz pl r
  rk : ∀ x ∈ td, x.1 < ranks
  rw_ : ∀ (i : Nat) (r : Rw) (x : Td), rs[i]? = some r → td[i]? = some x → RwT ts r x
theorem Mr.add {ts : List Tb} {sz pl ranks k : Nat} {rs : List Rw} {td : List Td} {r : Rw} {x : Td} (h : Mr ts sz pl ranks k rs td) (h1 : RwOk 7 sz pl r) (h2 : x.1 < ranks) (h3 : RwT ts r x) : Mr ts sz pl ranks (k + 1) (rs ++ [r]) (td ++ [x]) := by
  have rl := h.rl
  have dl := h.dl
  refine ⟨by rw [List.length_append, rl]; rfl, by rw [List.length_append, dl]; rfl, fun z hz => ?_, fun z hz => ?_, fun i r' x' e1 e2 => ?_⟩
  · rcases List.mem_append.mp hz with hz | hz
    · exact h.ro z hz
    · rw [List.mem_singleton.mp hz]; exact h1
  · rcases List.mem_append.mp hz with hz | hz
    · exact h.rk z hz
    · rw [List.mem_singleton.mp hz]; exact h2
  · by_cases hi : i < k
    · rw [List.getElem?_append_left (by omega)] at e1 e2
      exact h.rw_ i r' x' e1 e2
    · rw [List.getElem?_append_right (by omega)] at e1 e2
      have hi2 : i - k = 0 := by
        have := (List.getElem?_eq_some_iff.mp e1).1
        simp at this
        omega
      rw [rl, hi2] at e1
      rw [dl, hi2] at e2
      cases e1
      cases e2
      exact h3
/-- wishes and shares of one row, while they are made -/
structure Mw (ts : List Tb) (s t rank sz : Nat) (k : Nat) (ws : List Wi) (xs : List Sh) : Prop where
  wl : ws.length = 1 + k
  xl : xs.length = k
  wo : ∀ w ∈ ws, WiOk 7 (2 * sz) w
  sh : ∀ (i : Nat) (y : Sh), xs[i]? = some y → Sh1 ws (aimT ts s t rank i) y
theorem Mw.add {ts : List Tb} {s t rank sz k : Nat} {ws : List Wi} {xs : List Sh} {w : Wi} {x : Sh} (h : Mw ts s t rank sz k ws xs) (h1 : WiOk 7 (2 * sz) w) (h2 : Sh1 (ws ++ [w]) (aimT ts s t rank k) x) : Mw ts s t rank sz (k + 1) (ws ++ [w]) (xs ++ [x]) := by
  have xl := h.xl
  refine ⟨by rw [List.length_append, h.wl]; rfl, by rw [List.length_append, xl]; rfl, fun z hz => ?_, fun i y e => ?_⟩
  · rcases List.mem_append.mp hz with hz | hz
    · exact h.wo z hz
    · rw [List.mem_singleton.mp hz]; exact h1
  · by_cases hi : i < k
    · rw [List.getElem?_append_left (by omega)] at e
      exact (h.sh i y e).app
    · rw [List.getElem?_append_right (by omega)] at e
      have hi2 : i - k = 0 := by
        have := (List.getElem?_eq_some_iff.mp e).1
        simp at this
        omega
      rw [xl, hi2] at e
      cases e
      rw [show i = k by omega]
      exact h2
theorem bd7 {x y b m s : Int} (hx : Bd 5 x) (hy : Bd 4 y) (b1 : 1 ≤ b) (b3 : b ≤ 3) (m1 : -2 ≤ m) (m2 : m ≤ 2) (s0 : 0 ≤ s) (s2 : s ≤ 2) : Bd 7 (b * x - m * y - s) := by
  have h1 := bd_abs hx
  have h2 := bd_abs hy
  have hb : b = 1 ∨ b = 2 ∨ b = 3 := by omega
  have hm : m = -2 ∨ m = -1 ∨ m = 0 ∨ m = 1 ∨ m = 2 := by omega
  unfold Bd
  rcases hb with rfl | rfl | rfl <;> rcases hm with rfl | rfl | rfl | rfl | rfl <;> omega
theorem wi_found {L : Int × List Int} {sp : Wi} {n : Nat} {b m s : Int} (hL : ∀ x ∈ L.1 :: L.2, Bd 5 x) (hl : L.2.length = n) (hs : ∀ x ∈ sp.ls, Bd 4 x) (hsl : sp.fs.length = n) (b1 : 1 ≤ b) (b3 : b ≤ 3) (m1 : -2 ≤ m) (m2 : m ≤ 2) (s0 : 0 ≤ s) (s2 : s ≤ 2) :
    ∃ w : Wi, D.tup [.str "least", .lst ((foundL L (sp.l, sp.fs) b m s).map D.int)] = wiD w ∧ w.j = false ∧ w.ls = foundL L (sp.l, sp.fs) b m s ∧ WiOk 7 n w := by
  refine ⟨⟨false, b * L.1 - m * sp.l - s, List.zipWith (fun x y => b * x - m * y) L.2 sp.fs⟩, rfl, rfl, rfl, fun x hx => ?_, by rw [List.length_zipWith, hl, hsl, Nat.min_self]⟩
  rcases List.mem_cons.mp hx with rfl | hx
  · exact bd7 (hL _ List.mem_cons_self) (hs _ List.mem_cons_self) b1 b3 m1 m2 s0 s2
  · obtain ⟨i, hi, e⟩ := List.mem_iff_getElem.mp hx
    rw [List.getElem_zipWith] at e
    rw [List.length_zipWith] at hi
    have := bd7 (s := 0) (hL _ (List.mem_cons_of_mem _ (List.getElem_mem (show i < L.2.length by omega)))) (hs _ (List.mem_cons_of_mem _ (List.getElem_mem (show i < sp.fs.length by omega)))) b1 b3 m1 m2 (by decide) (by decide)
    rw [Int.sub_zero] at this
    rw [← e]
    exact this
theorem line_step {E : EN} {G : DS → MS → Prop} {p q9 q10 q16 q17 : Addr} {rs : List Rw} {td : List Td} {m : MS} {ts : List Tb} {s t rank sz k : Nat} {ws : List Wi} {xs : List Sh} {L : Int × List Int} {sp : Wi}
    {a b c d s0 t0 r0 k0 n5 n6 : Int} {x7 x8 x19 x21 x22 x23 x24 x25 : Option D}
    (hM : Mw ts s t rank sz k ws xs) (hL : aimT ts s t rank k = L) (bL : ∀ x ∈ L.1 :: L.2, Bd 5 x) (lL : L.2.length = 2 * sz) (hz : sz ≤ 3) (hsp : ws[0]? = some sp) (bS : ∀ x ∈ sp.ls, Bd 4 x) (hk : k ≤ 10)
    (n1 : q17 ≠ q16) (hq : ∀ e ∈ [(q17, xs.map shD), (q16, ws.map wiD), (q10, td.map tdD), (q9, rs.map rwD)], e.1 ≠ p) (hp : PoolAt m p)
    (hN : ∀ (w : Wi) (x : Sh), Mw ts s t rank sz (k + 1) (ws ++ [w]) (xs ++ [x]) → ∀ m', PoolAt m' p → Chg m p m' → ∀ x21 x22 x23, G [some (.opq (.ref p)), some (.int a), some (.int b), some (.int c), some (.int d), some (.int n5), some (.int n6), x7, x8, some (.opq (.ref q9)), some (.opq (.ref q10)), some (.int s0), some (.int t0), some (.int r0), some (.lst (sp.ls.map D.int)), some (wdD sp.j), some (.opq (.ref q16)), some (.opq (.ref q17)), some (.int k0), x19, some (.lst ((L.1 :: L.2).map D.int)), x21, x22, x23, x24, x25]
      ((q17, (xs ++ [x]).map shD) :: (q16, (ws ++ [w]).map wiD) :: (q10, td.map tdD) :: (q9, rs.map rwD) :: m')) :
    StG t_L_ranked_c3 (EN.lp E G) [some (.opq (.ref p)), some (.int a), some (.int b), some (.int c), some (.int d), some (.int n5), some (.int n6), x7, x8, some (.opq (.ref q9)), some (.opq (.ref q10)), some (.int s0), some (.int t0), some (.int r0), some (.lst (sp.ls.map D.int)), some (wdD sp.j), some (.opq (.ref q16)), some (.opq (.ref q17)), some (.int k0), x19, some (.lst ((L.1 :: L.2).map D.int)), x21, x22, x23, x24, x25]
      ((q17, xs.map shD) :: (q16, ws.map wiD) :: (q10, td.map tdD) :: (q9, rs.map rwD) :: m) := by
  have wo := hM.wo sp (mem_at hsp)
  have hwl := hM.wl
  have hxl := hM.xl
  have go : ∀ bel : Int, (bel = 0 ∨ bel = 2) → (sp.j = false → bel = 0) → ∀ P : D → MS → Prop, (∀ (w : Wi) (x : Sh), Mw ts s t rank sz (k + 1) (ws ++ [w]) (xs ++ [x]) → x.at_ = ws.length → ∀ m', PoolAt m' p → Chg m p m' → ∀ f, D.tup [.str "least", f] = wiD w → P (.lst [f, fr (1, x.b), fr x.o]) ((q17, xs.map shD) :: (q16, ws.map wiD) :: (q10, td.map tdD) :: (q9, rs.map rwD) :: m')) →
      sp_L_shown_wish [.opq (.ref p), .lst ((L.1 :: L.2).map D.int), .lst (sp.ls.map D.int), .int bel] ((q17, xs.map shD) :: (q16, ws.map wiD) :: (q10, td.map tdD) :: (q9, rs.map rwD) :: m) P := by
    intro bel hb hj P hP
    refine ⟨L, (sp.l, sp.fs), PoolAt.app (qs := [_, _, _, _]) hq hp, rfl, rfl, by omega, by show sp.fs.length = _; rw [wo.ln, lL], fun x hx => (bL x hx).mono (by decide), fun x hx => (bS x hx).mono (by decide), hb, fun b' m1 s1 e1 e2 e3 e4 e5 e6 m2 p2 c2 => ?_⟩
    obtain ⟨m', rfl, c'⟩ := chg_app (qs := [_, _, _, _]) hq c2
    have p' := PoolAt.untail (qs := [_, _, _, _]) hq p2
    obtain ⟨w, ew, hj2, hls, hw⟩ := wi_found (n := 2 * sz) (b := b') (m := m1) (s := s1) bL lL bS wo.ln e1 e2 (by omega) e4 e5 e6
    refine hP w ⟨ws.length, b', lowT m1 b'⟩ (hM.add hw ?_) rfl m' p' c' _ ew
    refine ⟨sp, w, m1, s1, get_app hsp, ?_, by show 1 ≤ ws.length; omega, hj2, e1, e2, by omega, e4, fun z => by have := hj z; omega, e5, rfl, by rw [hL]; exact hls⟩
    show (ws ++ [w])[ws.length]? = some w
    rw [List.getElem?_append_right (Nat.le_refl _), Nat.sub_self]
    rfl
  have rest : ∀ (w : Wi) (x : Sh), Mw ts s t rank sz (k + 1) (ws ++ [w]) (xs ++ [x]) → x.at_ = ws.length → ∀ m', PoolAt m' p → Chg m p m' → ∀ f, D.tup [.str "least", f] = wiD w →
      StG (dSeq (dDrop (dAppend (dVar 16) (aCons (dTup (aCons (dC (.str "least")) (aCons (dVar 21) aNil))) aNil))) (dDrop (dAppend (dVar 17) (aCons (dTup (aCons (dOp fSub (dCB cLen (aCons (dVar 16) aNil)) (dC (.int 1))) (aCons (dVar 22) (aCons (dVar 23) aNil)))) aNil)))) (EN.lp E G)
        [some (.opq (.ref p)), some (.int a), some (.int b), some (.int c), some (.int d), some (.int n5), some (.int n6), x7, x8, some (.opq (.ref q9)), some (.opq (.ref q10)), some (.int s0), some (.int t0), some (.int r0), some (.lst (sp.ls.map D.int)), some (wdD sp.j), some (.opq (.ref q16)), some (.opq (.ref q17)), some (.int k0), x19, some (.lst ((L.1 :: L.2).map D.int)), some f, some (fr (1, x.b)), some (fr x.o), x24, x25]
        ((q17, xs.map shD) :: (q16, ws.map wiD) :: (q10, td.map tdD) :: (q9, rs.map rwD) :: m') := by
    intro w x hM2 hx m' p' c' f ef
    walk_at "st"
    refine w_mApp ((look_ne n1).trans look_new) ?_
    walk_at "st"
    refine w_mApp2 ((look_ne n1).trans look_new) ((put_ne n1).trans (congrArg _ put_new)) ?_
    refine ⟨by rw [List.length_map]; exact Nat.lt_of_lt_of_le (by omega : ws.length < 100) (by decide), ?_⟩
    rw [ef, show ws.map wiD ++ [wiD w] = (ws ++ [w]).map wiD by rw [List.map_append]; rfl]
    walk_at "st"
    refine w_len_o ((look_ne n1).trans look_new) ?_
    walk_at "st"
    refine ⟨by rw [List.length_map]; exact Nat.lt_of_lt_of_le (by omega : xs.length < 100) (by decide), ?_⟩
    have e1 : (((ws ++ [w]).map wiD).length : Int) - 1 = (x.at_ : Int) := by rw [List.length_map, List.length_append, hx]; simp
    rw [e1, show xs.map shD ++ [D.tup [.int (x.at_ : Int), fr (1, x.b), fr x.o]] = (xs ++ [x]).map shD by rw [List.map_append]; rfl]
    walk_at "st"
    exact hN w x hM2 m' p' c' _ _ _
  unfold t_L_ranked_c3
  walk_at "st"
  have e2 : ((Str.ofString "just" : Str) == (Str.ofString "just" : Str)) = true := by decide +kernel
  have e3 : ((Str.ofString "least" : Str) == (Str.ofString "just" : Str)) = false := by decide +kernel
  cases hj : sp.j with
  | true =>
    rw [show wdD true = D.str (Str.ofString "just") from rfl]
    walk_at "st"
    rw [e2]
    walk_at "st"
    refine ⟨.inr (.inr ⟨by decide, by decide⟩), ?_⟩
    walk_at "st"
    refine go 2 (.inr rfl) (fun z => by rw [hj] at z; cases z) _ fun w x hM2 hx m' p' c' f ef => ?_
    walk_at "st"
    have := rest w x hM2 hx m' p' c' f ef
    rw [hj] at this
    exact this
  | false =>
    rw [show wdD false = D.str (Str.ofString "least") from rfl]
    walk_at "st"
    rw [e3]
    walk_at "st"
    refine ⟨.inr (.inr ⟨by decide, by decide⟩), ?_⟩
    walk_at "st"
    refine go 0 (.inl rfl) (fun _ => rfl) _ fun w x hM2 hx m' p' c' f ef => ?_
    walk_at "st"
    have := rest w x hM2 hx m' p' c' f ef
    rw [hj] at this
    exact this
theorem getD_at {α : Type} {xs : List α} {i : Nat} {x d : α} (h : xs[i]? = some x) : xs.getD i d = x := by
  rw [List.getD_eq_getElem?_getD, h]; rfl
theorem aim_even {ts : List Tb} {s t rank k : Nat} {tb : Tb} {a b : Int × List Int} (h : ts[k]? = some tb) (ha : tb[s]? = some a) (hb : tb[t]? = some b) : aimT ts s t rank (2 * k) = askT a b (decide (k = rank)) := by
  unfold aimT
  rw [if_pos (by omega), show 2 * k / 2 = k by omega, getD_at h, getD_at ha, getD_at hb]
theorem aim_odd {ts : List Tb} {s t rank k : Nat} {tb : Tb} {a : Int × List Int} (h : ts[k]? = some tb) (ha : tb[s]? = some a) : aimT ts s t rank (2 * k + 1) = bndT a := by
  unfold aimT
  rw [if_neg (by omega), show (2 * k + 1) / 2 = k by omega, getD_at h, getD_at ha]
theorem ask_bd {a b : Int × List Int} {f : Bool} (ha : ∀ x ∈ a.1 :: a.2, Bd 4 x) (hb : ∀ x ∈ b.1 :: b.2, Bd 4 x) : ∀ x ∈ (askT a b f).1 :: (askT a b f).2, Bd 5 x := by
  intro x hx
  rcases List.mem_cons.mp hx with rfl | hx
  · have h1 := bd_abs (ha _ List.mem_cons_self)
    have h2 := bd_abs (hb _ List.mem_cons_self)
    show Bd 5 (a.1 - b.1 - (if f then 1 else 0))
    unfold Bd
    cases f
    · rw [if_neg (by decide)]; omega
    · rw [if_pos rfl]; omega
  · rcases List.mem_append.mp hx with hx | hx
    · exact (ha _ (List.mem_cons_of_mem _ hx)).mono (by decide)
    · obtain ⟨y, hy, rfl⟩ := List.mem_map.mp hx
      exact (hb _ (List.mem_cons_of_mem _ hy)).neg0.mono (by decide)
theorem bnd_bd {a : Int × List Int} (ha : ∀ x ∈ a.1 :: a.2, Bd 4 x) : ∀ x ∈ (bndT a).1 :: (bndT a).2, Bd 5 x := by
  intro x hx
  rcases List.mem_cons.mp hx with rfl | hx
  · exact (ha _ List.mem_cons_self).mono (by decide)
  · rcases List.mem_append.mp hx with hx | hx
    · exact (ha _ (List.mem_cons_of_mem _ hx)).mono (by decide)
    · rw [List.eq_of_mem_replicate hx]; unfold Bd; decide
theorem rank_step {E : EN} {G : DS → MS → Prop} {p q9 q10 q16 q17 : Addr} {rs : List Rw} {td : List Td} {m : MS} {ts : List Tb} {s t rank sz pl ranks kk : Nat} {sp : Wi}
    {a b c d : Int} {x7 x18 x19 x20 x21 x22 x23 x24 x25 : Option D}
    (hts : ∀ tb ∈ ts, TbOk 4 sz tb ∧ tb.length = pl) (htl : ts.length = ranks) (hR : Mr ts sz pl ranks kk rs td) (hz : 1 ≤ sz ∧ sz ≤ 3) (hs : s < pl) (ht : t < pl) (hr : rank < ranks) (hr2 : ranks ≤ 3) (hkk : kk ≤ 10) (bS : ∀ x ∈ sp.ls, Bd 4 x) (lS : sp.fs.length = 2 * sz)
    (n1 : q17 ≠ q16) (n2 : q17 ≠ q10) (n3 : q17 ≠ q9) (n4 : q16 ≠ q10) (n5 : q16 ≠ q9) (n6 : q10 ≠ q9) (k1 : q17 ≠ p) (k2 : q16 ≠ p) (k3 : q10 ≠ p) (k4 : q9 ≠ p) (hp : PoolAt m p)
    (hN : ∀ (r : Rw) (x : Td), Mr ts sz pl ranks (kk + 1) (rs ++ [r]) (td ++ [x]) → ∀ m', PoolAt m' p → Chg m p m' → ∀ x11 x12 x13 x14 x15 x16 x17 x18 x19 x20 x21 x22 x23, G [some (.opq (.ref p)), some (.int a), some (.int b), some (.int c), some (.int d), some (.int (sz : Int)), some (.int (pl : Int)), x7, some (.lst (ts.map tbD)), some (.opq (.ref q9)), some (.opq (.ref q10)), x11, x12, x13, x14, x15, x16, x17, x18, x19, x20, x21, x22, x23, x24, x25]
      ((q10, (td ++ [x]).map tdD) :: (q9, (rs ++ [r]).map rwD) :: m')) :
    StG t_L_ranked_c2 (EN.lp E G) [some (.opq (.ref p)), some (.int a), some (.int b), some (.int c), some (.int d), some (.int (sz : Int)), some (.int (pl : Int)), x7, some (.lst (ts.map tbD)), some (.opq (.ref q9)), some (.opq (.ref q10)), some (.int (s : Int)), some (.int (t : Int)), some (.int (rank : Int)), some (.lst (sp.ls.map D.int)), some (wdD sp.j), some (.opq (.ref q16)), some (.opq (.ref q17)), x18, x19, x20, x21, x22, x23, x24, x25]
      ((q17, []) :: (q16, [wiD sp]) :: (q10, td.map tdD) :: (q9, rs.map rwD) :: m) := by
  have hq : ∀ (xs : List Sh) (ws : List Wi), ∀ e ∈ [(q17, xs.map shD), (q16, ws.map wiD), (q10, td.map tdD), (q9, rs.map rwD)], e.1 ≠ p := fun xs ws e he => by
    simp only [List.mem_cons, List.not_mem_nil, or_false] at he
    rcases he with rfl | rfl | rfl | rfl
    · exact k1
    · exact k2
    · exact k3
    · exact k4
  unfold t_L_ranked_c2
  walk_at "st"
  refine w_mRng ⟨by omega, by omega⟩ ?_
  rw [show ((rank : Int) + 1).toNat = rank + 1 by omega]
  have M0 : Mw ts s t rank sz (2 * 0) [sp] [] := ⟨rfl, rfl, fun w hw => by rw [List.mem_singleton.mp hw]; exact ⟨fun x hx => (bS x hx).mono (by decide), lS⟩, fun i y e => by cases e⟩
  refine loop_rng (fun k ds ms => ∃ ws xs m' x18 x19 x20 x21 x22 x23, Mw ts s t rank sz (2 * k) ws xs ∧ ws[0]? = some sp ∧ PoolAt m' p ∧ Chg m p m' ∧ ms = (q17, xs.map shD) :: (q16, ws.map wiD) :: (q10, td.map tdD) :: (q9, rs.map rwD) :: m' ∧
    ds = [some (.opq (.ref p)), some (.int a), some (.int b), some (.int c), some (.int d), some (.int (sz : Int)), some (.int (pl : Int)), x7, some (.lst (ts.map tbD)), some (.opq (.ref q9)), some (.opq (.ref q10)), some (.int (s : Int)), some (.int (t : Int)), some (.int (rank : Int)), some (.lst (sp.ls.map D.int)), some (wdD sp.j), some (.opq (.ref q16)), some (.opq (.ref q17)), x18, x19, x20, x21, x22, x23, x24, x25]) (rank + 1)
    ⟨[sp], [], m, _, _, _, _, _, _, M0, rfl, hp, hp.refl, rfl, rfl⟩ ?_ ?_
  · rintro k ds ms hk ⟨ws, xs, m1, x18, x19, x20, x21, x22, x23, hM, hsp, p1, c1, rfl, rfl⟩ N hN2
    have hkt : k < ts.length := by omega
    have etb : ts[k]? = some ts[k] := List.getElem?_eq_getElem hkt
    obtain ⟨tok, tl⟩ := hts _ (List.getElem_mem hkt)
    generalize ts[k] = tb at etb tok tl
    have ea : tb[s]? = some tb[s] := List.getElem?_eq_getElem (by omega)
    have eb : tb[t]? = some tb[t] := List.getElem?_eq_getElem (by omega)
    generalize tb[s] = A at ea
    generalize tb[t] = B at eb
    have bA := tok.bd _ (mem_at ea)
    have bB := tok.bd _ (mem_at eb)
    have lA := tok.ln _ (mem_at ea)
    have lB := tok.ln _ (mem_at eb)
    have eix : atI (ts.map tbD) (0 + (k : Int)) = some (.lst (tb.map lnT)) := by
      rw [Int.zero_add]
      exact atI_nat (by rw [List.getElem?_map, etb]; rfl)
    have eis : atI (tb.map lnT) (s : Int) = some (.lst ((A.1 :: A.2).map D.int)) := atI_nat (by rw [List.getElem?_map, ea]; rfl)
    have ek : ((0 + (k : Int)) == (rank : Int)) = decide (k = rank) := by
      rw [Bool.eq_iff_iff, beq_iff_eq, decide_eq_true_iff]; omega
    have hrk : rank ≤ 2 := by omega
    walk_at "st"
    refine w_ix_l eix ?_
    walk_at "st"
    refine ⟨⟨(s : Int), (t : Int), []⟩, tb, 4, sz, A, B, rfl, rfl, tok, by omega, by show (0 : Int) ≤ (s : Int); omega, by show (s : Int) < _; omega, by show (0 : Int) ≤ (t : Int); omega, by show (t : Int) < _; omega, by show tb[(s : Int).toNat]? = _; rw [Int.toNat_natCast]; exact ea, by show tb[(t : Int).toNat]? = _; rw [Int.toNat_natCast]; exact eb, fun q19 hq19 => ?_⟩
    rw [show (fallL A B).map D.int = D.int (A.1 - B.1) :: (A.2 ++ B.2.map fun x => 0 - x).map D.int by rw [fall_eq]; rfl]
    walk_at "st"
    refine w_ix_o look_new (w_at0 _ _) ?_
    walk_at "st"
    rw [ek]
    refine w_mSetIx look_new (ixN_ok (by omega) (by simp; omega)) put_new ?_
    have eset : (D.int (A.1 - B.1) :: List.map D.int (A.2 ++ List.map (fun x => 0 - x) B.2)).set (Int.toNat 0) (D.int (A.1 - B.1 - if decide (k = rank) = true then (1 : Int) else 0)) = ((askT A B (decide (k = rank))).1 :: (askT A B (decide (k = rank))).2).map D.int := rfl
    rw [eset]
    walk_at "st"
    refine w_ix_l eix ?_
    walk_at "st"
    refine w_ix_l eis ?_
    walk_at "st"
    refine ⟨zeros_ok (by omega) (by omega), ?_⟩
    walk_at "st"
    rw [rep_flat0, Int.toNat_natCast, ← List.map_append]
    refine ⟨size_ok (by simp only [List.length_map, List.length_cons, List.length_replicate]; omega), ?_⟩
    rw [show (A.1 :: A.2) ++ List.replicate sz 0 = (bndT A).1 :: (bndT A).2 by unfold bndT; rw [lA]; rfl]
    walk_at "st"
    refine w_loopC ?_
    walk_at "st"
    refine line_step hM (aim_even etb ea eb) (ask_bd bA bB) (by show (A.2 ++ B.2.map fun x => 0 - x).length = _; rw [List.length_append, List.length_map]; omega) hz.2 hsp bS (by omega) n1 (hq xs ws) p1 fun w1 y1 hM1 m2 p2 c2 x21 x22 x23 => ?_
    refine w_loopC ?_
    walk_at "st"
    refine line_step hM1 (aim_odd etb ea) (bnd_bd bA) (by show (A.2 ++ List.replicate A.2.length 0).length = _; rw [List.length_append, List.length_replicate]; omega) hz.2 (get_app hsp) bS (by omega) n1 (hq _ _) p2 fun w2 y2 hM2 m3 p3 c3 x21 x22 x23 => ?_
    refine w_loopN ?_
    walk_at "st"
    exact hN2 _ _ ⟨_, _, m3, _, _, _, _, _, _, hM2, get_app (get_app hsp), p3, c1.trans (c2.trans c3), rfl, rfl⟩
  · rintro ds ms ⟨ws, xs, m1, x18, x19, x20, x21, x22, x23, hM, hsp, p1, c1, rfl, rfl⟩
    have l1 := hR.rl
    have l2 := hR.dl
    walk_at "st"
    refine w_mApp ((look_ne n3).trans ((look_ne n5).trans ((look_ne n6).trans look_new))) ?_
    walk_at "st"
    refine w_mFrz ((look_ne n1).trans look_new) ((drp_ne n1).trans (congrArg _ drp_new)) ?_
    walk_at "st"
    refine w_mApp2 ((look_ne n3).trans ((look_ne n6).trans look_new)) ((put_ne n3).trans (congrArg _ ((put_ne n6).trans (congrArg _ put_new)))) ?_
    refine ⟨by rw [List.length_map]; exact Nat.lt_of_lt_of_le (by omega : rs.length < 100) (by decide), ?_⟩
    walk_at "st"
    refine w_mApp ((look_ne n2).trans look_new) ?_
    walk_at "st"
    refine ⟨by rw [List.length_map]; exact Nat.lt_of_lt_of_le (by omega : td.length < 100) (by decide), ?_⟩
    have hwl := hM.wl
    have RO : RwOk 7 sz pl ⟨(s : Int), (t : Int), ws⟩ := ⟨by show (0 : Int) ≤ (s : Int); omega, by show (s : Int) < _; omega, by show (0 : Int) ≤ (t : Int); omega, by show (t : Int) < _; omega, by show ws.length ≤ 12; omega, hM.wo⟩
    have RT : RwT ts ⟨(s : Int), (t : Int), ws⟩ (rank, xs) := ⟨hwl, hM.xl, fun i y e => by
      show Sh1 ws (aimT ts (s : Int).toNat (t : Int).toNat rank i) y
      rw [Int.toNat_natCast, Int.toNat_natCast]
      exact hM.sh i y e⟩
    have := hN _ _ (hR.add RO hr RT) m1 p1 c1
    rw [List.map_append, List.map_append] at this
    walk_at "st"
    exact this _ _ _ _ _ _ _ _ _ _ _ _ _
theorem sem_L_ranked : ∀ ds ms Q, sp_L_ranked ds ms Q → t_L_ranked { nx := fun _ m => Q .non m, rt := Q } (startD 26 ds) ms := by
  intro ds ms Q h
  unfold sp_L_ranked at h
  split at h
  · rename_i p a b c d
    obtain ⟨hp, a1, a2, b1, b3, c0, c5, d1, d2, h⟩ := h
    simp only [startD]
    unfold t_L_ranked
    walk_at "st"
    refine take_step hp (by omega) (by omega) fun r1 x1 y1 m1 p1 c1 => ?_
    walk_at "st"
    refine take_step p1 (by omega) (by omega) fun r2 x2 y2 m2 p2 c2 => ?_
    walk_at "st"
    refine w_mRng ⟨by omega, by omega⟩ ?_
    simp only [wipeD, List.set]
    refine comp_pool (p := p) (Good := fun d => ∃ t : Tb, d = tbD t ∧ (TbOk 4 (1 + r1).toNat t ∧ t.length = (1 + r2).toNat)) _ [] m2 _ p2 (by rw [rng_len, List.length_nil]; omega) ?_ ?_
    · intro x hx m hm P0 q
      walk_at "st"
      refine w_mRng ⟨by omega, by omega⟩ ?_
      simp only [wipeD, List.set]
      refine comp_pool (p := p) (Good := fun d => ∃ z : Int × List Int, d = lnT z ∧ ((∀ x ∈ z.1 :: z.2, Bd 4 x) ∧ z.2.length = (1 + r1).toNat)) _ [] m _ hm (by rw [rng_len, List.length_nil]; omega) ?_ ?_
      · intro y hy m3 hm3 P1 q1
        walk_at "st"
        refine ⟨hm3, by omega, by omega, by decide, by decide, fun is hl hb m' p' c' => ?_⟩
        cases is with
        | nil => rw [List.length_nil] at hl; omega
        | cons l fs => exact q1 _ _ ⟨(l, fs), rfl, hb, by rw [List.length_cons] at hl; show fs.length = _; omega⟩ p' c'
      · intro ys m3 hl hg p3 c3
        rw [rng_len] at hl
        obtain ⟨t, rfl, ht⟩ := maps_of ys hg
        rw [List.length_map] at hl
        rw [List.nil_append]
        exact q _ _ ⟨t, rfl, ⟨fun z hz => (ht z hz).1, fun z hz => (ht z hz).2⟩, hl⟩ p3 c3
    · intro ys m3 hl hg p3 c3
      rw [rng_len] at hl
      obtain ⟨ts, rfl, hts⟩ := maps_of ys hg
      rw [List.length_map] at hl
      rw [List.nil_append]
      walk_at "st"
      intro q9 hq9
      walk_at "st"
      intro q10 hq10
      walk_at "st"
      have k4 : q9 ≠ p := (p3.ne hq9).symm
      have k3 : q10 ≠ p := ((p3.cons (xs := []) k4.symm).ne hq10).symm
      have n6 : q10 ≠ q9 := fun z => hq10 _ List.mem_cons_self z.symm
      have hqq : ∀ (xs ys : List D), ∀ e ∈ [(q10, xs), (q9, ys)], e.1 ≠ p := fun xs ys e he => by
        simp only [List.mem_cons, List.not_mem_nil, or_false] at he
        rcases he with rfl | rfl
        · exact k3
        · exact k4
      obtain ⟨sz, hsz⟩ : ∃ sz : Nat, 1 + r1 = (sz : Int) := ⟨(1 + r1).toNat, by omega⟩
      obtain ⟨pl, hpl⟩ : ∃ pl : Nat, 1 + r2 = (pl : Int) := ⟨(1 + r2).toNat, by omega⟩
      obtain ⟨rn, rfl⟩ : ∃ rn : Nat, d = (rn : Int) := ⟨d.toNat, by omega⟩
      obtain ⟨cn, rfl⟩ : ∃ cn : Nat, c = (cn : Int) := ⟨c.toNat, by omega⟩
      rw [hsz, hpl] at hts ⊢
      rw [Int.toNat_natCast] at hl h
      rw [Int.toNat_natCast, Int.toNat_natCast] at hts
      unfold t_L_ranked_c1
      walk_at "st"
      refine w_mRng ⟨by omega, by omega⟩ ?_
      rw [Int.toNat_natCast]
      have R0 : Mr ts sz pl rn 0 [] [] := ⟨rfl, rfl, (fun r hr => by cases hr), (fun x hx => by cases hx), (fun i r x e => by cases e)⟩
      refine loop_rng (fun k ds ms => ∃ rs td m x7 x11 x12 x13 x14 x15 x16 x17 x18 x19 x20 x21 x22 x23, Mr ts sz pl rn k rs td ∧ PoolAt m p ∧ Chg m3 p m ∧ ms = (q10, td.map tdD) :: (q9, rs.map rwD) :: m ∧
        ds = [some (.opq (.ref p)), some (.int a), some (.int b), some (.int (cn : Int)), some (.int (rn : Int)), some (.int (sz : Int)), some (.int (pl : Int)), x7, some (.lst (ts.map tbD)), some (.opq (.ref q9)), some (.opq (.ref q10)), x11, x12, x13, x14, x15, x16, x17, x18, x19, x20, x21, x22, x23, none, none]) cn
        ⟨[], [], m3, _, _, _, _, _, _, _, _, _, _, _, _, _, _, R0, p3, p3.refl, rfl, rfl⟩ ?_ ?_
      · rintro kk ds ms hk ⟨rs, td, m, x7, x11, x12, x13, x14, x15, x16, x17, x18, x19, x20, x21, x22, x23, hR, pm, cm, rfl, rfl⟩ N hN
        walk_at "st"
        refine take_stepQ (qs := [_, _]) (hqq _ _) pm (by omega) (by omega) fun s s0 s1 m4 p4 c4 => ?_
        walk_at "st"
        refine take_stepQ (qs := [_, _]) (hqq _ _) p4 (by omega) (by omega) fun t t0 t1 m5 p5 c5 => ?_
        walk_at "st"
        refine take_stepQ (qs := [_, _]) (hqq _ _) p5 (by omega) (by omega) fun rk u0 u1 m6 p6 c6 => ?_
        walk_at "st"
        refine ⟨.inr (.inr ⟨by omega, by omega⟩), ?_⟩
        walk_at "st"
        refine ⟨PoolAt.app (qs := [_, _]) (hqq _ _) p6, by omega, by omega, by decide, by decide, fun is il ib m7' p7' c7' => ?_⟩
        obtain ⟨m7, rfl, c7⟩ := chg_app (qs := [_, _]) (hqq _ _) c7'
        have p7 := PoolAt.untail (qs := [_, _]) (hqq _ _) p7'
        walk_at "st"
        refine take_stepQ (qs := [_, _]) (hqq _ _) p7 (by decide) (by decide) fun r8 a8 b8 m8 p8 c8 => ?_
        walk_at "st"
        refine w_ixm a8 b8 fun wd hwd => ?_
        obtain ⟨j, rfl⟩ := word_of3 hwd wd_l wd_l wd_j
        cases is with
        | nil => rw [List.length_nil] at il; omega
        | cons l fs =>
          walk_at "st"
          intro q16 hq16
          walk_at "st"
          intro q17 hq17
          walk_at "st"
          obtain ⟨s, rfl⟩ : ∃ n : Nat, s = (n : Int) := ⟨s.toNat, by omega⟩
          obtain ⟨t, rfl⟩ : ∃ n : Nat, t = (n : Int) := ⟨t.toNat, by omega⟩
          obtain ⟨rk, rfl⟩ : ∃ n : Nat, rk = (n : Int) := ⟨rk.toNat, by omega⟩
          have g1 : q17 ≠ q16 := fun z => hq17 _ List.mem_cons_self z.symm
          have g2 : q17 ≠ q10 := fun z => hq17 _ (List.mem_cons_of_mem _ List.mem_cons_self) z.symm
          have g3 : q17 ≠ q9 := fun z => hq17 _ (List.mem_cons_of_mem _ (List.mem_cons_of_mem _ List.mem_cons_self)) z.symm
          have g4 : q16 ≠ q10 := fun z => hq16 _ List.mem_cons_self z.symm
          have g5 : q16 ≠ q9 := fun z => hq16 _ (List.mem_cons_of_mem _ List.mem_cons_self) z.symm
          have g7 : q16 ≠ p := ((PoolAt.app (qs := [_, _]) (hqq _ _) p8).ne hq16).symm
          have g8 : q17 ≠ p := (((PoolAt.app (qs := [_, _]) (hqq _ _) p8).cons g7.symm).ne hq17).symm
          refine rank_step (sp := ⟨j, l, fs⟩) (kk := kk) hts hl hR ⟨by omega, by omega⟩ (by omega) (by omega) (by omega) (by omega) (by omega) ib (by rw [List.length_cons] at il; show fs.length = _; omega) g1 g2 g3 g4 g5 n6 g8 g7 k3 k4 p8 fun r x hR2 m9 p9 c9 x11 x12 x13 x14 x15 x16 x17 x18 x19 x20 x21 x22 x23 => ?_
          exact hN _ _ ⟨_, _, m9, _, _, _, _, _, _, _, _, _, _, _, _, _, _, hR2, p9, cm.trans (c4.trans (c5.trans (c6.trans (c7.trans (c8.trans c9))))), rfl, rfl⟩
      · rintro ds ms ⟨rs, td, m, x7, x11, x12, x13, x14, x15, x16, x17, x18, x19, x20, x21, x22, x23, hR, pm, cm, rfl, rfl⟩
        have hrl := hR.rl
        have hdl := hR.dl
        walk_at "st"
        have k1' := nm_xyz (n := sz) (by omega) (by omega)
        have k2' := nm_abc (n := pl) (by omega) (by omega)
        have l1 : ((["x", "y", "z"] : List Str).take sz).length = sz := by rw [List.length_take]; show min sz 3 = sz; omega
        have l2 : ((["a", "b", "c", "d", "e", "f"] : List Str).take pl).length = pl := by rw [List.length_take]; show min pl 6 = pl; omega
        have hk := h ⟨(["x", "y", "z"] : List Str).take sz, (["a", "b", "c", "d", "e", "f"] : List Str).take pl, rs⟩ ts td
          ⟨⟨k1', k2', by show rs.length ≤ 10; omega, fun r hr => by rw [l1, l2]; exact hR.ro r hr⟩, hl, fun t ht => by rw [l1, l2]; exact hts t ht, by show td.length = rs.length; omega, hR.rk, hR.rw_⟩ (by rw [l1]; omega) (by rw [l2]; omega) (by show (rs.length : Int) = _; omega) q9 k4 m pm (c1.trans (c2.trans (c3.trans cm)))
        rw [List.map_take, List.map_take] at hk
        walk_at "st"
        rw [cut_to _ _ (by simp; omega), cut_to _ _ (by simp; omega)]
        walk_at "st"
        exact hk
  · exact h.elim
theorem ok_L_ranked (T : Tx P K mg) : FnG P w K mg base 3 T.f_L_ranked T.d_L_ranked ["_law_pool_here", "_law_most", "_law_places", "_law_rows", "_law_ranks"] (spD K sp_L_ranked) := by
  have G_L_take := ok_L_take (P := P) (w := w) (base := base) T
  have G_L_line := ok_L_line (P := P) (w := w) (base := base) T
  have G_L_fall := ok_L_fall (P := P) (w := w) (base := base) T
  have G_L_shown_wish := ok_L_shown_wish (P := P) (w := w) (base := base) T
  exact fnG_of (k := 2) (t := t_L_ranked) T.F_L_ranked sc_L_ranked len_L_ranked
    (fun cdv A outer s H hr => pds_cons (pds_set (i := 5) sc_L_ranked.nd rfl (.inr rfl) (pd_op op_addD opd_add (pd_int) (pd_call G_L_take (hr.mono (by decide)) rfl T.g_L_take T.F_L_take.kp T.b_L_take_2 (pda_cons (pd_var 0) (pda_cons (pd_var 1) (pda_nil)))))) (pds_cons (pds_set (i := 6) sc_L_ranked.nd rfl (.inr rfl) (pd_op op_addD opd_add (pd_int) (pd_call G_L_take (hr.mono (by decide)) rfl T.g_L_take T.F_L_take.kp T.b_L_take_2 (pda_cons (pd_var 0) (pda_cons (pd_var 2) (pda_nil)))))) (pds_cons (pds_setLc (i := 8) (own := [("_law_turn", 7)]) rfl sc_L_ranked.nd rfl rfl (sw_true rfl rfl rfl (by decide +kernel)) (pdi_range1 rfl T.n_range (pda_cons (pd_var 4) (pda_nil))) (blkOk_by (own := [("_law_turn", 7)]) (by kernel_rfl)) (fun _ _ _ _ _ => pg_name (i := 7) sc_L_ranked.nd rfl (by first | exact .inl rfl | exact .inr rfl)) (tg_name (i := 7) (by decide)) (mon_name (i := 7)) (fun _ _ _ _ _ => pdts_nil) (fun _ _ _ _ _ => pd_lc (own := [("_law_place", 25)]) rfl sc_L_ranked.nd (pdi_range1 rfl T.n_range (pda_cons (pd_var 6) (pda_nil))) (blkOk_by (own := [("_law_place", 25)]) (by kernel_rfl)) (fun _ _ _ _ _ => pg_name (i := 25) sc_L_ranked.nd rfl (by first | exact .inl rfl | exact .inr rfl)) (tg_name (i := 25) (by decide)) (mon_name (i := 25)) (fun _ _ _ _ _ => pdts_nil) (fun _ _ _ _ _ => pd_call G_L_line (hr.mono (by decide)) rfl T.g_L_line T.F_L_line.kp T.b_L_line_3 (pda_cons (pd_var 0) (pda_cons (pd_var 5) (pda_cons (pd_int) (pda_nil))))))) (pds_cons (pds_set (i := 9) sc_L_ranked.nd rfl (.inl rfl) (pd_lstM (pda_nil))) (pds_cons (pds_set (i := 10) sc_L_ranked.nd rfl (.inl rfl) (pd_lstM (pda_nil))) (pds_cons (pds_for (vs := [7]) rfl (pdi_range1 rfl T.n_range (pda_cons (pd_var 3) (pda_nil))) (pg_name (i := 7) sc_L_ranked.nd rfl (.inl rfl)) (tg_name (i := 7) (by decide)) (pds_cons (pds_set (i := 11) sc_L_ranked.nd rfl (.inl rfl) (pd_call G_L_take (hr.mono (by decide)) rfl T.g_L_take T.F_L_take.kp T.b_L_take_2 (pda_cons (pd_var 0) (pda_cons (pd_var 6) (pda_nil))))) (pds_cons (pds_set (i := 12) sc_L_ranked.nd rfl (.inl rfl) (pd_call G_L_take (hr.mono (by decide)) rfl T.g_L_take T.F_L_take.kp T.b_L_take_2 (pda_cons (pd_var 0) (pda_cons (pd_var 6) (pda_nil))))) (pds_cons (pds_set (i := 13) sc_L_ranked.nd rfl (.inl rfl) (pd_call G_L_take (hr.mono (by decide)) rfl T.g_L_take T.F_L_take.kp T.b_L_take_2 (pda_cons (pd_var 0) (pda_cons (pd_var 4) (pda_nil))))) (pds_cons (pds_set (i := 14) sc_L_ranked.nd rfl (.inl rfl) (pd_call G_L_line (hr.mono (by decide)) rfl T.g_L_line T.F_L_line.kp T.b_L_line_3 (pda_cons (pd_var 0) (pda_cons (pd_op op_mulA opd_mul (pd_int) (pd_var 5)) (pda_cons (pd_int) (pda_nil)))))) (pds_cons (pds_set (i := 15) sc_L_ranked.nd rfl (.inl rfl) (pd_ix ix_seq opd_ix (pd_lst (pda_cons (pd_str) (pda_cons (pd_str) (pda_cons (pd_str) (pda_nil))))) (pd_call G_L_take (hr.mono (by decide)) rfl T.g_L_take T.F_L_take.kp T.b_L_take_2 (pda_cons (pd_var 0) (pda_cons (pd_int) (pda_nil)))))) (pds_cons (pds_set (i := 16) sc_L_ranked.nd rfl (.inl rfl) (pd_lstM (pda_cons (pd_tup (pda_cons (pd_var 15) (pda_cons (pd_var 14) (pda_nil)))) (pda_nil)))) (pds_cons (pds_set (i := 17) sc_L_ranked.nd rfl (.inl rfl) (pd_lstM (pda_nil))) (pds_cons (pds_for (vs := [18]) rfl (pdi_range1 rfl T.n_range (pda_cons (pd_op op_addD opd_add (pd_var 13) (pd_int)) (pda_nil))) (pg_name (i := 18) sc_L_ranked.nd rfl (.inl rfl)) (tg_name (i := 18) (by decide)) (pds_cons (pds_set (i := 19) sc_L_ranked.nd rfl (.inl rfl) (pd_call G_L_fall (hr.mono (by decide)) rfl T.g_L_fall T.F_L_fall.kp T.b_L_fall_2 (pda_cons (pd_ix ix_seq opd_ix (pd_var 8) (pd_var 18)) (pda_cons (pd_tup (pda_cons (pd_var 11) (pda_cons (pd_var 12) (pda_cons (pd_lst (pda_nil)) (pda_nil))))) (pda_nil))))) (pds_cons (pds_setIx (pd_op op_sub opd_sub (pd_ix ix_seq opd_ix (pd_var 19) (pd_int)) (pd_callTy call_int1 cal_int1 rfl T.n_int (by decide +kernel) (pda_cons (pd_cmp (op_eqF hr.r.units) opd_eq (pd_var 18) (pd_var 13)) (pda_nil)))) (pd_var 19) (pd_int)) (pds_one (pds_for (vs := [20]) rfl (pdi_list (pd_lst (pda_cons (pd_frz (pd_var 19)) (pda_cons (pd_op op_addD opd_add (pd_ix ix_seq opd_ix (pd_ix ix_seq opd_ix (pd_var 8) (pd_var 18)) (pd_var 11)) (pd_op op_mulA opd_mul (pd_lst (pda_cons (pd_int) (pda_nil))) (pd_var 5))) (pda_nil))))) (pg_name (i := 20) sc_L_ranked.nd rfl (.inl rfl)) (tg_name (i := 20) (by decide)) (pds_cons (pds_asg (vs := [21, 22, 23]) (pd_call G_L_shown_wish (hr.mono (by decide)) rfl T.g_L_shown_wish T.F_L_shown_wish.kp T.b_L_shown_wish_4 (pda_cons (pd_var 0) (pda_cons (pd_var 20) (pda_cons (pd_var 14) (pda_cons (pd_op op_mulA opd_mul (pd_int) (pd_callTy call_int1 cal_int1 rfl T.n_int (by decide +kernel) (pda_cons (pd_cmp (op_eqF hr.r.units) opd_eq (pd_var 15) (pd_str)) (pda_nil)))) (pda_nil)))))) (pg_lst rfl (pgs_cons (pg_name (i := 21) sc_L_ranked.nd rfl (.inl rfl)) (pgs_cons (pg_name (i := 22) sc_L_ranked.nd rfl (.inl rfl)) (pgs_cons (pg_name (i := 23) sc_L_ranked.nd rfl (.inl rfl)) (pgs_nil))))) (tg_lst (tgs_cons (tg_name (i := 21) (by decide)) (tgs_cons (tg_name (i := 22) (by decide)) (tgs_cons (tg_name (i := 23) (by decide)) (tgs_nil) (mon_name (i := 23))) (mon_name (i := 22))) (mon_name (i := 21))))) (pds_cons (pds_expr (pd_append (pd_var 16) (pda_cons (pd_tup (pda_cons (pd_str) (pda_cons (pd_var 21) (pda_nil)))) (pda_nil)))) (pds_one (pds_expr (pd_append (pd_var 17) (pda_cons (pd_tup (pda_cons (pd_op op_sub opd_sub (pd_callB call_len cal_len rfl T.n_len (by decide +kernel) (pda_cons (pd_var 16) (pda_nil))) (pd_int)) (pda_cons (pd_var 22) (pda_cons (pd_var 23) (pda_nil))))) (pda_nil)))))))))))) (pds_cons (pds_expr (pd_append (pd_var 9) (pda_cons (pd_tup (pda_cons (pd_var 11) (pda_cons (pd_var 12) (pda_cons (pd_frz (pd_var 16)) (pda_nil))))) (pda_nil)))) (pds_one (pds_expr (pd_append (pd_var 10) (pda_cons (pd_tup (pda_cons (pd_var 13) (pda_cons (pd_frz (pd_var 17)) (pda_nil)))) (pda_nil))))))))))))))) (pds_cons (pds_set (i := 24) sc_L_ranked.nd rfl (.inl rfl) (pd_tup (pda_cons (pd_slice (pd_lst (pda_cons (pd_str) (pda_cons (pd_str) (pda_cons (pd_str) (pda_nil))))) (pdo_none) (pdo_some (pd_var 5))) (pda_cons (pd_slice (pd_lst (pda_cons (pd_str) (pda_cons (pd_str) (pda_cons (pd_str) (pda_cons (pd_str) (pda_cons (pd_str) (pda_cons (pd_str) (pda_nil)))))))) (pdo_none) (pdo_some (pd_var 6))) (pda_cons (pd_var 9) (pda_nil)))))) (pds_one (pds_ret (pd_lst (pda_cons (pd_var 24) (pda_cons (pd_var 8) (pda_cons (pd_frz (pd_var 10)) (pda_nil))))))))))))))
    sem_L_ranked
def shFor (n at_ : Nat) (a o : Int × Int) : List (Int × Int) := ((List.replicate n ((0 : Int), (1 : Int))).set 0 o).set at_ a
def sp_L_shares_for : FS := fun ds ms P => match ds with
  | [.lst zs, .tup [.int i, x, y]] => ∃ (at_ : Nat) (a o : Int × Int), i = (at_ : Int) ∧ x = fr a ∧ y = fr o ∧ at_ < zs.length ∧ zs.length ≤ 100 ∧ P (.lst ((shFor zs.length at_ a o).map fr)) ms
  | _ => False
theorem len_L_shares_for : ∀ ds ms Q, sp_L_shares_for ds ms Q → ds.length = 2 := fun ds ms Q h => by
  unfold sp_L_shares_for at h
  split at h <;> first | rfl | exact h.elim
def t_L_shares_for : DTS := dSeq (dAsg (dVar 1) (sTup 3 (sCons (sName 2) (sCons (sName 3) (sCons (sName 4) (sNil)))))) (dSeq (dAsg (dOp fMulM (dLst (aCons (dTup (aCons (dC (.int 0)) (aCons (dC (.int 1)) (aNil)))) (aNil))) (dCB cLen (aCons (dVar 0) (aNil)))) (sName 5)) (dSeq (dSetIx (dVar 5) (dC (.int 0)) (dVar 4)) (dSeq (dSetIx (dVar 5) (dVar 2) (dVar 3)) (dRet (dFrz (dVar 5))))))
theorem rep_flat1 (n : Nat) : (List.replicate n [D.tup [D.int 0, D.int 1]]).flatten = (List.replicate n ((0 : Int), (1 : Int))).map fr := by
  rw [List.map_replicate]
  induction n with
  | zero => rfl
  | succ n ih => rw [List.replicate_succ, List.flatten_cons, ih, List.replicate_succ]; rfl
theorem sem_L_shares_for : ∀ ds ms Q, sp_L_shares_for ds ms Q → t_L_shares_for { nx := fun _ m => Q .non m, rt := Q } (startD 6 ds) ms := by
  intro ds ms Q h
  unfold sp_L_shares_for at h
  split at h
  · rename_i zs i x y
    obtain ⟨at_, a, o, rfl, rfl, rfl, hat, hl, h⟩ := h
    simp only [startD]
    unfold t_L_shares_for
    walk_at "st"
    refine ⟨⟨by omega, by omega, Nat.le_trans (show 1 * (zs.length : Int).toNat ≤ 100 by omega) (by decide)⟩, fun q hq => ?_⟩
    rw [Int.toNat_natCast, rep_flat1]
    walk_at "st"
    refine w_mSetIx look_new (ixN_ok (by omega) (by rw [List.length_map, List.length_replicate]; omega)) put_new ?_
    walk_at "st"
    refine w_mSetIx look_new (ixN_ok (by omega) (by rw [List.length_set, List.length_map, List.length_replicate]; omega)) put_new ?_
    walk_at "st"
    rw [Int.toNat_natCast]
    unfold shFor at h
    rw [List.map_set, List.map_set] at h
    exact h
  · exact h.elim
theorem ok_L_shares_for (T : Tx P K mg) : FnG P w K mg base 1 T.f_L_shares_for T.d_L_shares_for ["_law_wishes", "_law_told"] (spD K sp_L_shares_for) := by
  exact fnG_of (k := 0) (t := t_L_shares_for) T.F_L_shares_for sc_L_shares_for len_L_shares_for
    (fun cdv A outer s H hr => pds_cons (pds_asg (vs := [2, 3, 4]) (pd_var 1) (pg_tup rfl (pgs_cons (pg_name (i := 2) sc_L_shares_for.nd rfl (.inl rfl)) (pgs_cons (pg_name (i := 3) sc_L_shares_for.nd rfl (.inl rfl)) (pgs_cons (pg_name (i := 4) sc_L_shares_for.nd rfl (.inl rfl)) (pgs_nil))))) (tg_tup (tgs_cons (tg_name (i := 2) (by decide)) (tgs_cons (tg_name (i := 3) (by decide)) (tgs_cons (tg_name (i := 4) (by decide)) (tgs_nil) (mon_name (i := 4))) (mon_name (i := 3))) (mon_name (i := 2))))) (pds_cons (pds_set (i := 5) sc_L_shares_for.nd rfl (.inl rfl) (pd_op op_mulA opd_mulM (pd_lst (pda_cons (pd_tup (pda_cons (pd_int) (pda_cons (pd_int) (pda_nil)))) (pda_nil))) (pd_callB call_len cal_len rfl T.n_len (by decide +kernel) (pda_cons (pd_var 0) (pda_nil))))) (pds_cons (pds_setIx (pd_var 4) (pd_var 5) (pd_int)) (pds_cons (pds_setIx (pd_var 3) (pd_var 5) (pd_var 2)) (pds_one (pds_ret (pd_frz (pd_var 5))))))))
    sem_L_shares_for
theorem dot_zero : ∀ (fs : List Int) (n : Nat), dotR fs (List.replicate n 0) = 0
  | [], n => by cases n <;> rfl
  | f :: fs, 0 => rfl
  | f :: fs, n + 1 => by
    rw [List.replicate_succ]
    show (f : Rat) * 0 + dotR fs (List.replicate n 0) = 0
    rw [dot_zero fs n]; grind
theorem dot_one (a : Rat) : ∀ (fs : List Int) (n j : Nat), j < n → dotR fs ((List.replicate n 0).set j a) = (fs.getD j 0 : Int) * a
  | [], n, j, _ => by
    have e : dotR [] ((List.replicate n 0).set j a) = 0 := by cases (List.replicate n (0 : Rat)).set j a <;> rfl
    rw [e, List.getD_eq_getElem?_getD]
    show (0 : Rat) = ((0 : Int) : Rat) * a
    rw [Rat.intCast_zero]; grind
  | f :: fs, 0, j, h => by omega
  | f :: fs, n + 1, 0, _ => by
    rw [List.replicate_succ, List.set_cons_zero]
    show (f : Rat) * a + dotR fs (List.replicate n 0) = (f : Rat) * a
    rw [dot_zero]; grind
  | f :: fs, n + 1, j + 1, h => by
    rw [List.replicate_succ, List.set_cons_succ]
    show (f : Rat) * 0 + dotR fs ((List.replicate n 0).set j a) = _
    rw [dot_one a fs n j (by omega)]
    show (f : Rat) * 0 + ((fs.getD j 0 : Int) : Rat) * a = ((fs.getD j 0 : Int) : Rat) * a
    grind
theorem dot_two {fs : List Int} {n j : Nat} {o a : Rat} (hn : 1 ≤ n) (hj : 1 ≤ j) (hjn : j < n) (hf : fs ≠ []) : dotR fs (((List.replicate n 0).set 0 o).set j a) = (fs.getD 0 0 : Int) * o + (fs.getD j 0 : Int) * a := by
  cases n with
  | zero => omega
  | succ n =>
    cases j with
    | zero => omega
    | succ j =>
      cases fs with
      | nil => exact absurd rfl hf
      | cons f fs =>
        rw [List.replicate_succ, List.set_cons_zero, List.set_cons_succ]
        show (f : Rat) * o + dotR fs ((List.replicate n 0).set j a) = _
        rw [dot_one a fs n j (by omega)]
        rfl
theorem sh_vals {n j : Nat} {a o : Int × Int} : (shFor n j a o).map val = ((List.replicate n 0).set 0 (val o)).set j (val a) := by
  unfold shFor
  rw [List.map_set, List.map_set, List.map_replicate, show val ((0 : Int), (1 : Int)) = 0 by rw [val_int]; rfl]
theorem low_one {b : Int} (h : 1 ≤ b) : Low (1, b) := ⟨by show 0 < b; omega, by show Int.gcd 1 b = 1; exact Int.gcd_one_left ..⟩
theorem val_one {b : Int} : val (1, b) = 1 / (b : Rat) := by
  unfold val
  show ((1 : Int) : Rat) / (b : Rat) = _
  rw [Rat.intCast_one]
theorem put_worth {b m s x y : Int} (hb : 1 ≤ b) : (y : Rat) * ((m : Rat) / (b : Rat)) + ((b * x - m * y - s : Int) : Rat) * (1 / (b : Rat)) = (x : Rat) - (s : Rat) / (b : Rat) := by
  have h := rne (b := b) (by omega)
  rw [Rat.intCast_sub, Rat.intCast_sub, Rat.intCast_mul, Rat.intCast_mul]
  generalize (b : Rat) = B at *
  generalize (m : Rat) = M at *
  generalize (s : Rat) = S at *
  generalize (x : Rat) = X at *
  generalize (y : Rat) = Y at *
  grind
theorem div_nn {a b : Rat} (ha : 0 ≤ a) (hb : 0 < b) : 0 ≤ a / b := by
  rw [← Rat.not_lt, Rat.div_lt_iff hb, Rat.zero_mul]
  exact Rat.not_lt.mpr ha
theorem carv_of {ws : List Wi} {L : Int × List Int} {x : Sh} {n : Nat} (h : Sh1 ws L x) (hw : ∀ w ∈ ws, w.fs.length = n) (hL : L.2.length = n) : CarV ws L (shFor ws.length x.at_ (1, x.b) x.o) := by
  obtain ⟨sp, w, m, s, e0, e1, a1, wj, b1, b3, m1, m2, mj, s0, eo, el⟩ := h
  have hat := (List.getElem?_eq_some_iff.mp e1).1
  have hsp := hw sp (mem_at e0)
  have hww := hw w (mem_at e1)
  have hbne : x.b ≠ 0 := by omega
  have lowO : Low x.o := by rw [eo]; exact low_low hbne
  have fbO : FB 31 21 x.o := by
    rw [eo]
    exact (fb_low (n := 3) (m := 3) (by unfold Bd; omega) (by unfold Bd; omega) hbne).mono (by decide) (by decide)
  have fb1 : FB 31 21 (1, x.b) := ⟨(show Bd 1 (1 : Int) by unfold Bd; decide).mono (by decide), (show Bd 3 x.b by unfold Bd; omega).mono (by decide), by show 0 < x.b; omega, fun z => by have z : (1 : Int) = 0 := z; omega⟩
  have fb0 : FB 31 21 ((0 : Int), (1 : Int)) := (fb_int (n := 1) (by unfold Bd; decide)).mono (by decide) (by decide)
  have vo : val x.o = (m : Rat) / (x.b : Rat) := by rw [eo]; exact val_low hbne
  have ne0 : ∀ k, colW ws k ≠ [] := fun k z => by
    have : (colW ws k).length = ws.length := by unfold colW; rw [List.length_map]
    rw [z, List.length_nil] at this
    omega
  have c0 : ∀ k, (colW ws k).getD 0 0 = sp.ls.getD k 0 := fun k => by
    unfold colW
    rw [List.getD_eq_getElem?_getD, List.getElem?_map, e0]; rfl
  have c1 : ∀ k, (colW ws k).getD x.at_ 0 = w.ls.getD k 0 := fun k => by
    unfold colW
    rw [List.getD_eq_getElem?_getD, List.getElem?_map, e1]; rfl
  have dt : ∀ k, dotR (colW ws k) ((shFor ws.length x.at_ (1, x.b) x.o).map val) = ((sp.ls.getD k 0 : Int) : Rat) * ((m : Rat) / (x.b : Rat)) + ((w.ls.getD k 0 : Int) : Rat) * (1 / (x.b : Rat)) := fun k => by
    rw [sh_vals, dot_two (by omega) a1 hat (ne0 k), c0, c1, vo, val_one]
  refine ⟨by unfold shFor; rw [List.length_set, List.length_set, List.length_replicate], fun z hz => ?_, fun q hq hj => ?_, ?_, fun k hk => ?_⟩
  · unfold shFor at hz
    rcases List.mem_or_eq_of_mem_set hz with hz | rfl
    · rcases List.mem_or_eq_of_mem_set hz with hz | rfl
      · rw [List.eq_of_mem_replicate hz]; exact low_int 0
      · exact lowO
    · exact low_one b1
  · obtain ⟨i, hi, e⟩ := List.mem_iff_getElem.mp hq
    rw [List.getElem_zip] at e
    rw [← e] at hj ⊢
    show 0 ≤ ((shFor ws.length x.at_ (1, x.b) x.o)[i]'_).1
    unfold shFor
    rw [List.getElem_set]
    split
    · show (0 : Int) ≤ 1; decide
    · rw [List.getElem_set]
      split
      · rename_i hi0
        subst hi0
        have e00 : ws[0]? = some (ws[0]'(by omega)) := List.getElem?_eq_getElem (by omega)
        rw [e00] at e0
        have e0 := Option.some.inj e0
        have hj2 : sp.j = false := by rw [← e0]; exact hj
        have hm := mj hj2
        rw [← val_nonneg lowO.pos, vo]
        have p1 := rpos (b := x.b) (by omega)
        have p2 : (0 : Rat) ≤ (m : Rat) := by rw [← Rat.intCast_zero]; exact Rat.intCast_le_intCast.mpr hm
        exact div_nn p2 p1
      · rw [List.getElem_replicate]; decide
  · rw [dt 0, el]
    show ((sp.l : Int) : Rat) * _ + ((x.b * L.1 - m * sp.l - s : Int) : Rat) * _ ≤ (L.1 : Rat)
    rw [put_worth b1]
    have p1 := rpos (b := x.b) (by omega)
    have p2 : (0 : Rat) ≤ (s : Rat) := by rw [← Rat.intCast_zero]; exact Rat.intCast_le_intCast.mpr s0
    have p3 : (0 : Rat) ≤ (s : Rat) / (x.b : Rat) := div_nn p2 p1
    grind
  · rw [dt (k + 1), el]
    have h1 : sp.ls.getD (k + 1) 0 = sp.fs.getD k 0 := rfl
    have h2 : (foundL L (sp.l, sp.fs) x.b m s).getD (k + 1) 0 = x.b * L.2.getD k 0 - m * sp.fs.getD k 0 - 0 := by
      show (List.zipWith (fun x' y => x.b * x' - m * y) L.2 sp.fs).getD k 0 = _
      rw [List.getD_eq_getElem?_getD, List.getD_eq_getElem?_getD, List.getD_eq_getElem?_getD, List.getElem?_eq_getElem (by rw [List.length_zipWith]; omega), List.getElem?_eq_getElem hk, List.getElem?_eq_getElem (by omega), List.getElem_zipWith, Int.sub_zero]
      rfl
    rw [h1, h2, put_worth b1]
    rw [Rat.intCast_zero]
    grind
/-- who is left at a rank, what is told of a row there, the whole paper -/
def leftK (td : List Td) (k : Nat) : List Nat := (List.range td.length).filter fun i => decide (k ≤ (td.getD i (0, [])).1)
def enK (g : Pg) (td : List Td) (k i : Nat) : En :=
  let x := td.getD i (0, [])
  let n := (g.rs.getD i ⟨0, 0, []⟩).ws.length
  let y := x.2.getD (2 * k) ⟨0, 1, (0, 1)⟩
  let z := x.2.getD (2 * k + 1) ⟨0, 1, (0, 1)⟩
  ⟨(i : Int), decide (x.1 = k), shFor n y.at_ (1, y.b) y.o, shFor n z.at_ (1, z.b) z.o⟩
def papK (g : Pg) (ts : List Tb) (td : List Td) : List Rk := (List.range ts.length).map fun k => ⟨ts.getD k [], (leftK td k).map (enK g td k)⟩
def sp_L_paper : FS := fun ds ms P => match ds with
  | [.tup [_, _, .opq (.ref q)], .lst ys, .lst zs] => ∃ (g : Pg) (ts : List Tb) (td : List Td) (ranks : Nat), look ms q = some (g.rs.map rwD) ∧ ys = ts.map tbD ∧ zs = td.map tdD ∧ Rkd ts td ranks g ∧ ranks ≤ 3 ∧ P (.lst ((papK g ts td).map rkD)) ms
  | _ => False
theorem len_L_paper : ∀ ds ms Q, sp_L_paper ds ms Q → ds.length = 3 := fun ds ms Q h => by
  unfold sp_L_paper at h
  split at h <;> first | rfl | exact h.elim
def t_L_paper : DTS := dSeq (dAsg (dListR (dCB cLen (aCons (dOp fIx (dVar 0) (dC (.int 2))) (aNil)))) (sName 3)) (dSeq (dAsg (dLstM (aNil)) (sName 4)) (dSeq (dFor (iEnumD (aCons (dVar 1) (aNil))) (sTup 2 (sCons (sName 5) (sCons (sName 6) (sNil)))) (dSeq (dAsg (dLstM (aNil)) (sName 7)) (dSeq (dFor (iSeq (dVar 3)) (sName 8) (dSeq (dAsg (dOp fIx (dVar 2) (dVar 8)) (sTup 2 (sCons (sName 9) (sCons (sName 10) (sNil))))) (dSeq (dAsg (dOp fIx (dOp fIx (dOp fIx (dVar 0) (dC (.int 2))) (dVar 8)) (dC (.int 2))) (sName 11)) (dSeq (dAsg (dCall 2 0 [0, 1] sp_L_shares_for (aCons (dVar 11) (aCons (dOp fIx (dVar 10) (dOp fMul (dC (.int 2)) (dVar 5))) (aNil))) (aNil)) (sName 12)) (dDrop (dAppend (dVar 7) (aCons (dTup (aCons (dVar 8) (aCons (dOp fEq (dVar 9) (dVar 5)) (aCons (dVar 12) (aCons (dCall 2 0 [0, 1] sp_L_shares_for (aCons (dVar 11) (aCons (dOp fIx (dVar 10) (dOp fAdd (dOp fMul (dC (.int 2)) (dVar 5)) (dC (.int 1)))) (aNil))) (aNil)) (aNil)))))) (aNil)))))))) (dSeq (dDrop (dAppend (dVar 4) (aCons (dTup (aCons (dLc (iSeq (dVar 6)) (sName 13) (dYes) (dCB cList (aCons (dVar 13) (aNil))) [13]) (aCons (dFrz (dVar 7)) (aNil)))) (aNil)))) (dAsg (dLc (iSeq (dVar 3)) (sName 8) (dTest (dOp fNe (dOp fIx (dOp fIx (dVar 2) (dVar 8)) (dC (.int 0))) (dVar 5))) (dVar 8) [8]) (sName 3)))))) (dRet (dFrz (dVar 4)))))
/-- a loop over known items, with what has been gone through -/
theorem loop_l {α : Type} {g : DG} {tb : DTS} {E : EN} (e : α → D) (all : List α) (I : List α → DS → MS → Prop) : ∀ (xs pre : List α) (ds : DS) (ms : MS), pre ++ xs = all → I pre ds ms →
    (∀ pre x rest ds ms, pre ++ x :: rest = all → I pre ds ms → ∀ N : DS → MS → Prop, (∀ ds' ms', I (pre ++ [x]) ds' ms' → N ds' ms') → g (e x) ds fun ds1 => tb (EN.lp E N) ds1 ms) →
    (∀ ds ms, I all ds ms → E.nx ds ms) → loopD g tb E (xs.map e) ds ms
  | [], pre, ds, ms, ha, h, _, q => q ds ms (by rw [List.append_nil] at ha; rw [← ha]; exact h)
  | x :: r, pre, ds, ms, ha, h, t, q => t pre x r ds ms ha h _ fun ds' ms' h' => loop_l e all I r (pre ++ [x]) ds' ms' (by rw [List.append_assoc]; exact ha) h' t q
theorem range_split {n k : Nat} {pre rest : List Nat} (h : pre ++ k :: rest = List.range n) : pre = List.range k ∧ k < n := by
  have hl : pre.length + (rest.length + 1) = n := by
    have := congrArg List.length h
    rwa [List.length_append, List.length_cons, List.length_range] at this
  have hk : (List.range n)[pre.length]? = some k := by
    rw [← h, List.getElem?_append_right (Nat.le_refl _), Nat.sub_self]; rfl
  rw [List.getElem?_range (by omega)] at hk
  have hk : pre.length = k := Option.some.inj hk
  refine ⟨?_, by omega⟩
  have ht := congrArg (List.take pre.length) h
  rw [List.take_left, List.take_range, Nat.min_eq_left (by omega), hk] at ht
  exact ht
theorem enum_range {α : Type} (f : α → D) (d : α) (xs : List α) : enumD (xs.map f) = (List.range xs.length).map fun (k : Nat) => D.tup [.int (k : Int), f (xs.getD k d)] := by
  refine List.ext_getElem? fun i => ?_
  unfold enumD rng
  rw [List.length_map, List.getElem?_zipWith, List.getElem?_map, List.getElem?_map, List.getElem?_map]
  by_cases hi : i < xs.length
  · rw [List.getElem?_range hi, List.getElem?_eq_getElem hi]
    simp [List.getD_eq_getElem?_getD, List.getElem?_eq_getElem hi]
  · rw [List.getElem?_eq_none (by rw [List.length_range]; omega)]
    rfl
theorem td_at {td : List Td} {i : Nat} (h : i < td.length) : atI (td.map tdD) (i : Int) = some (.tup [.int ((td.getD i (0, [])).1 : Int), .lst ((td.getD i (0, [])).2.map shD)]) := atI_nat (by rw [List.getElem?_map, List.getD_eq_getElem?_getD, List.getElem?_eq_getElem h]; rfl)
theorem rs_at {rs : List Rw} {i : Nat} (h : i < rs.length) : atI (rs.map rwD) (i : Int) = some (.tup [.int (rs.getD i ⟨0, 0, []⟩).s, .int (rs.getD i ⟨0, 0, []⟩).t, .lst ((rs.getD i ⟨0, 0, []⟩).ws.map wiD)]) := atI_nat (by rw [List.getElem?_map, List.getD_eq_getElem?_getD, List.getElem?_eq_getElem h]; rfl)
theorem left_mem {td : List Td} {k i : Nat} (h : i ∈ leftK td k) : i < td.length ∧ k ≤ (td.getD i (0, [])).1 := by
  unfold leftK at h
  rw [List.mem_filter, List.mem_range] at h
  exact ⟨h.1, of_decide_eq_true h.2⟩
theorem left_next (td : List Td) (k : Nat) : (leftK td k).filter (fun i => !decide ((td.getD i (0, [])).1 = k)) = leftK td (k + 1) := by
  unfold leftK
  rw [List.filter_filter]
  refine List.filter_congr fun i _ => ?_
  rw [Bool.eq_iff_iff, Bool.and_eq_true_iff, Bool.not_eq_true', decide_eq_false_iff_not, decide_eq_true_iff, decide_eq_true_iff]
  omega
theorem left_zero (td : List Td) : leftK td 0 = List.range td.length := by
  unfold leftK
  exact List.filter_eq_self.mpr fun i _ => decide_eq_true (Nat.zero_le _)
theorem sem_L_paper : ∀ ds ms Q, sp_L_paper ds ms Q → t_L_paper { nx := fun _ m => Q .non m, rt := Q } (startD 14 ds) ms := by
  intro ds ms Q h
  unfold sp_L_paper at h
  split at h
  · rename_i n1 n2 q ys zs
    obtain ⟨g, ts, td, ranks, hlk, rfl, rfl, hK, r2, h⟩ := h
    have r10 := hK.ok.rl
    have dl := hK.dl
    have tl := hK.tl
    simp only [startD]
    unfold t_L_paper
    walk_at "st"
    refine CbG.out (w_len_o hlk ?_)
    walk_at "st"
    rw [List.length_map]
    refine w_mListR ⟨by omega, by omega⟩ ?_
    rw [Int.toNat_natCast, rng_nats, ← dl, ← left_zero]
    walk_at "st"
    intro q4 hq4
    have n4q : q4 ≠ q := (hq4 _ (look_mem hlk)).symm
    walk_at "st"
    rw [enum_range tbD []]
    have l10 : ∀ k, (leftK td k).length ≤ 10 := fun k => by
      have : (leftK td k).length ≤ (List.range td.length).length := List.length_filter_le ..
      rw [List.length_range] at this
      omega
    refine loop_l (fun (k : Nat) => D.tup [.int (k : Int), .lst ((ts.getD k []).map lnT)]) (List.range ts.length) (fun pre ds m => ∃ x5 x6 x7 x8 x9 x10 x11 x12 x13, m = (q4, (pre.map fun k => rkD ⟨ts.getD k [], (leftK td k).map (enK g td k)⟩)) :: ms ∧
      ds = [some (.tup [n1, n2, .opq (.ref q)]), some (.lst (ts.map tbD)), some (.lst (td.map tdD)), some (.lst ((leftK td pre.length).map fun (k : Nat) => D.int (k : Int))), some (.opq (.ref q4)), x5, x6, x7, x8, x9, x10, x11, x12, x13]) _ [] _ _ rfl ⟨_, _, _, _, _, _, _, _, _, rfl, rfl⟩ ?_ ?_
    · rintro pre k rest ds m hall ⟨x5, x6, x7, x8, x9, x10, x11, x12, x13, rfl, rfl⟩ N hN
      obtain ⟨hpre, hk⟩ := range_split hall
      have hpl : pre.length = k := by rw [hpre, List.length_range]
      rw [hpl]
      walk_at "st"
      intro q7 hq7
      have n74 : q7 ≠ q4 := fun z => hq7 _ List.mem_cons_self z.symm
      have n7q : q7 ≠ q := (hq7 _ (List.mem_cons_of_mem _ (look_mem hlk))).symm
      walk_at "st"
      refine loop_l (fun (i : Nat) => D.int (i : Int)) (leftK td k) (fun pre2 ds m => ∃ x8 x9 x10 x11 x12 x13, m = (q7, pre2.map fun i => enD (enK g td k i)) :: (q4, (pre.map fun k => rkD ⟨ts.getD k [], (leftK td k).map (enK g td k)⟩)) :: ms ∧
        ds = [some (.tup [n1, n2, .opq (.ref q)]), some (.lst (ts.map tbD)), some (.lst (td.map tdD)), some (.lst ((leftK td k).map fun (k : Nat) => D.int (k : Int))), some (.opq (.ref q4)), some (.int (k : Int)), some (.lst ((ts.getD k []).map lnT)), some (.opq (.ref q7)), x8, x9, x10, x11, x12, x13]) _ [] _ _ rfl ⟨_, _, _, _, _, _, rfl, rfl⟩ ?_ ?_
      · rintro pre2 i rest2 ds m hall2 ⟨x8, x9, x10, x11, x12, x13, rfl, rfl⟩ N2 hN2
        have hi : i ∈ leftK td k := by rw [← hall2]; exact List.mem_append_right _ List.mem_cons_self
        obtain ⟨hi1, hi2⟩ := left_mem hi
        have hp2 : pre2.length ≤ 10 := by
          have := congrArg List.length hall2
          rw [List.length_append, List.length_cons] at this
          have := l10 k
          omega
        have etd : td[i]? = some (td.getD i (0, [])) := by rw [List.getD_eq_getElem?_getD, List.getElem?_eq_getElem hi1]; rfl
        have ers : g.rs[i]? = some (g.rs.getD i ⟨0, 0, []⟩) := by rw [List.getD_eq_getElem?_getD, List.getElem?_eq_getElem (by omega)]; rfl
        have hT := hK.rw_ i _ _ ers etd
        have een : enK g td k i = ⟨(i : Int), decide ((td.getD i (0, [])).1 = k), shFor (g.rs.getD i ⟨0, 0, []⟩).ws.length ((td.getD i (0, [])).2.getD (2 * k) ⟨0, 1, (0, 1)⟩).at_ (1, ((td.getD i (0, [])).2.getD (2 * k) ⟨0, 1, (0, 1)⟩).b) ((td.getD i (0, [])).2.getD (2 * k) ⟨0, 1, (0, 1)⟩).o, shFor (g.rs.getD i ⟨0, 0, []⟩).ws.length ((td.getD i (0, [])).2.getD (2 * k + 1) ⟨0, 1, (0, 1)⟩).at_ (1, ((td.getD i (0, [])).2.getD (2 * k + 1) ⟨0, 1, (0, 1)⟩).b) ((td.getD i (0, [])).2.getD (2 * k + 1) ⟨0, 1, (0, 1)⟩).o⟩ := rfl
        have ea := td_at hi1
        have eb := rs_at (rs := g.rs) (i := i) (by omega)
        generalize td.getD i (0, []) = X at etd hT een ea hi2
        generalize g.rs.getD i ⟨0, 0, []⟩ = R at ers hT een eb
        have hwl := hT.wl
        have hxl := hT.xl
        have e1 : X.2[2 * k]? = some (X.2.getD (2 * k) ⟨0, 1, (0, 1)⟩) := by rw [List.getD_eq_getElem?_getD, List.getElem?_eq_getElem (by omega)]; rfl
        have e2 : X.2[2 * k + 1]? = some (X.2.getD (2 * k + 1) ⟨0, 1, (0, 1)⟩) := by rw [List.getD_eq_getElem?_getD, List.getElem?_eq_getElem (by omega)]; rfl
        have hS1 := hT.sh _ _ e1
        have hS2 := hT.sh _ _ e2
        generalize X.2.getD (2 * k) ⟨0, 1, (0, 1)⟩ = Y at e1 hS1 een
        generalize X.2.getD (2 * k + 1) ⟨0, 1, (0, 1)⟩ = Z at e2 hS2 een
        have w12 := (hK.ok.ro R (mem_at ers)).wl
        have aY : Y.at_ < R.ws.length := by obtain ⟨_, _, _, _, _, z, _⟩ := hS1; exact (List.getElem?_eq_some_iff.mp z).1
        have aZ : Z.at_ < R.ws.length := by obtain ⟨_, _, _, _, _, z, _⟩ := hS2; exact (List.getElem?_eq_some_iff.mp z).1
        have eY : atI (X.2.map shD) (2 * (k : Int)) = some (.tup [.int (Y.at_ : Int), fr (1, Y.b), fr Y.o]) := by
          rw [show (2 * (k : Int)) = ((2 * k : Nat) : Int) by omega]
          exact atI_nat (by rw [List.getElem?_map, e1]; rfl)
        have eZ : atI (X.2.map shD) (2 * (k : Int) + 1) = some (.tup [.int (Z.at_ : Int), fr (1, Z.b), fr Z.o]) := by
          rw [show (2 * (k : Int) + 1) = ((2 * k + 1 : Nat) : Int) by omega]
          exact atI_nat (by rw [List.getElem?_map, e2]; rfl)
        have exk : ((X.1 : Int) == (k : Int)) = decide (X.1 = k) := by rw [Bool.eq_iff_iff, beq_iff_eq, decide_eq_true_iff]; omega
        walk_at "st"
        refine w_ix_l ea ?_
        walk_at "st"
        refine w_ix_o ((look_ne n7q).trans ((look_ne n4q).trans hlk)) eb ?_
        walk_at "st"
        refine ⟨mul_small (by omega) (by omega), ?_⟩
        walk_at "st"
        refine w_ix_l eY ?_
        walk_at "st"
        refine ⟨Y.at_, (1, Y.b), Y.o, rfl, rfl, rfl, by rw [List.length_map]; exact aY, by rw [List.length_map]; omega, ?_⟩
        rw [List.length_map]
        walk_at "st"
        rw [exk]
        refine ⟨mul_small (by omega) (by omega), ?_⟩
        walk_at "st"
        refine w_ix_l eZ ?_
        walk_at "st"
        refine ⟨Z.at_, (1, Z.b), Z.o, rfl, rfl, rfl, by rw [List.length_map]; exact aZ, by rw [List.length_map]; omega, ?_⟩
        rw [List.length_map]
        walk_at "st"
        refine ⟨by rw [List.length_map]; exact Nat.lt_of_lt_of_le (by omega : pre2.length < 100) (by decide), ?_⟩
        walk_at "st"
        refine hN2 _ _ ⟨_, _, _, _, _, _, ?_, rfl⟩
        rw [List.map_append, List.map_cons, List.map_nil, een]
        rfl
      · rintro ds m ⟨x8, x9, x10, x11, x12, x13, rfl, rfl⟩
        have etb : ts[k]? = some (ts.getD k []) := by rw [List.getD_eq_getElem?_getD, List.getElem?_eq_getElem hk]; rfl
        have htb := hK.tb _ (mem_at etb)
        have p6 := hK.ok.pm.l2
        have k1 : pre.length ≤ 2 := by omega
        walk_at "st"
        refine w_mApp ((look_ne n74).trans look_new) ?_
        walk_at "st"
        simp only [wipeD, List.set]
        refine comp_e lnT lnT (ts.getD k []) [] _ (by rw [List.length_nil]; omega) (fun q hq P0 q0 => ?_) ?_
        · unfold lnT
          walk_at "st"
          exact q0
        · rw [List.nil_append]
          walk_at "st"
          refine ⟨by rw [List.length_map]; exact Nat.lt_of_lt_of_le (by omega : pre.length < 100) (by decide), ?_⟩
          walk_at "st"
          simp only [wipeD, List.set]
          refine comp_fV (fun (i : Nat) => D.int (i : Int)) (fun i => !decide ((td.getD i (0, [])).1 = k)) (fun i => D.int (i : Int)) (leftK td k) [] _ (by have := l10 k; rw [List.length_nil]; omega) (fun i hi K L hKK hL => ?_) ?_
          · obtain ⟨hi1, hi2⟩ := left_mem hi
            walk_at "st"
            refine w_ix_l (td_at hi1) ?_
            walk_at "st"
            have exk : (((td.getD i (0, [])).1 : Int) == (k : Int)) = decide ((td.getD i (0, [])).1 = k) := by rw [Bool.eq_iff_iff, beq_iff_eq, decide_eq_true_iff]; omega
            rw [exk]
            cases hd : decide ((td.getD i (0, [])).1 = k) with
            | true =>
              rw [hd] at hL
              walk_at "st"
              exact hL rfl
            | false =>
              rw [hd] at hKK
              walk_at "st"
              exact hKK rfl
          · rw [List.nil_append, left_next]
            walk_at "st"
            refine hN _ _ ⟨_, _, _, _, _, _, _, _, _, ?_, by rw [List.length_append, hpl]; rfl⟩
            rw [List.map_append]
            unfold rkD
            rw [List.map_cons, List.map_nil, List.map_map]
            rfl
    · rintro ds m ⟨x5, x6, x7, x8, x9, x10, x11, x12, x13, rfl, rfl⟩
      walk_at "st"
      unfold papK at h
      rw [List.map_map] at h
      exact h
  · exact h.elim
theorem goes_of {g : Pg} {left : Nat → List Nat} {K : Nat → Rk} {n : Nat} (h : ∀ k, k < n → RkOk g (left k) (K k) ∧ outR (left k) (K k) = left (k + 1)) (hl : ∀ k, (left k).length ≤ 100) : ∀ m k, k + m = n → Goes g (left k) ((List.range' k m).map K) (left n)
  | 0, k, e => by rw [show k = n by omega]; exact .nil _
  | m + 1, k, e => by
    obtain ⟨h1, h2⟩ := h k (by omega)
    rw [List.range'_succ, List.map_cons]
    refine .cons h1 ?_
    rw [h2]
    exact goes_of h hl m (k + 1) (by omega)
theorem goes_all {g : Pg} {left : Nat → List Nat} {K : Nat → Rk} {n : Nat} (h : ∀ k, k < n → RkOk g (left k) (K k) ∧ outR (left k) (K k) = left (k + 1)) (hl : ∀ k, (left k).length ≤ 100) : Goes g (left 0) ((List.range n).map K) (left n) := by
  rw [List.range_eq_range']
  exact goes_of h hl n 0 (Nat.zero_add n)
theorem zip_mapB {α β γ : Type} (f : α → β) (h : α → γ) : ∀ xs : List α, (xs.map h).zip (xs.map f) = xs.map fun x => (h x, f x)
  | [] => rfl
  | x :: r => by rw [List.map_cons, List.map_cons, List.zip_cons_cons, zip_mapB f h r, List.map_cons]
/-- entries for rows that are told by where they stand -/
theorem rk_by {g : Pg} {t : Tb} {B : Nat} {is : List Nat} {nu : Nat → Nat} {f : Nat → En} (tb : TbOk B g.nm.length t ∧ B ≤ 500) (tl : t.length = g.pm.length) (h : ∀ i ∈ is, EnOk g t (nu i) (f i)) :
    RkOk g (is.map nu) ⟨t, is.map f⟩ ∧ outR (is.map nu) ⟨t, is.map f⟩ = (is.filter fun i => !(f i).falls).map nu := by
  refine ⟨⟨tl, tb.1.ln, by show (is.map f).length = _; rw [List.length_map, List.length_map], fun p hp => ?_⟩, ?_⟩
  · have hp : p ∈ (is.map nu).zip (is.map f) := hp
    rw [zip_mapB] at hp
    obtain ⟨i, hi, rfl⟩ := List.mem_map.mp hp
    exact h i hi
  · show (((is.map nu).zip (is.map f)).filter fun p => !p.2.falls).map (·.1) = _
    rw [zip_mapB, List.filter_map, List.map_map]
    rfl
theorem left_len (td : List Td) (k : Nat) : (leftK td k).length ≤ td.length := by
  have := List.length_filter_le (fun i => decide (k ≤ (td.getD i (0, [])).1)) (List.range td.length)
  rw [List.length_range] at this
  exact this
theorem left_none {ts : List Tb} {td : List Td} {ranks : Nat} {g : Pg} (hK : Rkd ts td ranks g) : leftK td ts.length = [] := by
  unfold leftK
  rw [List.filter_eq_nil_iff]
  intro i hi z
  rw [List.mem_range] at hi
  have h2 := of_decide_eq_true z
  rw [List.getD_eq_getElem?_getD, List.getElem?_eq_getElem hi] at h2
  have h3 := hK.rk _ (List.getElem_mem hi)
  have h4 := hK.tl
  have h5 : ts.length ≤ (td[i]).1 := h2
  omega
/-- what an entry of the paper tells -/
structure EnIs (ts : List Tb) (r : Rw) (t : Tb) (e : En) : Prop where
  ex : ∃ a b, t[r.s.toNat]? = some a ∧ t[r.t.toNat]? = some b ∧ CarV r.ws (askT a b e.falls) e.lost ∧ CarV r.ws (bndT a) e.bound
  f1 : ∀ s ∈ e.lost, FB 20 10 s
  f2 : ∀ s ∈ e.bound, FB 20 10 s
theorem sh_small {ws : List Wi} {L : Int × List Int} {x : Sh} (h : Sh1 ws L x) : ∀ s ∈ shFor ws.length x.at_ (1, x.b) x.o, FB 20 10 s := by
  obtain ⟨sp, w, m, s, e0, e1, a1, wj, b1, b3, m1, m2, mj, s0, eo, el⟩ := h
  have hb : Bd 3 x.b := by unfold Bd; omega
  intro z hz
  unfold shFor at hz
  rcases List.mem_or_eq_of_mem_set hz with hz | rfl
  · rcases List.mem_or_eq_of_mem_set hz with hz | rfl
    · rw [List.eq_of_mem_replicate hz]
      exact (fb_int (n := 1) (by unfold Bd; decide)).mono (by decide) (by decide)
    · rw [eo]
      exact (fb_low (n := 3) (m := 3) (by unfold Bd; omega) hb (by omega)).mono (by decide) (by decide)
  · exact ⟨(show Bd 1 (1 : Int) by unfold Bd; decide).mono (by decide), hb.mono (by decide), by show 0 < x.b; omega, fun z => by have z : (1 : Int) = 0 := z; omega⟩
theorem en_is {ts : List Tb} {td : List Td} {ranks : Nat} {g : Pg} (hK : Rkd ts td ranks g) (hr2 : ranks ≤ 3) {k i : Nat} (hk : k < ts.length) (hi : i ∈ leftK td k) :
    ∃ r, g.rs[i]? = some r ∧ EnIs ts r (ts.getD k []) (enK g td k i) ∧ r.ws.length ≤ 7 := by
  obtain ⟨hi1, hi2⟩ := left_mem hi
  have dl := hK.dl
  have etd : td[i]? = some (td.getD i (0, [])) := by rw [List.getD_eq_getElem?_getD, List.getElem?_eq_getElem hi1]; rfl
  have ers : g.rs[i]? = some (g.rs.getD i ⟨0, 0, []⟩) := by rw [List.getD_eq_getElem?_getD, List.getElem?_eq_getElem (by omega)]; rfl
  have hT := hK.rw_ i _ _ ers etd
  have een : enK g td k i = ⟨(i : Int), decide ((td.getD i (0, [])).1 = k), shFor (g.rs.getD i ⟨0, 0, []⟩).ws.length ((td.getD i (0, [])).2.getD (2 * k) ⟨0, 1, (0, 1)⟩).at_ (1, ((td.getD i (0, [])).2.getD (2 * k) ⟨0, 1, (0, 1)⟩).b) ((td.getD i (0, [])).2.getD (2 * k) ⟨0, 1, (0, 1)⟩).o, shFor (g.rs.getD i ⟨0, 0, []⟩).ws.length ((td.getD i (0, [])).2.getD (2 * k + 1) ⟨0, 1, (0, 1)⟩).at_ (1, ((td.getD i (0, [])).2.getD (2 * k + 1) ⟨0, 1, (0, 1)⟩).b) ((td.getD i (0, [])).2.getD (2 * k + 1) ⟨0, 1, (0, 1)⟩).o⟩ := rfl
  have hrk := hK.rk _ (mem_at etd)
  generalize td.getD i (0, []) = X at etd hT een hi2 hrk
  generalize g.rs.getD i ⟨0, 0, []⟩ = R at ers hT een
  have hwl := hT.wl
  have hxl := hT.xl
  have e1 : X.2[2 * k]? = some (X.2.getD (2 * k) ⟨0, 1, (0, 1)⟩) := by rw [List.getD_eq_getElem?_getD, List.getElem?_eq_getElem (by omega)]; rfl
  have e2 : X.2[2 * k + 1]? = some (X.2.getD (2 * k + 1) ⟨0, 1, (0, 1)⟩) := by rw [List.getD_eq_getElem?_getD, List.getElem?_eq_getElem (by omega)]; rfl
  have hS1 := hT.sh _ _ e1
  have hS2 := hT.sh _ _ e2
  generalize X.2.getD (2 * k) ⟨0, 1, (0, 1)⟩ = Y at e1 hS1 een
  generalize X.2.getD (2 * k + 1) ⟨0, 1, (0, 1)⟩ = Z at e2 hS2 een
  have hm := mem_at ers
  have ro := hK.ok.ro R hm
  have w12 := ro.wl
  have etb : ts[k]? = some (ts.getD k []) := by rw [List.getD_eq_getElem?_getD, List.getElem?_eq_getElem hk]; rfl
  obtain ⟨tok, tl⟩ := hK.tb _ (mem_at etb)
  generalize ts.getD k [] = T at etb tok tl ⊢
  have s1 : R.s < (T.length : Int) := by rw [tl]; exact ro.s1
  have t1 : R.t < (T.length : Int) := by rw [tl]; exact ro.t1
  obtain ⟨a, ha, ea, _⟩ := tb_at ro.s0 s1
  obtain ⟨b, hb, eb, _⟩ := tb_at ro.t0 t1
  rw [aim_even etb ea eb] at hS1
  rw [aim_odd etb ea] at hS2
  have la := tok.ln a ha
  have lb := tok.ln b hb
  have hws : ∀ w ∈ R.ws, w.fs.length = 2 * g.nm.length := fun w hw => (ro.wo w hw).ln
  have hd : decide (k = X.1) = decide (X.1 = k) := by rw [Bool.eq_iff_iff, decide_eq_true_iff, decide_eq_true_iff]; omega
  rw [hd] at hS1
  have h2 := hK.tl
  refine ⟨R, ers, ?_, ?_⟩
  · rw [een]
    exact ⟨⟨a, b, ea, eb, carv_of hS1 hws (by show (a.2 ++ b.2.map fun x => 0 - x).length = _; rw [List.length_append, List.length_map]; omega), carv_of hS2 hws (by show (a.2 ++ List.replicate a.2.length 0).length = _; rw [List.length_append, List.length_replicate]; omega)⟩, sh_small hS1, sh_small hS2⟩
  · omega
/-- what the paper's entries come to, told for rows that stand elsewhere -/
theorem en_ok {g : Pg} {r : Rw} {t : Tb} {e : En} {row : Nat} {ts : List Tb} (h : EnIs ts r t e) (hr : g.rs[row]? = some r) (he : e.row = (row : Int)) : EnOk g t row e := by
  obtain ⟨⟨a, b, ea, eb, c1, c2⟩, _, _⟩ := h
  exact ⟨he, r, a, b, hr, ea, eb, c1, c2⟩
section
variable {ts : List Tb} {td : List Td} {ranks : Nat} {g : Pg}
theorem row_enK (k i : Nat) : (enK g td k i).row = (i : Int) := rfl
end
section
variable {ts : List Tb} {td : List Td} {ranks : Nat} {g : Pg}
theorem tab_of (hK : Rkd ts td ranks g) {k : Nat} (hk : k < ts.length) : TbOk 4 g.nm.length (ts.getD k []) ∧ (ts.getD k []).length = g.pm.length := by
  have etb : ts[k]? = some (ts.getD k []) := by rw [List.getD_eq_getElem?_getD, List.getElem?_eq_getElem hk]; rfl
  exact hK.tb _ (mem_at etb)
end
section
variable {ts : List Tb} {td : List Td} {ranks : Nat} {g : Pg}
theorem goes_pap (hK : Rkd ts td ranks g) (hr : ranks ≤ 3) : Goes g (List.range g.rs.length) (papK g ts td) [] := by
  have r10 := hK.ok.rl
  have dl := hK.dl
  have := goes_all (g := g) (left := leftK td) (K := fun k => ⟨ts.getD k [], (leftK td k).map (enK g td k)⟩) (n := ts.length) (fun k hk => ?_) (fun k => by have := left_len td k; omega)
  · rw [left_zero, left_none hK, dl] at this
    exact this
  · obtain ⟨t1, t2⟩ := tab_of hK hk
    have := rk_by (g := g) (is := leftK td k) (nu := fun i => i) (f := enK g td k) ⟨t1, by decide⟩ t2 fun i hi => by
      obtain ⟨r, e1, e2, _⟩ := en_is hK hr hk hi
      exact en_ok e2 e1 rfl
    rw [List.map_id', List.map_id'] at this
    refine ⟨this.1, this.2.trans ?_⟩
    exact left_next td k
end
section
variable {ts : List Tb} {td : List Td} {ranks : Nat} {g : Pg}
theorem pap_len : (papK g ts td).length = ts.length := by unfold papK; rw [List.length_map, List.length_range]
end
theorem ok_L_paper (T : Tx P K mg) : FnG P w K mg base 2 T.f_L_paper T.d_L_paper ["_law_program", "_law_tables", "_law_told"] (spD K sp_L_paper) := by
  have G_L_shares_for := ok_L_shares_for (P := P) (w := w) (base := base) T
  exact fnG_of (k := 1) (t := t_L_paper) T.F_L_paper sc_L_paper len_L_paper
    (fun cdv A outer s H hr => pds_cons (pds_set (i := 3) sc_L_paper.nd rfl (.inl rfl) (pd_listR rfl rfl T.n_list rfl T.n_range (pd_callB call_len cal_len rfl T.n_len (by decide +kernel) (pda_cons (pd_ix ix_seq opd_ix (pd_var 0) (pd_int)) (pda_nil))))) (pds_cons (pds_set (i := 4) sc_L_paper.nd rfl (.inl rfl) (pd_lstM (pda_nil))) (pds_cons (pds_for (vs := [5, 6]) rfl (pdi_enum rfl T.n_enumerate (pda_cons (pd_var 1) (pda_nil))) (pg_tup rfl (pgs_cons (pg_name (i := 5) sc_L_paper.nd rfl (.inr rfl)) (pgs_cons (pg_name (i := 6) sc_L_paper.nd rfl (.inl rfl)) (pgs_nil)))) (tg_tup (tgs_cons (tg_name (i := 5) (by decide)) (tgs_cons (tg_name (i := 6) (by decide)) (tgs_nil) (mon_name (i := 6))) (mon_name (i := 5)))) (pds_cons (pds_set (i := 7) sc_L_paper.nd rfl (.inl rfl) (pd_lstM (pda_nil))) (pds_cons (pds_for (vs := [8]) rfl (pdi_list (pd_var 3)) (pg_name (i := 8) sc_L_paper.nd rfl (.inl rfl)) (tg_name (i := 8) (by decide)) (pds_cons (pds_asg (vs := [9, 10]) (pd_ix ix_seq opd_ix (pd_var 2) (pd_var 8)) (pg_tup rfl (pgs_cons (pg_name (i := 9) sc_L_paper.nd rfl (.inl rfl)) (pgs_cons (pg_name (i := 10) sc_L_paper.nd rfl (.inl rfl)) (pgs_nil)))) (tg_tup (tgs_cons (tg_name (i := 9) (by decide)) (tgs_cons (tg_name (i := 10) (by decide)) (tgs_nil) (mon_name (i := 10))) (mon_name (i := 9))))) (pds_cons (pds_set (i := 11) sc_L_paper.nd rfl (.inl rfl) (pd_ix ix_seq opd_ix (pd_ix ix_seq opd_ix (pd_ix ix_seq opd_ix (pd_var 0) (pd_int)) (pd_var 8)) (pd_int))) (pds_cons (pds_set (i := 12) sc_L_paper.nd rfl (.inl rfl) (pd_call G_L_shares_for (hr.mono (by decide)) rfl T.g_L_shares_for T.F_L_shares_for.kp T.b_L_shares_for_2 (pda_cons (pd_var 11) (pda_cons (pd_ix ix_seq opd_ix (pd_var 10) (pd_op op_mulA opd_mul (pd_int) (pd_var 5))) (pda_nil))))) (pds_one (pds_expr (pd_append (pd_var 7) (pda_cons (pd_tup (pda_cons (pd_var 8) (pda_cons (pd_cmp (op_eqF hr.r.units) opd_eq (pd_var 9) (pd_var 5)) (pda_cons (pd_var 12) (pda_cons (pd_call G_L_shares_for (hr.mono (by decide)) rfl T.g_L_shares_for T.F_L_shares_for.kp T.b_L_shares_for_2 (pda_cons (pd_var 11) (pda_cons (pd_ix ix_seq opd_ix (pd_var 10) (pd_op op_addD opd_add (pd_op op_mulA opd_mul (pd_int) (pd_var 5)) (pd_int))) (pda_nil)))) (pda_nil)))))) (pda_nil))))))))) (pds_cons (pds_expr (pd_append (pd_var 4) (pda_cons (pd_tup (pda_cons (pd_lc (own := [("_law_line_here", 13)]) rfl sc_L_paper.nd (pdi_list (pd_var 6)) (blkOk_by (own := [("_law_line_here", 13)]) (by kernel_rfl)) (fun _ _ _ _ _ => pg_name (i := 13) sc_L_paper.nd rfl (by first | exact .inl rfl | exact .inr rfl)) (tg_name (i := 13) (by decide)) (mon_name (i := 13)) (fun _ _ _ _ _ => pdts_nil) (fun _ _ _ _ _ => pd_callTy call_list_of cal_list rfl T.n_list (by decide +kernel) (pda_cons (pd_var 13) (pda_nil)))) (pda_cons (pd_frz (pd_var 7)) (pda_nil)))) (pda_nil)))) (pds_one (pds_setLc (i := 3) (own := [("_law_row_here", 8)]) rfl sc_L_paper.nd rfl rfl (sw_true rfl rfl rfl (by decide +kernel)) (pdi_list (pd_var 3)) (blkOk_by (own := [("_law_row_here", 8)]) (by kernel_rfl)) (fun _ _ _ _ _ => pg_name (i := 8) sc_L_paper.nd rfl (by first | exact .inl rfl | exact .inr rfl)) (tg_name (i := 8) (by decide)) (mon_name (i := 8)) (fun _ _ _ _ _ => pdts_one (pdt_cmp (op_neF hr.r.units) opd_ne (pd_ix ix_seq opd_ix (pd_ix ix_seq opd_ix (pd_var 2) (pd_var 8)) (pd_int)) (pd_var 5))) (fun _ _ _ _ _ => pd_var 8))))))) (pds_one (pds_ret (pd_frz (pd_var 4)))))))
    sem_L_paper
def sp_L_is_whole : FS := fun ds ms P => match ds with
  | [d] => (∃ a, tyD d = some a) ∧ P (.bl (isW d)) ms
  | _ => False
theorem len_L_is_whole : ∀ ds ms Q, sp_L_is_whole ds ms Q → ds.length = 1 := fun ds ms Q h => by
  unfold sp_L_is_whole at h
  split at h <;> first | rfl | exact h.elim
def t_L_is_whole : DTS := dRet (dAndV (dIsi .int (dVar 0)) (dNotV (dIsi .bool (dVar 0))))
theorem sem_L_is_whole : ∀ ds ms Q, sp_L_is_whole ds ms Q → t_L_is_whole { nx := fun _ m => Q .non m, rt := Q } (startD 1 ds) ms := by
  intro ds ms Q h
  unfold sp_L_is_whole at h
  split at h
  · unfold t_L_is_whole
    exact whole_sem h
  · exact h.elim
theorem ok_L_is_whole (T : Tx P K mg) : FnG P w K mg base 1 T.f_L_is_whole T.d_L_is_whole ["_law_thing"] (spD K sp_L_is_whole) := by
  exact fnG_of (k := 0) (t := t_L_is_whole) T.F_L_is_whole sc_L_is_whole len_L_is_whole
    (fun cdv A outer s H hr => pds_one (pds_ret (pd_and (pd_isi .int (by decide) rfl T.n_isinstance rfl T.n_int (by decide +kernel) (by decide) (by decide) (pd_var 0)) (pd_one (pd_not (pd_isi .bool (by decide) rfl T.n_isinstance rfl T.n_bool (by decide +kernel) (by decide) (by decide) (pd_var 0)))))))
    sem_L_is_whole
theorem low_self {a b : Int} (hb : 1 ≤ b) : eqD (fr (lowT a b)) (.tup [.int a, .int b]) = decide (Int.gcd a b = 1) := by
  show (((lowT a b).1 == a) && (((lowT a b).2 == b) && true)) = _
  have hs : sgcd a b = (Int.gcd a b : Int) := by unfold sgcd; rw [if_neg (by omega)]
  by_cases hg : Int.gcd a b = 1
  · rw [decide_eq_true hg]
    have e : lowT a b = (a, b) := by unfold lowT; rw [hs, hg]; simp
    rw [e]
    simp
  · rw [decide_eq_false hg]
    obtain ⟨x, y, e, f1, f2, p, _, _⟩ := lowT_spec (a := a) (show b ≠ 0 by omega)
    rw [e]
    have : ¬ y = b := fun hy => by
      subst hy
      rw [hs] at f2
      have h1 : (1 : Int) * y = (Int.gcd a y : Int) * y := by rw [Int.one_mul]; exact f2
      have h2 := Int.eq_of_mul_eq_mul_right (show y ≠ 0 by omega) h1
      omega
    have e2 : (y == b) = false := by simp [this]
    show ((x == a) && ((y == b) && true)) = false
    rw [e2]
    simp
def sp_L_is_fraction : FS := fun ds ms P => match ds with
  | [d] => OkF d ∧ P (.bl (isF d)) ms
  | _ => False
theorem len_L_is_fraction : ∀ ds ms Q, sp_L_is_fraction ds ms Q → ds.length = 1 := fun ds ms Q h => by
  unfold sp_L_is_fraction at h
  split at h <;> first | rfl | exact h.elim
def t_L_is_fraction : DTS := dSeq (dIfS (dOr (dNot (dTest (dIsi .tuple (dVar 0)))) (dTest (dOp fNe (dCB cLen (aCons (dVar 0) (aNil))) (dC (.int 2))))) (dRet (dC (.bl false))) (dNext)) (dSeq (dFor (iTupD (dVar 0)) (sName 1) (dIfS (dOr (dNot (dTest (dIsi .int (dVar 1)))) (dTest (dIsi .bool (dVar 1)))) (dRet (dC (.bl false))) (dNext))) (dRet (dAndV (dOp fGt (dOp fIx (dVar 0) (dC (.int 1))) (dC (.int 0))) (dOp fEq (dCall 2 0 [0, 1] sp_L_low (aCons (dOp fIx (dVar 0) (dC (.int 0))) (aCons (dOp fIx (dVar 0) (dC (.int 1))) (aNil))) (aNil)) (dVar 0)))))
theorem isF_l {ys : List D} (h : ys.length ≠ 2) : isF (.tup ys) = false := by
  match ys, h with
  | [], _ => rfl
  | [x], _ => cases x <;> rfl
  | [_, _], h => exact absurd rfl h
  | x :: y :: z :: r, _ => cases x <;> cases y <;> rfl
theorem sem_L_is_fraction : ∀ ds ms Q, sp_L_is_fraction ds ms Q → t_L_is_fraction { nx := fun _ m => Q .non m, rt := Q } (startD 2 ds) ms := by
  intro ds ms Q h
  unfold sp_L_is_fraction at h
  split at h
  · rename_i d
    obtain ⟨ok, h⟩ := h
    obtain ⟨a, e⟩ := ok.ty
    simp only [startD]
    unfold t_L_is_fraction
    walk_at "st"
    cases d with
    | tup ys =>
      walk_at "st"
      by_cases h2 : ys.length ≠ 2
      · refine w_iteT (by rw [Bool.not_eq_true', beq_eq_false_iff_ne]; omega) ?_
        walk_at "st"
        rw [isF_l h2] at h
        exact h
      have h2 : ys.length = 2 := by omega
      refine w_iteF (by rw [h2]; rfl) ?_
      match ys, h2 with
      | [x, y], _ =>
      obtain ⟨tx, ty⟩ := ok.two x y rfl
      walk_at "st"
      refine loop_allD isW (fun ds => ∃ x1, ds = [some (.tup [x, y]), x1]) [x, y] _ ⟨_, rfl⟩ ?_ (fun z ds hI => ?_) (fun z => ?_)
      · rintro z hz ds ⟨x1, rfl⟩ G hG hR
        have hz : ∃ a, tyD z = some a := by
          simp only [List.mem_cons, List.not_mem_nil, or_false] at hz
          rcases hz with rfl | rfl
          · exact tx
          · exact ty
        obtain ⟨b, hz⟩ := hz
        walk_at "st"
        cases z with
        | int i =>
          walk_at "st"
          exact hG rfl _ ⟨_, rfl⟩
        | _ => cases hz <;> (walk_at "st"; exact hR rfl)
      · obtain ⟨x1, rfl⟩ := hI
        have hx : isW x = true := List.all_eq_true.mp z x (by simp)
        have hy : isW y = true := List.all_eq_true.mp z y (by simp)
        cases x <;> cases hx
        cases y <;> cases hy
        rename_i a b _
        have hbd := ok.bd a b rfl
        have e : isF (.tup [.int a, .int b]) = (decide (1 ≤ b) && decide (Int.gcd a b = 1)) := rfl
        rw [e] at h
        walk_at "st"
        by_cases hb : 0 < b
        · rw [decide_eq_true hb]
          walk_at "st"
          refine ⟨by omega, hbd.mono (by decide), ?_⟩
          walk_at "st"
          refine (show ShD _ ∧ ShD _ ∧ _ from ⟨⟨_, rfl, rfl⟩, ⟨_, rfl, rfl⟩, ?_⟩)
          rw [low_self (by omega)]
          rw [decide_eq_true (show 1 ≤ b by omega), Bool.true_and] at h
          exact h
        · rw [decide_eq_false hb]
          walk_at "st"
          rw [decide_eq_false (show ¬ 1 ≤ b by omega), Bool.false_and] at h
          exact h
      · have : isF (.tup [x, y]) = false := by
          by_cases hx : isW x = true
          · by_cases hy : isW y = true
            · rw [List.all_cons, List.all_cons, List.all_nil, hx, hy] at z
              cases z
            · exact isF_n (.inr (by simpa using hy))
          · exact isF_n (.inl (by simpa using hx))
        rw [this] at h
        exact h
    | _ => cases e <;> (walk_at "st"; exact h)
  · exact h.elim
theorem ok_L_is_fraction (T : Tx P K mg) : FnG P w K mg base 2 T.f_L_is_fraction T.d_L_is_fraction ["_law_thing"] (spD K sp_L_is_fraction) := by
  have G_L_low := ok_L_low (P := P) (w := w) (base := base) T
  exact fnG_of (k := 1) (t := t_L_is_fraction) T.F_L_is_fraction sc_L_is_fraction len_L_is_fraction
    (fun cdv A outer s H hr => pds_cons (pds_if (pdt_w (pdw_or (pdt_not (pdt_val (pd_isi .tuple (by decide) rfl T.n_isinstance rfl T.n_tuple (by decide +kernel) (by decide) (by decide) (pd_var 0)))) (pdw_or1 (pdt_cmp (op_neF hr.r.units) opd_ne (pd_callB call_len cal_len rfl T.n_len (by decide +kernel) (pda_cons (pd_var 0) (pda_nil))) (pd_int))))) (pds_one (pds_ret (pd_bl))) (pds_nil)) (pds_cons (pds_for (vs := [1]) rfl (pdi_tup (pd_var 0)) (pg_name (i := 1) sc_L_is_fraction.nd rfl (.inl rfl)) (tg_name (i := 1) (by decide)) (pds_one (pds_if (pdt_w (pdw_or (pdt_not (pdt_val (pd_isi .int (by decide) rfl T.n_isinstance rfl T.n_int (by decide +kernel) (by decide) (by decide) (pd_var 1)))) (pdw_or1 (pdt_val (pd_isi .bool (by decide) rfl T.n_isinstance rfl T.n_bool (by decide +kernel) (by decide) (by decide) (pd_var 1)))))) (pds_one (pds_ret (pd_bl))) (pds_nil)))) (pds_one (pds_ret (pd_and (pd_cmp op_gt opd_gt (pd_ix ix_seq opd_ix (pd_var 0) (pd_int)) (pd_int)) (pd_one (pd_cmp (op_eqF hr.r.units) opd_eq (pd_call G_L_low (hr.mono (by decide)) rfl T.g_L_low T.F_L_low.kp T.b_L_low_2 (pda_cons (pd_ix ix_seq opd_ix (pd_var 0) (pd_int)) (pda_cons (pd_ix ix_seq opd_ix (pd_var 0) (pd_int)) (pda_nil)))) (pd_var 0))))))))
    sem_L_is_fraction
def sp_L_are_fractions : FS := fun ds ms P => match ds with
  | [.int n, d] => ∃ N, AnyX N d ∧ N ≤ 4000 ∧ P (.bl (tf (Fra n d))) ms
  | _ => False
theorem len_L_are_fractions : ∀ ds ms Q, sp_L_are_fractions ds ms Q → ds.length = 2 := fun ds ms Q h => by
  unfold sp_L_are_fractions at h
  split at h <;> first | rfl | exact h.elim
def t_L_are_fractions : DTS := dSeq (dIfS (dOr (dNot (dTest (dIsi .list (dVar 1)))) (dTest (dOp fNe (dCB cLen (aCons (dVar 1) (aNil))) (dVar 0)))) (dRet (dC (.bl false))) (dNext)) (dRet (dOp fEq (dLc (iSeq (dVar 1)) (sName 2) (dNot (dTest (dCall 1 0 [0] sp_L_is_fraction (aCons (dVar 2) (aNil)) (aNil)))) (dVar 2) [2]) (dLst (aNil))))
theorem sem_L_are_fractions : ∀ ds ms Q, sp_L_are_fractions ds ms Q → t_L_are_fractions { nx := fun _ m => Q .non m, rt := Q } (startD 3 ds) ms := by
  intro ds ms Q h
  unfold sp_L_are_fractions at h
  split at h
  · rename_i n d
    obtain ⟨N, an, hN, h⟩ := h
    obtain ⟨a, e⟩ := an.ty
    simp only [startD]
    unfold t_L_are_fractions
    walk_at "st"
    cases d with
    | lst xs =>
      obtain ⟨hl, ok⟩ := an.lst
      walk_at "st"
      cases hb : (xs.length : Int) == n with
      | false =>
        refine w_iteT rfl ?_
        walk_at "st"
        refine tf_f h fun ⟨ss, e1, e2, _⟩ => ?_
        injection e1 with e1
        rw [e1, List.length_map, beq_eq_false_iff_ne] at hb
        exact hb e2
      | true =>
        refine w_iteF rfl ?_
        walk_at "st"
        refine comp_filt (fun x => !isF x) (fun x => x) xs [] _ (by rw [List.length_nil]; omega) (fun x hx K L h1 h2 => ?_) ?_
        · walk_at "st"
          refine ⟨(ok x hx).okF hN, ?_⟩
          cases hf : isF x with
          | true =>
            walk_at "st"
            exact h2 (by rw [hf]; rfl)
          | false =>
            walk_at "st"
            exact h1 (by rw [hf]; rfl)
        rw [List.nil_append]
        walk_at "st"
        rw [filt_empty isF xs]
        refine tf_e h ?_
        rw [isFs_iff]
        refine ⟨fun ⟨ss, e1, l⟩ => ⟨ss, by rw [e1], ?_, l⟩, fun ⟨ss, e1, _, l⟩ => ?_⟩
        · have := beq_iff_eq.mp hb
          rw [e1, List.length_map] at this
          exact this
        · injection e1 with e1
          exact ⟨ss, e1, l⟩
    | _ => cases e <;> (walk_at "st"; exact tf_f h fun ⟨_, e1, _⟩ => by cases e1)
  · exact h.elim
theorem ok_L_are_fractions (T : Tx P K mg) : FnG P w K mg base 3 T.f_L_are_fractions T.d_L_are_fractions ["_law_many", "_law_thing"] (spD K sp_L_are_fractions) := by
  have G_L_is_fraction := ok_L_is_fraction (P := P) (w := w) (base := base) T
  exact fnG_of (k := 2) (t := t_L_are_fractions) T.F_L_are_fractions sc_L_are_fractions len_L_are_fractions
    (fun cdv A outer s H hr => pds_cons (pds_if (pdt_w (pdw_or (pdt_not (pdt_val (pd_isi .list (by decide) rfl T.n_isinstance rfl T.n_list (by decide +kernel) (by decide) (by decide) (pd_var 1)))) (pdw_or1 (pdt_cmp (op_neF hr.r.units) opd_ne (pd_callB call_len cal_len rfl T.n_len (by decide +kernel) (pda_cons (pd_var 1) (pda_nil))) (pd_var 0))))) (pds_one (pds_ret (pd_bl))) (pds_nil)) (pds_one (pds_ret (pd_cmp (op_eqF hr.r.units) opd_eq (pd_lc (own := [("_law_part", 2)]) rfl sc_L_are_fractions.nd (pdi_list (pd_var 1)) (blkOk_by (own := [("_law_part", 2)]) (by kernel_rfl)) (fun _ _ _ _ _ => pg_name (i := 2) sc_L_are_fractions.nd rfl (by first | exact .inl rfl | exact .inr rfl)) (tg_name (i := 2) (by decide)) (mon_name (i := 2)) (fun _ _ _ _ _ => pdts_one (pdt_not (pdt_val (pd_call G_L_is_fraction (hr.mono (by decide)) rfl T.g_L_is_fraction T.F_L_is_fraction.kp T.b_L_is_fraction_1 (pda_cons (pd_var 2) (pda_nil)))))) (fun _ _ _ _ _ => pd_var 2)) (pd_lst (pda_nil))))))
    sem_L_are_fractions
def sp_L_sum : FS := fun ds ms P => match ds with
  | [.tup [.int a, .int b], .tup [.int c, .int d]] => (b ≠ 0 ∧ d ≠ 0 ∧ Bd 4000 a ∧ Bd 4000 b ∧ Bd 4000 c ∧ Bd 4000 d) ∧ P (fr (addT (a, b) (c, d))) ms
  | _ => False
theorem len_L_sum : ∀ ds ms Q, sp_L_sum ds ms Q → ds.length = 2 := fun ds ms Q h => by
  unfold sp_L_sum at h
  split at h <;> first | rfl | exact h.elim
def t_L_sum : DTS := dRet (dCall 2 0 [0, 1] sp_L_low (aCons (dOp fAdd (dOp fMul (dOp fIx (dVar 0) (dC (.int 0))) (dOp fIx (dVar 1) (dC (.int 1)))) (dOp fMul (dOp fIx (dVar 1) (dC (.int 0))) (dOp fIx (dVar 0) (dC (.int 1))))) (aCons (dOp fMul (dOp fIx (dVar 0) (dC (.int 1))) (dOp fIx (dVar 1) (dC (.int 1)))) (aNil))) (aNil))
theorem sem_L_sum : ∀ ds ms Q, sp_L_sum ds ms Q → t_L_sum { nx := fun _ m => Q .non m, rt := Q } (startD 2 ds) ms := by
  intro ds ms Q h
  unfold sp_L_sum at h
  split at h
  · rename_i a b c d
    obtain ⟨⟨h1, h2, ha, hb, hc, hd⟩, h⟩ := h
    unfold t_L_sum
    walk_at "dl"
    simp only [fIx, atI_0, atI_1]
    unfold sp_L_low
    exact ⟨ha.mulOk hd (by decide) (by decide) (by decide), hc.mulOk hb (by decide) (by decide) (by decide), hb.mulOk hd (by decide) (by decide) (by decide), Int.mul_ne_zero h1 h2, hb.mul hd, h⟩
  · exact h.elim
theorem ok_L_sum (T : Tx P K mg) : FnG P w K mg base 2 T.f_L_sum T.d_L_sum ["_law_one", "_law_two"] (spD K sp_L_sum) := by
  have G_L_low := ok_L_low (P := P) (w := w) (base := base) T
  exact fnG_of (k := 1) (t := t_L_sum) T.F_L_sum sc_L_sum len_L_sum
    (fun cdv A outer s H hr => pds_one (pds_ret (pd_call G_L_low (hr.mono (by decide)) rfl T.g_L_low T.F_L_low.kp T.b_L_low_2 (pda_cons (pd_op op_addD opd_add (pd_op op_mulA opd_mul (pd_ix ix_seq opd_ix (pd_var 0) (pd_int)) (pd_ix ix_seq opd_ix (pd_var 1) (pd_int))) (pd_op op_mulA opd_mul (pd_ix ix_seq opd_ix (pd_var 1) (pd_int)) (pd_ix ix_seq opd_ix (pd_var 0) (pd_int)))) (pda_cons (pd_op op_mulA opd_mul (pd_ix ix_seq opd_ix (pd_var 0) (pd_int)) (pd_ix ix_seq opd_ix (pd_var 1) (pd_int))) (pda_nil))))))
    sem_L_sum
def sp_L_product : FS := fun ds ms P => match ds with
  | [.tup [.int a, .int b], .tup [.int c, .int d]] => (b ≠ 0 ∧ d ≠ 0 ∧ Bd 4000 a ∧ Bd 4000 b ∧ Bd 4000 c ∧ Bd 4000 d) ∧ P (fr (mulT (a, b) (c, d))) ms
  | _ => False
theorem len_L_product : ∀ ds ms Q, sp_L_product ds ms Q → ds.length = 2 := fun ds ms Q h => by
  unfold sp_L_product at h
  split at h <;> first | rfl | exact h.elim
def t_L_product : DTS := dRet (dCall 2 0 [0, 1] sp_L_low (aCons (dOp fMul (dOp fIx (dVar 0) (dC (.int 0))) (dOp fIx (dVar 1) (dC (.int 0)))) (aCons (dOp fMul (dOp fIx (dVar 0) (dC (.int 1))) (dOp fIx (dVar 1) (dC (.int 1)))) (aNil))) (aNil))
theorem sem_L_product : ∀ ds ms Q, sp_L_product ds ms Q → t_L_product { nx := fun _ m => Q .non m, rt := Q } (startD 2 ds) ms := by
  intro ds ms Q h
  unfold sp_L_product at h
  split at h
  · rename_i a b c d
    obtain ⟨⟨h1, h2, ha, hb, hc, hd⟩, h⟩ := h
    unfold t_L_product
    walk_at "dl"
    simp only [fIx, atI_0, atI_1]
    unfold sp_L_low
    exact ⟨ha.mulOk hc (by decide) (by decide) (by decide), hb.mulOk hd (by decide) (by decide) (by decide), Int.mul_ne_zero h1 h2, hb.mul hd, h⟩
  · exact h.elim
theorem ok_L_product (T : Tx P K mg) : FnG P w K mg base 2 T.f_L_product T.d_L_product ["_law_one", "_law_two"] (spD K sp_L_product) := by
  have G_L_low := ok_L_low (P := P) (w := w) (base := base) T
  exact fnG_of (k := 1) (t := t_L_product) T.F_L_product sc_L_product len_L_product
    (fun cdv A outer s H hr => pds_one (pds_ret (pd_call G_L_low (hr.mono (by decide)) rfl T.g_L_low T.F_L_low.kp T.b_L_low_2 (pda_cons (pd_op op_mulA opd_mul (pd_ix ix_seq opd_ix (pd_var 0) (pd_int)) (pd_ix ix_seq opd_ix (pd_var 1) (pd_int))) (pda_cons (pd_op op_mulA opd_mul (pd_ix ix_seq opd_ix (pd_var 0) (pd_int)) (pd_ix ix_seq opd_ix (pd_var 1) (pd_int))) (pda_nil))))))
    sem_L_product
def sp_L_carried : FS := fun ds ms P => match ds with
  | [.lst zs, .lst ys, d] => ∃ (ws : List Wi) (l : Int) (fs : List Int) (N : Nat), zs = ws.map wiD ∧ ys = .int l :: fs.map D.int ∧ CFit ws l fs N ∧ AnyX N d ∧ ws.length ≤ 1000 ∧ P (.bl (tf (IsCar ws (l, fs) d))) ms
  | _ => False
theorem len_L_carried : ∀ ds ms Q, sp_L_carried ds ms Q → ds.length = 3 := fun ds ms Q h => by
  unfold sp_L_carried at h
  split at h <;> first | rfl | exact h.elim
def t_L_carried_c2 : DTS := dAsg (dLc (iZipD (aCons (dVar 3) (aCons (dVar 5) (aNil)))) (sTup 2 (sCons (sName 8) (sCons (sName 9) (sNil)))) (dYes) (dCall 2 0 [0, 1] sp_L_sum (aCons (dVar 8) (aCons (dCall 2 0 [0, 1] sp_L_product (aCons (dVar 6) (aCons (dTup (aCons (dVar 9) (aCons (dC (.int 1)) (aNil)))) (aNil))) (aNil)) (aNil))) (aNil)) [8, 9]) (sName 3)
def t_L_carried_c1 : DTS := dSeq (dAsg (dCall 2 0 [0, 1] sp_L_sum (aCons (dTup (aCons (dOp fIx (dVar 1) (dC (.int 0))) (aCons (dC (.int 1)) (aNil)))) (aCons (dTup (aCons (dOp fSub (dC (.int 0)) (dOp fIx (dOp fIx (dVar 3) (dC (.int 0))) (dC (.int 0)))) (aCons (dOp fIx (dOp fIx (dVar 3) (dC (.int 0))) (dC (.int 1))) (aNil)))) (aNil))) (aNil)) (sName 7)) (dRet (dAndV (dOp fGe (dOp fIx (dVar 7) (dC (.int 0))) (dC (.int 0))) (dOp fEq (dSl (dVar 3) (oSome (dC (.int 1))) (oNone)) (dLc (iSeq (dSl (dVar 1) (oSome (dC (.int 1))) (oNone))) (sName 9) (dYes) (dTup (aCons (dVar 9) (aCons (dC (.int 1)) (aNil)))) [9]))))
def t_L_carried : DTS := dSeq (dIfS (dNot (dTest (dCall 2 0 [0, 1] sp_L_are_fractions (aCons (dCB cLen (aCons (dVar 0) (aNil))) (aCons (dVar 2) (aNil))) (aNil)))) (dRet (dC (.bl false))) (dNext)) (dSeq (dAsg (dOp fMul (dLst (aCons (dTup (aCons (dC (.int 0)) (aCons (dC (.int 1)) (aNil)))) (aNil))) (dCB cLen (aCons (dVar 1) (aNil)))) (sName 3)) (dSeq (dFor (iZipD (aCons (dVar 0) (aCons (dVar 2) (aNil)))) (sTup 2 (sCons (sTup 2 (sCons (sName 4) (sCons (sName 5) (sNil)))) (sCons (sName 6) (sNil)))) (dSeq (dIfS (dAnd (dTest (dOp fEq (dVar 4) (dC (.str "least")))) (dTest (dOp fLt (dOp fIx (dVar 6) (dC (.int 0))) (dC (.int 0))))) (dRet (dC (.bl false))) (dNext)) (t_L_carried_c2))) (t_L_carried_c1)))
theorem mul_turn (p q : Int × Int) : mulT p q = mulT q p := by unfold mulT; rw [Int.mul_comm p.1, Int.mul_comm p.2]
theorem rep_frs (n : Nat) (t : Int × Int) : (List.replicate n [fr t]).flatten = (List.replicate n t).map fr := by
  rw [List.map_replicate]
  induction n with
  | zero => rfl
  | succ n ih => rw [List.replicate_succ, List.flatten_cons, ih, List.replicate_succ]; rfl
theorem lcar_loop {L N : Nat} (hLN : L + N + 1 ≤ 3900) {tb : DTS} {E : EN} {ms : MS} {x0 x1 x2 : Option D}
    (htb : ∀ (w : Wi) (s : Int × Int) (t : List (Int × Int)) (A B : Nat) (G : DS → MS → Prop) (y7 y8 y9 : Option D), (∀ x ∈ w.ls, Bd L x) → FB N N s → (∀ u ∈ t, FB A B u) → t.length ≤ 100 → A ≤ 3900 → B ≤ 3900 → (w.j = false → s.1 < 0 → E.rt (.bl false) ms) →
      ((w.j = false → 0 ≤ s.1) → ∀ y7 y8 y9, G [x0, x1, x2, some (.lst ((List.zipWith (fun u n => addT u (mulT (n, 1) s)) t w.ls).map fr)), some (wdD w.j), some (.lst (w.ls.map D.int)), some (fr s), y7, y8, y9] ms) →
      tb (EN.lp E G) [x0, x1, x2, some (.lst (t.map fr)), some (wdD w.j), some (.lst (w.ls.map D.int)), some (fr s), y7, y8, y9] ms) :
    ∀ (ws : List Wi) (ss : List (Int × Int)) (t : List (Int × Int)) (A B : Nat) (x4 x5 x6 x7 x8 x9 : Option D), (∀ w ∈ ws, ∀ x ∈ w.ls, Bd L x) → (∀ s ∈ ss, FB N N s) → (∀ u ∈ t, FB A B u) → t.length ≤ 100 → L + B ≤ A + 1 → A + (N + 2) * ws.length ≤ 3890 →
      ((∃ p ∈ ws.zip ss, p.1.j = false ∧ p.2.1 < 0) → E.rt (.bl false) ms) →
      ((∀ p ∈ ws.zip ss, p.1.j = false → 0 ≤ p.2.1) → ∀ x4 x5 x6 x7 x8 x9, E.nx [x0, x1, x2, some (.lst ((totL t (ws.map Wi.ls) ss).map fr)), x4, x5, x6, x7, x8, x9] ms) →
      loopD (sTup 2 (sCons (sTup 2 (sCons (sName 4) (sCons (sName 5) sNil))) (sCons (sName 6) sNil))) tb E (zipD (ws.map wiD) (ss.map fr)) [x0, x1, x2, some (.lst (t.map fr)), x4, x5, x6, x7, x8, x9] ms
  | [], ss, t, A, B, x4, x5, x6, x7, x8, x9, _, _, _, _, _, _, _, q => by
    have e : zipD (([] : List Wi).map wiD) (ss.map fr) = [] := by cases ss <;> rfl
    have e2 : totL t (([] : List Wi).map Wi.ls) ss = t := by cases ss <;> rfl
    rw [e2] at q
    rw [e]
    exact w_loopN (q (fun p hp => by cases hp) _ _ _ _ _ _)
  | w :: ws, [], t, A, B, x4, x5, x6, x7, x8, x9, _, _, _, _, _, _, _, q => w_loopN (q (fun p hp => by cases hp) _ _ _ _ _ _)
  | w :: ws, s :: ss, t, A, B, x4, x5, x6, x7, x8, x9, hw, hs, ht, hl, hN, hM, r, q => by
    rw [List.length_cons, Nat.mul_succ] at hM
    show loopD _ _ _ (.tup [wiD w, fr s] :: zipD (ws.map wiD) (ss.map fr)) _ _
    refine w_loopC ?_
    simp only [wiD_ls]
    walk_at "st"
    have hw0 := hw w List.mem_cons_self
    have hs0 := hs s List.mem_cons_self
    refine htb w s t A B _ _ _ _ hw0 hs0 ht hl (by omega) (by omega) (fun h1 h2 => r ⟨(w, s), List.mem_cons_self, h1, h2⟩) fun ok y7 y8 y9 => ?_
    walk_at "st"
    refine lcar_loop hLN htb ws ss _ (A + N + 2) (B + N + 1) _ _ _ _ _ _ (fun x hx => hw x (List.mem_cons_of_mem _ hx)) (fun x hx => hs x (List.mem_cons_of_mem _ hx)) (fun u hu => ?_) ?_ (by omega) (by omega) (fun ⟨p, hp, h⟩ => r ⟨p, List.mem_cons_of_mem _ hp, h⟩) (fun h => q fun p hp => ?_)
    · obtain ⟨i, hi, e⟩ := List.mem_iff_getElem.mp hu
      rw [List.getElem_zipWith] at e
      rw [← e]
      rw [List.length_zipWith] at hi
      have h1 := fb_mul (fb_int (hw0 (w.ls[i]'(by omega)) (List.getElem_mem _))) hs0
      exact (fb_add (k := A + N + 1) (ht (t[i]'(by omega)) (List.getElem_mem _)) h1 (by omega) (by omega)).mono (by omega) (by omega)
    · rw [List.length_zipWith]; omega
    · rcases List.mem_cons.mp hp with rfl | hp
      · exact ok
      · exact h p hp
theorem lcar_step {L N A B : Nat} (hLN : L + N + 1 ≤ 3900) {E : EN} {G : DS → MS → Prop} {ms : MS} {x0 x1 x2 x4 x7 x8 x9 : Option D} {w : Wi} {s : Int × Int} {t : List (Int × Int)} (hw : ∀ x ∈ w.ls, Bd L x) (hs : FB N N s) (ht : ∀ u ∈ t, FB A B u) (hl : t.length ≤ 100) (hN : A ≤ 3900) (hM : B ≤ 3900)
    (q : ∀ y7 y8 y9, G [x0, x1, x2, some (.lst ((List.zipWith (fun u n => addT u (mulT (n, 1) s)) t w.ls).map fr)), x4, some (.lst (w.ls.map D.int)), some (fr s), y7, y8, y9] ms) :
    t_L_carried_c2 (EN.lp E G) [x0, x1, x2, some (.lst (t.map fr)), x4, some (.lst (w.ls.map D.int)), some (fr s), x7, x8, x9] ms := by
  unfold t_L_carried_c2
  walk_at "st"
  rw [zipD_mp]
  have ez : (List.zipWith (fun u n => addT u (mulT (n, 1) s)) t w.ls).map fr = ((t.zip w.ls).map fun p => D.tup [fr p.1, D.int p.2]).map (stepD s) := by
    rw [List.map_map, List.map_zipWith, ← List.map_uncurry_zip_eq_zipWith]
    rfl
  simp only [wipeD, List.set]
  refine comp_pure (stepD s) _ [] _ (by simp only [List.length_nil, List.length_map, List.length_zip]; omega) (fun x hx P0 q0 => ?_) ?_
  · obtain ⟨⟨⟨a, b⟩, n⟩, hp, rfl⟩ := List.mem_map.mp hx
    have hu := ht _ (List.of_mem_zip hp).1
    have hn := hw _ (List.of_mem_zip hp).2
    obtain ⟨s1, s2⟩ := s
    have h1 := fb_mul (fb_int hn) hs
    have b1 : Bd 4000 1 := (show Bd 1 (1 : Int) by unfold Bd; decide).mono (by decide)
    have q0 : P0 (fr (addT (a, b) (mulT (s1, s2) (n, 1)))) ms := by rw [mul_turn]; exact q0
    have h1' : FB (L + N) (1 + N) (mulT (s1, s2) (n, 1)) := by rw [mul_turn]; exact h1
    simp only [fr] at q0 ⊢
    walk_at "st"
    refine ⟨⟨hs.ne, by decide, hs.top.mono (by omega), hs.bot.mono (by omega), hn.mono (by omega), b1⟩, ?_⟩
    simp only [fr]
    walk_at "st"
    exact ⟨⟨hu.ne, h1'.ne, hu.top.mono (by omega), hu.bot.mono (by omega), h1'.top.mono (by omega), h1'.bot.mono (by omega)⟩, q0⟩
  · rw [List.nil_append, ← ez]
    walk_at "st"
    exact q _ _ _
/-- the plain number's rest is not below nought -/
theorem rest_sign {l a b : Int} (hb : 0 < b) : decide (0 ≤ (addT (l, 1) (0 - a, b)).1) = decide (a ≤ l * b) := by
  have e : addT (l, 1) (0 - a, b) = lowT (l * b + (0 - a) * 1) (1 * b) := rfl
  have k := low_low (a := l * b + (0 - a) * 1) (b := 1 * b) (by rw [Int.one_mul]; omega)
  have v1 := val_low (a := l * b + (0 - a) * 1) (b := 1 * b) (by rw [Int.one_mul]; omega)
  have s1 := val_nonneg (p := lowT (l * b + (0 - a) * 1) (1 * b)) k.pos
  have s2 := val_nonneg (p := (l * b + (0 - a) * 1, 1 * b)) (by rw [Int.one_mul]; exact hb)
  rw [v1] at s1
  rw [e, Bool.eq_iff_iff, decide_eq_true_iff, decide_eq_true_iff]
  have : 0 ≤ l * b + (0 - a) * 1 ↔ a ≤ l * b := by omega
  rw [← this]
  exact s1.symm.trans s2
theorem sem_L_carried : ∀ ds ms Q, sp_L_carried ds ms Q → t_L_carried { nx := fun _ m => Q .non m, rt := Q } (startD 10 ds) ms := by
  intro ds ms Q h
  unfold sp_L_carried at h
  split at h
  · rename_i zs ys d
    obtain ⟨ws, l, fs, N, rfl, rfl, hF, an, wl, h⟩ := h
    obtain ⟨L, hw, hl0, hb⟩ := hF.ex
    have hf0 := hF.f0
    simp only [startD]
    unfold t_L_carried
    walk_at "st"
    rw [List.length_map]
    refine ⟨N, an, by omega, ?_⟩
    cases hs : tf (Fra (ws.length : Int) d) with
    | false =>
      walk_at "st"
      refine tf_f h fun ⟨ss, e, c⟩ => ?_
      rw [tf_yes ⟨ss, e, by have := c.ln; omega, c.lo⟩] at hs
      cases hs
    | true =>
    obtain ⟨ss, rfl, sl, lo⟩ := tf_iff.mp hs
    have sl : ss.length = ws.length := by omega
    have fs' := any_fbs an lo
    have hlen : ∀ l ∈ ws.map Wi.ls, l.length = fs.length + 1 := fun l hl => by
      obtain ⟨w, hw, rfl⟩ := List.mem_map.mp hl
      show w.fs.length + 1 = _
      rw [hF.wl w hw]
    have hbd := mem_totL (L := L) (N := N) (n := fs.length + 1) (by omega) (fun l hl => by obtain ⟨w, hw', rfl⟩ := List.mem_map.mp hl; exact hw w hw') hlen fs' (by rw [List.length_map]; exact hb)
    have htl := totL_len (ws.map Wi.ls) ss (List.replicate (fs.length + 1) (0, 1)) _ (List.length_replicate ..) hlen
    have ci := car_iff (ls := (l, fs)) (fun w h => hF.wl w h) lo
    walk_at "st"
    rw [show ((D.int l :: fs.map D.int).length : Int) = ((fs.length + 1 : Nat) : Int) by simp]
    refine ⟨⟨by omega, by omega, Nat.le_trans (show 1 * _ ≤ 1000 by rw [Int.toNat_natCast]; omega) (by decide)⟩, ?_⟩
    rw [Int.toNat_natCast, show (List.replicate (fs.length + 1) [D.tup [.int 0, .int 1]]).flatten = (List.replicate (fs.length + 1) ((0 : Int), (1 : Int))).map fr from rep_frs _ (0, 1)]
    walk_at "st"
    refine lcar_loop (L := L) (N := N) (by omega) (fun w s t A B G y7 y8 y9 hw hs ht hl hN hM hr q => ?_) ws ss _ (L + 1) 1 _ _ _ _ _ _ hw fs' (fun u hu => ?_) (by rw [List.length_replicate]; omega) (by omega) (by omega) ?_ ?_
    · obtain ⟨jb, wl0, wfs⟩ := w
      obtain ⟨s1, s2⟩ := s
      simp only [wdD]
      walk_at "st"
      cases jb with
      | true =>
        refine w_iteF (by rw [if_pos rfl]; decide +kernel) ?_
        walk_at "st"
        exact lcar_step (w := ⟨true, wl0, wfs⟩) (by omega) hw hs ht hl hN hM (q fun z => by cases z)
      | false =>
        refine w_iteT (by rw [if_neg (by decide)]; decide +kernel) ?_
        simp only [fr]
        walk_at "st"
        by_cases z : s1 < 0
        · rw [decide_eq_true z]
          walk_at "st"
          exact hr rfl z
        · rw [decide_eq_false z]
          walk_at "st"
          exact lcar_step (w := ⟨false, wl0, wfs⟩) (s := (s1, s2)) (by omega) hw hs ht hl hN hM (q fun _ => by show 0 ≤ s1; omega)
    · rw [List.eq_of_mem_replicate hu]
      exact (fb_int (n := 1) (by unfold Bd; decide)).mono (by omega) (by decide)
    · rintro ⟨p, hp, h1, h2⟩
      walk_at "st"
      refine tf_f h fun ⟨ts, e, c⟩ => ?_
      injection e with e
      have := frs_inj e
      subst this
      have := c.sg p hp h1
      omega
    · intro sg x4 x5 x6 x7 x8 x9
      have gi : IsCar ws (l, fs) (.lst (ss.map fr)) ↔ carT l fs (totL (List.replicate (fs.length + 1) (0, 1)) (ws.map Wi.ls) ss) = true := by
        rw [ci]
        refine ⟨fun ⟨ts, e, c⟩ => ?_, fun c => ⟨ss, rfl, sl, lo, sg, c.1, c.2⟩⟩
        injection e with e
        have := frs_inj e
        subst this
        exact ⟨c.hd, c.tl⟩
      walk_at "st"
      unfold t_L_carried_c1
      generalize totL (List.replicate (fs.length + 1) (0, 1)) (ws.map Wi.ls) ss = ts at gi hbd htl ⊢
      match ts, htl, hbd, gi with
      | [], htl, _, _ => cases htl
      | t :: ts, htl, hbd, gi =>
        have gi : IsCar ws (l, fs) (.lst (ss.map fr)) ↔ (decide (ts = fs.map fun f => (f, 1)) && decide (t.1 ≤ l * t.2)) = true := gi
        have ht := hbd t List.mem_cons_self
        obtain ⟨t1, t2⟩ := t
        rw [List.map_cons]
        simp only [fr]
        walk_at "st"
        refine ⟨⟨by decide, ht.ne, hl0.mono (by omega), (show Bd 1 (1 : Int) by unfold Bd; decide).mono (by decide), ht.top.neg0.mono (by decide), ht.bot.mono (by decide)⟩, ?_⟩
        simp only [fr]
        walk_at "st"
        rw [rest_sign (by have := ht.pos; exact this)]
        cases hd : decide (t1 ≤ l * t2) with
        | false =>
          walk_at "st"
          refine tf_f h fun z => ?_
          have := gi.mp z
          rw [show decide ((t1, t2).1 ≤ l * (t1, t2).2) = false from hd, Bool.and_false] at this
          cases this
        | true =>
          walk_at "st"
          rw [cut_1, cut_1]
          refine comp_pure oneD _ [] _ (by simp only [List.length_nil, List.length_map]; omega) (fun x hx P0 q0 => ?_) ?_
          · obtain ⟨f, hf, rfl⟩ := List.mem_map.mp hx
            walk_at "st"
            exact q0
          have e1 : ([] : List D) ++ (fs.map D.int).map oneD = (fs.map fun f => (f, (1 : Int))).map fr := by
            rw [List.nil_append, List.map_map, List.map_map]; rfl
          rw [e1]
          walk_at "st"
          refine w_eq_frs ?_
          refine tf_e h ?_
          rw [gi, show decide ((t1, t2).1 ≤ l * (t1, t2).2) = true from hd, Bool.and_true]
  · exact h.elim
theorem ok_L_carried (T : Tx P K mg) : FnG P w K mg base 4 T.f_L_carried T.d_L_carried ["_law_wishes", "_law_line_here", "_law_thing"] (spD K sp_L_carried) := by
  have G_L_sum := ok_L_sum (P := P) (w := w) (base := base) T
  have G_L_are_fractions := ok_L_are_fractions (P := P) (w := w) (base := base) T
  have G_L_product := ok_L_product (P := P) (w := w) (base := base) T
  exact fnG_of (k := 3) (t := t_L_carried) T.F_L_carried sc_L_carried len_L_carried
    (fun cdv A outer s H hr => pds_cons (pds_if (pdt_not (pdt_val (pd_call G_L_are_fractions (hr.mono (by decide)) rfl T.g_L_are_fractions T.F_L_are_fractions.kp T.b_L_are_fractions_2 (pda_cons (pd_callB call_len cal_len rfl T.n_len (by decide +kernel) (pda_cons (pd_var 0) (pda_nil))) (pda_cons (pd_var 2) (pda_nil)))))) (pds_one (pds_ret (pd_bl))) (pds_nil)) (pds_cons (pds_set (i := 3) sc_L_carried.nd rfl (.inl rfl) (pd_op op_mulA opd_mul (pd_lst (pda_cons (pd_tup (pda_cons (pd_int) (pda_cons (pd_int) (pda_nil)))) (pda_nil))) (pd_callB call_len cal_len rfl T.n_len (by decide +kernel) (pda_cons (pd_var 1) (pda_nil))))) (pds_cons (pds_for (vs := [6, 4, 5]) rfl (pdi_zip rfl T.n_zip (pda_cons (pd_var 0) (pda_cons (pd_var 2) (pda_nil)))) (pg_tup rfl (pgs_cons (pg_tup rfl (pgs_cons (pg_name (i := 4) sc_L_carried.nd rfl (.inl rfl)) (pgs_cons (pg_name (i := 5) sc_L_carried.nd rfl (.inl rfl)) (pgs_nil)))) (pgs_cons (pg_name (i := 6) sc_L_carried.nd rfl (.inr rfl)) (pgs_nil)))) (tg_tup (tgs_cons (tg_tup (tgs_cons (tg_name (i := 4) (by decide)) (tgs_cons (tg_name (i := 5) (by decide)) (tgs_nil) (mon_name (i := 5))) (mon_name (i := 4)))) (tgs_cons (tg_name (i := 6) (by decide)) (tgs_nil) (mon_name (i := 6))) (mon_tup (mon_cons (mon_name (i := 4)) (mon_cons (mon_name (i := 5)) (mon_nil)))))) (pds_cons (pds_if (pdt_w (pdw_and (pdt_cmp (op_eqF hr.r.units) opd_eq (pd_var 4) (pd_str)) (pdw_and1 (pdt_cmp op_lt opd_lt (pd_ix ix_seq opd_ix (pd_var 6) (pd_int)) (pd_int))))) (pds_one (pds_ret (pd_bl))) (pds_nil)) (pds_one (pds_setLc (i := 3) (own := [("_law_part", 8), ("_law_number", 9)]) rfl sc_L_carried.nd rfl rfl (sw_true rfl rfl rfl (by decide +kernel)) (pdi_zip rfl T.n_zip (pda_cons (pd_var 3) (pda_cons (pd_var 5) (pda_nil)))) (blkOk_by (own := [("_law_part", 8), ("_law_number", 9)]) (by kernel_rfl)) (fun _ _ _ _ _ => pg_tup rfl (pgs_cons (pg_name (i := 8) sc_L_carried.nd rfl (by first | exact .inl rfl | exact .inr rfl)) (pgs_cons (pg_name (i := 9) sc_L_carried.nd rfl (by first | exact .inl rfl | exact .inr rfl)) (pgs_nil)))) (tg_tup (tgs_cons (tg_name (i := 8) (by decide)) (tgs_cons (tg_name (i := 9) (by decide)) (tgs_nil) (mon_name (i := 9))) (mon_name (i := 8)))) (mon_tup (mon_cons (mon_name (i := 8)) (mon_cons (mon_name (i := 9)) (mon_nil)))) (fun _ _ _ _ _ => pdts_nil) (fun _ _ _ _ _ => pd_call G_L_sum (hr.mono (by decide)) rfl T.g_L_sum T.F_L_sum.kp T.b_L_sum_2 (pda_cons (pd_var 8) (pda_cons (pd_call G_L_product (hr.mono (by decide)) rfl T.g_L_product T.F_L_product.kp T.b_L_product_2 (pda_cons (pd_var 6) (pda_cons (pd_tup (pda_cons (pd_var 9) (pda_cons (pd_int) (pda_nil)))) (pda_nil)))) (pda_nil)))))))) (pds_cons (pds_set (i := 7) sc_L_carried.nd rfl (.inl rfl) (pd_call G_L_sum (hr.mono (by decide)) rfl T.g_L_sum T.F_L_sum.kp T.b_L_sum_2 (pda_cons (pd_tup (pda_cons (pd_ix ix_seq opd_ix (pd_var 1) (pd_int)) (pda_cons (pd_int) (pda_nil)))) (pda_cons (pd_tup (pda_cons (pd_op op_sub opd_sub (pd_int) (pd_ix ix_seq opd_ix (pd_ix ix_seq opd_ix (pd_var 3) (pd_int)) (pd_int))) (pda_cons (pd_ix ix_seq opd_ix (pd_ix ix_seq opd_ix (pd_var 3) (pd_int)) (pd_int)) (pda_nil)))) (pda_nil))))) (pds_one (pds_ret (pd_and (pd_cmp op_ge opd_ge (pd_ix ix_seq opd_ix (pd_var 7) (pd_int)) (pd_int)) (pd_one (pd_cmp (op_eqF hr.r.units) opd_eq (pd_slice (pd_var 3) (pdo_some (pd_int)) (pdo_none)) (pd_lc (own := [("_law_number", 9)]) rfl sc_L_carried.nd (pdi_list (pd_slice (pd_var 1) (pdo_some (pd_int)) (pdo_none))) (blkOk_by (own := [("_law_number", 9)]) (by kernel_rfl)) (fun _ _ _ _ _ => pg_name (i := 9) sc_L_carried.nd rfl (by first | exact .inl rfl | exact .inr rfl)) (tg_name (i := 9) (by decide)) (mon_name (i := 9)) (fun _ _ _ _ _ => pdts_nil) (fun _ _ _ _ _ => pd_tup (pda_cons (pd_var 9) (pda_cons (pd_int) (pda_nil))))))))))))))
    sem_L_carried
def sp_L_never_right : FS := fun ds ms P => match ds with
  | [d, x] => ∃ (g : Pg) (B N : Nat), d = pgD g ∧ PgOk B g ∧ AnyX N x ∧ N ≤ 500 ∧ Few B N g ∧ P (.bl (tf (IsNv g x))) ms
  | _ => False
theorem len_L_never_right : ∀ ds ms Q, sp_L_never_right ds ms Q → ds.length = 2 := fun ds ms Q h => by
  unfold sp_L_never_right at h
  split at h <;> first | rfl | exact h.elim
def t_L_never_right : DTS := dSeq (dIfS (dNot (dTest (dIsi .list (dVar 1)))) (dRet (dC (.bl false))) (dNext)) (dSeq (dAsg (dNeg (dC (.int 1))) (sName 2)) (dSeq (dFor (iSeq (dVar 1)) (sName 3) (dSeq (dIfS (dOr (dNot (dTest (dIsi .tuple (dVar 3)))) (dOr (dTest (dOp fNe (dCB cLen (aCons (dVar 3) (aNil))) (dC (.int 2)))) (dNot (dTest (dCall 1 0 [0] sp_L_is_whole (aCons (dOp fIx (dVar 3) (dC (.int 0))) (aNil)) (aNil)))))) (dRet (dC (.bl false))) (dNext)) (dSeq (dIfS (dNot (dTest (dChain fLt fLt (dVar 2) (dOp fIx (dVar 3) (dC (.int 0))) (dCB cLen (aCons (dOp fIx (dVar 0) (dC (.int 2))) (aNil)))))) (dRet (dC (.bl false))) (dNext)) (dSeq (dIfS (dNot (dTest (dCall 3 0 [0, 1, 2] sp_L_carried (aCons (dOp fIx (dOp fIx (dOp fIx (dVar 0) (dC (.int 2))) (dOp fIx (dVar 3) (dC (.int 0)))) (dC (.int 2))) (aCons (dOp fAdd (dLst (aCons (dNeg (dC (.int 1))) (aNil))) (dOp fMul (dLst (aCons (dC (.int 0)) (aNil))) (dOp fMul (dC (.int 2)) (dCB cLen (aCons (dOp fIx (dVar 0) (dC (.int 0))) (aNil)))))) (aCons (dOp fIx (dVar 3) (dC (.int 1))) (aNil)))) (aNil)))) (dRet (dC (.bl false))) (dNext)) (dAsg (dOp fIx (dVar 3) (dC (.int 0))) (sName 2)))))) (dRet (dC (.bl true)))))
/-- never goes on behind a row -/
structure NvFrom (g : Pg) (a : Int) (nv : List (Nat × List (Int × Int))) : Prop where
  ok : NvOk g nv
  up : ∀ p ∈ nv, a < (p.1 : Int)
theorem NvFrom.cons {g : Pg} {a : Int} {k : Nat} {ss : List (Int × Int)} {nv : List (Nat × List (Int × Int))} (h : NvFrom g (k : Int) nv) (ha : a < (k : Int)) {r : Rw} (hr : g.rs[k]? = some r) (c : CarV r.ws (-1, List.replicate (2 * g.nm.length) 0) ss) : NvFrom g a ((k, ss) :: nv) := by
  refine ⟨⟨fun p hp => ?_, ?_, fun p hp => ?_⟩, fun p hp => ?_⟩
  · rcases List.mem_cons.mp hp with rfl | hp
    · exact (List.getElem?_eq_some_iff.mp hr).1
    · exact h.ok.lt p hp
  · rw [List.map_cons, List.pairwise_cons]
    refine ⟨fun j hj => ?_, h.ok.up⟩
    obtain ⟨p, hp, rfl⟩ := List.mem_map.mp hj
    have := h.up p hp
    show k < p.1
    omega
  · rcases List.mem_cons.mp hp with rfl | hp
    · exact ⟨r, hr, c⟩
    · exact h.ok.at_ p hp
  · rcases List.mem_cons.mp hp with rfl | hp
    · exact ha
    · have := h.up p hp; omega
theorem NvFrom.tail {g : Pg} {a : Int} {p : Nat × List (Int × Int)} {nv : List (Nat × List (Int × Int))} (h : NvFrom g a (p :: nv)) : NvFrom g (p.1 : Int) nv ∧ a < (p.1 : Int) ∧ p.1 < g.rs.length ∧ ∃ r, g.rs[p.1]? = some r ∧ CarV r.ws (-1, List.replicate (2 * g.nm.length) 0) p.2 := by
  have up := h.ok.up
  rw [List.map_cons, List.pairwise_cons] at up
  refine ⟨⟨⟨fun q hq => h.ok.lt q (List.mem_cons_of_mem _ hq), up.2, fun q hq => h.ok.at_ q (List.mem_cons_of_mem _ hq)⟩, fun q hq => ?_⟩, h.up p List.mem_cons_self, h.ok.lt p List.mem_cons_self, h.ok.at_ p List.mem_cons_self⟩
  have := up.1 q.1 (List.mem_map_of_mem (f := (·.1)) hq)
  omega
theorem never_loop {tb : DTS} {E : EN} {ms : MS} {x0 x1 : Option D} {g : Pg} {N : Nat}
    (htb : ∀ (a : Int) (x : D) (G : DS → MS → Prop), AnyX N x → -1 ≤ a → (∀ (k : Nat) (ss : List (Int × Int)) (r : Rw), x = nvD (k, ss) → a < (k : Int) → g.rs[k]? = some r → CarV r.ws (-1, List.replicate (2 * g.nm.length) 0) ss → G [x0, x1, some (.int (k : Int)), some x] ms) →
      ((¬ ∃ (k : Nat) (ss : List (Int × Int)) (r : Rw), x = nvD (k, ss) ∧ a < (k : Int) ∧ g.rs[k]? = some r ∧ CarV r.ws (-1, List.replicate (2 * g.nm.length) 0) ss) → E.rt (.bl false) ms) → tb (EN.lp E G) [x0, x1, some (.int a), some x] ms) :
    ∀ (xs : List D) (a : Int) (x3 : Option D), (∀ x ∈ xs, AnyX N x) → -1 ≤ a → ((∃ nv, xs = nv.map nvD ∧ NvFrom g a nv) → ∀ a x3, E.nx [x0, x1, some (.int a), x3] ms) → ((¬ ∃ nv, xs = nv.map nvD ∧ NvFrom g a nv) → E.rt (.bl false) ms) → loopD (sName 3) tb E xs [x0, x1, some (.int a), x3] ms
  | [], a, x3, _, _, q, _ => w_loopN (q ⟨[], rfl, ⟨⟨fun p hp => (by cases hp), List.Pairwise.nil, fun p hp => (by cases hp)⟩, fun p hp => (by cases hp)⟩⟩ _ _)
  | x :: xs, a, x3, hx, ha, q, r => by
    refine w_loopC ?_
    walk_at "st"
    refine htb a x _ (hx x List.mem_cons_self) ha (fun k ss rw_ e l er c => ?_) fun n => r fun ⟨nv, e, f⟩ => ?_
    · subst e
      refine never_loop htb xs (k : Int) _ (fun y hy => hx y (List.mem_cons_of_mem _ hy)) (by omega) (fun ⟨nv, e2, f⟩ => q ⟨(k, ss) :: nv, by rw [e2]; rfl, f.cons l er c⟩) fun n => r fun ⟨nv, e2, f⟩ => ?_
      cases nv with
      | nil => cases e2
      | cons p nv =>
        rw [List.map_cons] at e2
        injection e2 with e3 e4
        have := nv_inj e3
        subst this
        exact n ⟨nv, e4, f.tail.1⟩
    · cases nv with
      | nil => cases e
      | cons p nv =>
        rw [List.map_cons] at e
        injection e with e3 e4
        obtain ⟨_, l, _, rr, er, c⟩ := f.tail
        exact n ⟨p.1, p.2, rr, e3, l, er, c⟩
theorem sem_L_never_right : ∀ ds ms Q, sp_L_never_right ds ms Q → t_L_never_right { nx := fun _ m => Q .non m, rt := Q } (startD 4 ds) ms := by
  intro ds ms Q h
  unfold sp_L_never_right at h
  split at h
  · rename_i d x
    obtain ⟨g, B, N, rfl, ok, an, hN, few, h⟩ := h
    have r10 := ok.rl
    have n3 := ok.nm.l2
    obtain ⟨ty, ety⟩ := an.ty
    simp only [startD]
    unfold t_L_never_right pgD
    walk_at "st"
    cases x with
    | lst xs =>
      obtain ⟨hl, oka⟩ := an.lst
      walk_at "st"
      refine never_loop (g := g) (N := N) (fun a x G ax ha hG hR => ?_) xs (-1) _ oka (by decide) (fun ⟨nv, e, f⟩ a x3 => ?_) fun n => ?_
      · obtain ⟨ty, ety⟩ := ax.ty
        walk_at "st"
        cases x with
        | tup ys =>
          walk_at "st"
          by_cases h2 : ys.length = 2
          · rw [show (!((ys.length : Int) == 2)) = false by rw [Bool.not_eq_false', beq_iff_eq]; omega]
            obtain ⟨u, v, rfl⟩ : ∃ u v, ys = [u, v] := by
              match ys, h2 with
              | [u, v], _ => exact ⟨u, v, rfl⟩
            have au := ax.tup.2 u (by simp)
            have av := ax.tup.2 v (by simp)
            walk_at "st"
            refine ⟨au.ty, ?_⟩
            cases hw : isW u with
            | false =>
              walk_at "st"
              refine hR fun ⟨k, ss, r, e, _⟩ => ?_
              unfold nvD at e
              injection e with e
              injection e with e _
              rw [e] at hw
              cases hw
            | true =>
              cases u with
              | int i =>
                walk_at "st"
                by_cases c1 : a < i
                · rw [decide_eq_true c1]
                  walk_at "st"
                  rw [List.length_map]
                  by_cases c2 : i < (g.rs.length : Int)
                  · rw [decide_eq_true c2]
                    obtain ⟨k, rfl⟩ : ∃ k : Nat, i = (k : Int) := ⟨i.toNat, by omega⟩
                    have hk : k < g.rs.length := by omega
                    have er : g.rs[k]? = some (g.rs.getD k ⟨0, 0, []⟩) := by rw [List.getD_eq_getElem?_getD, List.getElem?_eq_getElem hk]; rfl
                    have ro := ok.ro _ (mem_at er)
                    walk_at "st"
                    refine w_ix_l (d := rwD (g.rs.getD k ⟨0, 0, []⟩)) (atI_nat (by rw [List.getElem?_map, er]; rfl)) ?_
                    unfold rwD
                    walk_at "st"
                    rw [List.length_map]
                    refine ⟨.inr (.inr ⟨by omega, by omega⟩), ?_⟩
                    walk_at "st"
                    refine ⟨zeros_ok (by omega) (by omega), ?_⟩
                    rw [rep_flat0, show (2 * (g.nm.length : Int)).toNat = 2 * g.nm.length by omega]
                    walk_at "st"
                    refine ⟨size_ok (by rw [List.length_map, List.length_replicate]; simp; omega), ?_⟩
                    walk_at "st"
                    refine ⟨_, -1, List.replicate (2 * g.nm.length) 0, N, rfl, rfl, ⟨⟨B + 2, fun w hw x hx => ((ro.wo w hw).bd x hx).mono (by omega), (show Bd 1 (-1 : Int) by unfold Bd; decide).mono (by omega), few.ex _ (mem_at er)⟩, fun w hw => by rw [(ro.wo w hw).ln, List.length_replicate], by rw [List.length_replicate]; omega⟩, av, by have := ro.wl; omega, ?_⟩
                    cases hc : tf (IsCar (g.rs.getD k ⟨0, 0, []⟩).ws (-1, List.replicate (2 * g.nm.length) 0) v) with
                    | false =>
                      walk_at "st"
                      refine hR fun ⟨k', ss, r, e, _, er', c⟩ => ?_
                      unfold nvD at e
                      injection e with e
                      injection e with e e2
                      injection e with e
                      injection e2 with e2 _
                      have : k = k' := by omega
                      subst this
                      rw [er] at er'
                      injection er' with er'
                      rw [tf_yes ⟨ss, e2, by rw [er']; exact c⟩] at hc
                      cases hc
                    | true =>
                      obtain ⟨ss, e, c⟩ := tf_iff.mp hc
                      subst e
                      walk_at "st"
                      exact hG k ss _ rfl c1 er c
                  · rw [decide_eq_false c2]
                    walk_at "st"
                    refine hR fun ⟨k, ss, r, e, _, er, _⟩ => ?_
                    unfold nvD at e
                    injection e with e
                    injection e with e _
                    injection e with e
                    have := (List.getElem?_eq_some_iff.mp er).1
                    omega
                · rw [decide_eq_false c1]
                  walk_at "st"
                  refine hR fun ⟨k, ss, r, e, l, _⟩ => ?_
                  unfold nvD at e
                  injection e with e
                  injection e with e _
                  injection e with e
                  omega
              | _ => cases hw
          · rw [show (!((ys.length : Int) == 2)) = true by rw [Bool.not_eq_true', beq_eq_false_iff_ne]; omega]
            walk_at "st"
            refine hR fun ⟨k, ss, r, e, _⟩ => ?_
            unfold nvD at e
            injection e with e
            rw [e] at h2
            exact h2 rfl
        | _ => cases ety <;> (walk_at "st"; exact hR fun ⟨_, _, _, e, _⟩ => by cases e)
      · walk_at "st"
        exact tf_t h ⟨nv, by rw [e], f.ok⟩
      · walk_at "st"
        refine tf_f h fun ⟨nv, e, o⟩ => n ⟨nv, ?_, o, fun p _ => by omega⟩
        injection e with e
    | _ => cases ety <;> (walk_at "st"; exact tf_f h fun ⟨_, e, _⟩ => by cases e)
  · exact h.elim
theorem ok_L_never_right (T : Tx P K mg) : FnG P w K mg base 5 T.f_L_never_right T.d_L_never_right ["_law_program", "_law_never"] (spD K sp_L_never_right) := by
  have G_L_carried := ok_L_carried (P := P) (w := w) (base := base) T
  have G_L_is_whole := ok_L_is_whole (P := P) (w := w) (base := base) T
  exact fnG_of (k := 4) (t := t_L_never_right) T.F_L_never_right sc_L_never_right len_L_never_right
    (fun cdv A outer s H hr => pds_cons (pds_if (pdt_not (pdt_val (pd_isi .list (by decide) rfl T.n_isinstance rfl T.n_list (by decide +kernel) (by decide) (by decide) (pd_var 1)))) (pds_one (pds_ret (pd_bl))) (pds_nil)) (pds_cons (pds_set (i := 2) sc_L_never_right.nd rfl (.inl rfl) (pd_neg (pd_int))) (pds_cons (pds_for (vs := [3]) rfl (pdi_list (pd_var 1)) (pg_name (i := 3) sc_L_never_right.nd rfl (.inl rfl)) (tg_name (i := 3) (by decide)) (pds_cons (pds_if (pdt_w (pdw_or (pdt_not (pdt_val (pd_isi .tuple (by decide) rfl T.n_isinstance rfl T.n_tuple (by decide +kernel) (by decide) (by decide) (pd_var 3)))) (pdw_or (pdt_cmp (op_neF hr.r.units) opd_ne (pd_callB call_len cal_len rfl T.n_len (by decide +kernel) (pda_cons (pd_var 3) (pda_nil))) (pd_int)) (pdw_or1 (pdt_not (pdt_val (pd_call G_L_is_whole (hr.mono (by decide)) rfl T.g_L_is_whole T.F_L_is_whole.kp T.b_L_is_whole_1 (pda_cons (pd_ix ix_seq opd_ix (pd_var 3) (pd_int)) (pda_nil))))))))) (pds_one (pds_ret (pd_bl))) (pds_nil)) (pds_cons (pds_if (pdt_not (pdt_chain op_lt opd_lt op_lt opd_lt (pd_var 2) (pd_ix ix_seq opd_ix (pd_var 3) (pd_int)) (pd_callB call_len cal_len rfl T.n_len (by decide +kernel) (pda_cons (pd_ix ix_seq opd_ix (pd_var 0) (pd_int)) (pda_nil))))) (pds_one (pds_ret (pd_bl))) (pds_nil)) (pds_cons (pds_if (pdt_not (pdt_val (pd_call G_L_carried (hr.mono (by decide)) rfl T.g_L_carried T.F_L_carried.kp T.b_L_carried_3 (pda_cons (pd_ix ix_seq opd_ix (pd_ix ix_seq opd_ix (pd_ix ix_seq opd_ix (pd_var 0) (pd_int)) (pd_ix ix_seq opd_ix (pd_var 3) (pd_int))) (pd_int)) (pda_cons (pd_op op_addD opd_add (pd_lst (pda_cons (pd_neg (pd_int)) (pda_nil))) (pd_op op_mulA opd_mul (pd_lst (pda_cons (pd_int) (pda_nil))) (pd_op op_mulA opd_mul (pd_int) (pd_callB call_len cal_len rfl T.n_len (by decide +kernel) (pda_cons (pd_ix ix_seq opd_ix (pd_var 0) (pd_int)) (pda_nil)))))) (pda_cons (pd_ix ix_seq opd_ix (pd_var 3) (pd_int)) (pda_nil))))))) (pds_one (pds_ret (pd_bl))) (pds_nil)) (pds_one (pds_set (i := 2) sc_L_never_right.nd rfl (.inl rfl) (pd_ix ix_seq opd_ix (pd_var 3) (pd_int)))))))) (pds_one (pds_ret (pd_bl))))))
    sem_L_never_right
def sp_L_is_table : FS := fun ds ms P => match ds with
  | [d, x] => ∃ (g : Pg) (N : Nat), d = pgD g ∧ g.nm.length ≤ 8 ∧ g.pm.length ≤ 8 ∧ AnyX N x ∧ P (.bl (tf (IsTb g x))) ms
  | _ => False
theorem len_L_is_table : ∀ ds ms Q, sp_L_is_table ds ms Q → ds.length = 2 := fun ds ms Q h => by
  unfold sp_L_is_table at h
  split at h <;> first | rfl | exact h.elim
def t_L_is_table : DTS := dSeq (dIfS (dOr (dNot (dTest (dIsi .list (dVar 1)))) (dTest (dOp fNe (dCB cLen (aCons (dVar 1) (aNil))) (dCB cLen (aCons (dOp fIx (dVar 0) (dC (.int 1))) (aNil)))))) (dRet (dC (.bl false))) (dNext)) (dSeq (dFor (iSeq (dVar 1)) (sName 2) (dSeq (dIfS (dOr (dNot (dTest (dIsi .list (dVar 2)))) (dTest (dOp fNe (dCB cLen (aCons (dVar 2) (aNil))) (dOp fAdd (dC (.int 1)) (dCB cLen (aCons (dOp fIx (dVar 0) (dC (.int 0))) (aNil))))))) (dRet (dC (.bl false))) (dNext)) (dIfS (dTest (dOp fNe (dLc (iSeq (dVar 2)) (sName 3) (dNot (dTest (dCall 1 0 [0] sp_L_is_whole (aCons (dVar 3) (aNil)) (aNil)))) (dVar 3) [3]) (dLst (aNil)))) (dRet (dC (.bl false))) (dNext)))) (dRet (dC (.bl true))))
theorem ints_iff : ∀ {xs : List D}, (∀ x ∈ xs, isW x = true) ↔ ∃ is : List Int, xs = is.map D.int
  | [] => ⟨fun _ => ⟨[], rfl⟩, fun _ x h => by cases h⟩
  | x :: r => by
    constructor
    · intro h
      obtain ⟨is, e⟩ := (ints_iff (xs := r)).mp fun y hy => h y (List.mem_cons_of_mem _ hy)
      have hw := h x List.mem_cons_self
      cases x with
      | int i => exact ⟨i :: is, by rw [e]; rfl⟩
      | _ => cases hw
    · rintro ⟨is, e⟩ y hy
      rw [e] at hy
      obtain ⟨i, _, rfl⟩ := List.mem_map.mp hy
      rfl
theorem lin_iff {n : Nat} {xs : List D} : Lin (n : Int) (.lst xs) ↔ (xs.length : Int) = 1 + (n : Int) ∧ xs.all isW = true := by
  rw [List.all_eq_true, ints_iff]
  constructor
  · rintro ⟨is, e, l⟩
    injection e with e
    exact ⟨by rw [e, List.length_map]; omega, is, e⟩
  · rintro ⟨l, is, e⟩
    exact ⟨is, by rw [e], by rw [e, List.length_map] at l; omega⟩
theorem sem_L_is_table : ∀ ds ms Q, sp_L_is_table ds ms Q → t_L_is_table { nx := fun _ m => Q .non m, rt := Q } (startD 4 ds) ms := by
  intro ds ms Q h
  unfold sp_L_is_table at h
  split at h
  · rename_i d x
    obtain ⟨g, N, rfl, n8, p8, an, h⟩ := h
    obtain ⟨a, e⟩ := an.ty
    simp only [startD]
    unfold t_L_is_table pgD
    walk_at "st"
    cases x with
    | lst xs =>
      obtain ⟨hl, ok⟩ := an.lst
      walk_at "st"
      rw [List.length_map]
      by_cases hb : xs.length ≠ g.pm.length
      · refine w_iteT (by rw [Bool.not_eq_true', beq_eq_false_iff_ne]; omega) ?_
        walk_at "st"
        refine tf_f h fun ⟨t, e1, o, _⟩ => ?_
        injection e1 with e1
        rw [e1, List.length_map] at hb
        exact hb o
      have hb : xs.length = g.pm.length := by omega
      refine w_iteF (by rw [hb]; simp) ?_
      walk_at "st"
      refine loop_allD (fun y => tf (Lin (g.nm.length : Int) y)) (fun ds => ∃ x2 x3, ds = [some (.tup [.lst (g.nm.map D.str), .lst (g.pm.map D.str), .lst (g.rs.map rwD)]), some (.lst xs), x2, x3]) xs _ ⟨_, _, rfl⟩ ?_ (fun z ds hI => ?_) (fun z => ?_)
      · rintro y hy ds ⟨x2, x3, rfl⟩ G hG hR
        have ay := ok y hy
        obtain ⟨b, eb⟩ := ay.ty
        walk_at "st"
        cases y with
        | lst ys =>
          obtain ⟨hy1, oy⟩ := ay.lst
          walk_at "st"
          rw [List.length_map]
          by_cases hc : (ys.length : Int) = 1 + (g.nm.length : Int)
          · refine w_iteF (by rw [hc]; simp) ?_
            walk_at "st"
            simp only [wipeD, List.set]
            refine comp_filt (fun x => !isW x) (fun x => x) ys [] _ (by rw [List.length_nil]; omega) (fun x hx K L h1 h2 => ?_) ?_
            · walk_at "st"
              refine ⟨(oy x hx).ty, ?_⟩
              cases hf : isW x with
              | true =>
                walk_at "st"
                exact h2 (by rw [hf]; rfl)
              | false =>
                walk_at "st"
                exact h1 (by rw [hf]; rfl)
            rw [List.nil_append]
            walk_at "st"
            rw [filt_empty isW ys]
            cases hA : ys.all isW with
            | true =>
              walk_at "st"
              exact hG (tf_yes (lin_iff.mpr ⟨hc, hA⟩)) _ ⟨_, _, rfl⟩
            | false =>
              walk_at "st"
              exact hR (tf_no fun z => by have := (lin_iff.mp z).2; rw [hA] at this; cases this)
          · refine w_iteT (by rw [Bool.not_eq_true', beq_eq_false_iff_ne]; exact hc) ?_
            walk_at "st"
            exact hR (tf_no fun z => hc (lin_iff.mp z).1)
        | _ => cases eb <;> (walk_at "st"; exact hR (tf_no fun ⟨_, e1, _⟩ => by cases e1))
      · obtain ⟨x2, x3, rfl⟩ := hI
        walk_at "st"
        obtain ⟨t, e1, l⟩ := lins_tb ((tfs_all (fun y => Lin (g.nm.length : Int) y) xs).mp z)
        exact tf_t h ⟨t, by rw [e1], by rw [← hb, e1, List.length_map], l⟩
      · refine tf_f h fun ⟨t, e1, _, l⟩ => ?_
        injection e1 with e1
        rw [(tfs_all (fun y => Lin (g.nm.length : Int) y) xs).mpr fun y hy => by
          rw [e1] at hy
          obtain ⟨p, hp, rfl⟩ := List.mem_map.mp hy
          exact lnT_lin.mpr ⟨p, rfl, l p hp⟩] at z
        cases z
    | _ => cases e <;> (walk_at "st"; exact tf_f h fun ⟨_, e1, _⟩ => by cases e1)
  · exact h.elim
theorem ok_L_is_table (T : Tx P K mg) : FnG P w K mg base 2 T.f_L_is_table T.d_L_is_table ["_law_program", "_law_thing"] (spD K sp_L_is_table) := by
  have G_L_is_whole := ok_L_is_whole (P := P) (w := w) (base := base) T
  exact fnG_of (k := 1) (t := t_L_is_table) T.F_L_is_table sc_L_is_table len_L_is_table
    (fun cdv A outer s H hr => pds_cons (pds_if (pdt_w (pdw_or (pdt_not (pdt_val (pd_isi .list (by decide) rfl T.n_isinstance rfl T.n_list (by decide +kernel) (by decide) (by decide) (pd_var 1)))) (pdw_or1 (pdt_cmp (op_neF hr.r.units) opd_ne (pd_callB call_len cal_len rfl T.n_len (by decide +kernel) (pda_cons (pd_var 1) (pda_nil))) (pd_callB call_len cal_len rfl T.n_len (by decide +kernel) (pda_cons (pd_ix ix_seq opd_ix (pd_var 0) (pd_int)) (pda_nil))))))) (pds_one (pds_ret (pd_bl))) (pds_nil)) (pds_cons (pds_for (vs := [2]) rfl (pdi_list (pd_var 1)) (pg_name (i := 2) sc_L_is_table.nd rfl (.inl rfl)) (tg_name (i := 2) (by decide)) (pds_cons (pds_if (pdt_w (pdw_or (pdt_not (pdt_val (pd_isi .list (by decide) rfl T.n_isinstance rfl T.n_list (by decide +kernel) (by decide) (by decide) (pd_var 2)))) (pdw_or1 (pdt_cmp (op_neF hr.r.units) opd_ne (pd_callB call_len cal_len rfl T.n_len (by decide +kernel) (pda_cons (pd_var 2) (pda_nil))) (pd_op op_addD opd_add (pd_int) (pd_callB call_len cal_len rfl T.n_len (by decide +kernel) (pda_cons (pd_ix ix_seq opd_ix (pd_var 0) (pd_int)) (pda_nil)))))))) (pds_one (pds_ret (pd_bl))) (pds_nil)) (pds_one (pds_if (pdt_cmp (op_neF hr.r.units) opd_ne (pd_lc (own := [("_law_number", 3)]) rfl sc_L_is_table.nd (pdi_list (pd_var 2)) (blkOk_by (own := [("_law_number", 3)]) (by kernel_rfl)) (fun _ _ _ _ _ => pg_name (i := 3) sc_L_is_table.nd rfl (by first | exact .inl rfl | exact .inr rfl)) (tg_name (i := 3) (by decide)) (mon_name (i := 3)) (fun _ _ _ _ _ => pdts_one (pdt_not (pdt_val (pd_call G_L_is_whole (hr.mono (by decide)) rfl T.g_L_is_whole T.F_L_is_whole.kp T.b_L_is_whole_1 (pda_cons (pd_var 3) (pda_nil)))))) (fun _ _ _ _ _ => pd_var 3)) (pd_lst (pda_nil))) (pds_one (pds_ret (pd_bl))) (pds_nil))))) (pds_one (pds_ret (pd_bl)))))
    sem_L_is_table
def sp_L_entry_right : FS := fun ds ms P => match ds with
  | [d, .lst ys, .int i, x] => ∃ (g : Pg) (t : Tb) (B row N : Nat), d = pgD g ∧ ys = t.map lnT ∧ i = (row : Int) ∧ PgOk B g ∧ TbOk B g.nm.length t ∧ B ≤ 500 ∧ t.length = g.pm.length ∧ AnyX N x ∧ N ≤ 500 ∧ Few B N g ∧ row < g.rs.length ∧ P (.bl (tf (IsEn g t row x))) ms
  | _ => False
theorem len_L_entry_right : ∀ ds ms Q, sp_L_entry_right ds ms Q → ds.length = 4 := fun ds ms Q h => by
  unfold sp_L_entry_right at h
  split at h <;> first | rfl | exact h.elim
def t_L_entry_right : DTS := dSeq (dIfS (dOr (dNot (dTest (dIsi .tuple (dVar 3)))) (dOr (dTest (dOp fNe (dCB cLen (aCons (dVar 3) (aNil))) (dC (.int 4)))) (dOr (dNot (dTest (dCall 1 0 [0] sp_L_is_whole (aCons (dOp fIx (dVar 3) (dC (.int 0))) (aNil)) (aNil)))) (dTest (dOp fNe (dOp fIx (dVar 3) (dC (.int 0))) (dVar 2)))))) (dRet (dC (.bl false))) (dNext)) (dSeq (dIfS (dNot (dTest (dIsi .bool (dOp fIx (dVar 3) (dC (.int 1)))))) (dRet (dC (.bl false))) (dNext)) (dSeq (dAsg (dOp fIx (dOp fIx (dVar 0) (dC (.int 2))) (dVar 2)) (sTup 3 (sCons (sName 4) (sCons (sName 5) (sCons (sName 6) (sNil)))))) (dSeq (dAsg (dCall 2 0 [0, 1] sp_L_fall (aCons (dVar 1) (aCons (dOp fIx (dOp fIx (dVar 0) (dC (.int 2))) (dVar 2)) (aNil))) (aNil)) (sName 7)) (dSeq (dSetIx (dVar 7) (dC (.int 0)) (dOp fSub (dOp fIx (dVar 7) (dC (.int 0))) (dCB cInt1 (aCons (dOp fIx (dVar 3) (dC (.int 1))) (aNil))))) (dSeq (dIfS (dNot (dTest (dCall 3 0 [0, 1, 2] sp_L_carried (aCons (dVar 6) (aCons (dFrz (dVar 7)) (aCons (dOp fIx (dVar 3) (dC (.int 2))) (aNil)))) (aNil)))) (dRet (dC (.bl false))) (dNext)) (dRet (dCall 3 0 [0, 1, 2] sp_L_carried (aCons (dVar 6) (aCons (dOp fAdd (dOp fIx (dVar 1) (dVar 4)) (dOp fMul (dLst (aCons (dC (.int 0)) (aNil))) (dCB cLen (aCons (dOp fIx (dVar 0) (dC (.int 0))) (aNil))))) (aCons (dOp fIx (dVar 3) (dC (.int 3))) (aNil)))) (aNil))))))))
theorem sem_L_entry_right : ∀ ds ms Q, sp_L_entry_right ds ms Q → t_L_entry_right { nx := fun _ m => Q .non m, rt := Q } (startD 8 ds) ms := by
  intro ds ms Q h
  unfold sp_L_entry_right at h
  split at h
  · rename_i d ys i x
    obtain ⟨g, t, B, row, N, rfl, rfl, rfl, ok, tok, hB, tl, an, hN, few, hrow, h⟩ := h
    obtain ⟨r, er⟩ : ∃ r, g.rs[row]? = some r := ⟨_, List.getElem?_eq_getElem hrow⟩
    have hr := mem_at er
    have ro := ok.ro r hr
    have n3 := ok.nm.l2
    have s1 : r.s < (t.length : Int) := by rw [tl]; exact ro.s1
    have t1 : r.t < (t.length : Int) := by rw [tl]; exact ro.t1
    obtain ⟨a, ha, e1, e2⟩ := tb_at ro.s0 s1
    obtain ⟨b, hb, e3, e4⟩ := tb_at ro.t0 t1
    have la := tok.ln _ ha
    have lb := tok.ln _ hb
    have ba := tok.bd _ ha a.1 List.mem_cons_self
    have bb := tok.bd _ hb b.1 List.mem_cons_self
    have fw := few.ex r hr
    have bw : ∀ w ∈ r.ws, ∀ x ∈ w.ls, Bd (B + 2) x := fun w hw x hx => ((ro.wo w hw).bd x hx).mono (by omega)
    have f1 : ∀ f, CFit r.ws (askT a b f).1 (askT a b f).2 N := by
      intro f
      have lf : (askT a b f).2.length = 2 * g.nm.length := by
        show (a.2 ++ b.2.map fun x => 0 - x).length = _
        rw [List.length_append, List.length_map, la, lb]; omega
      refine ⟨⟨B + 2, bw, ?_, fw⟩, fun w hw => (ro.wo w hw).ln.trans lf.symm, by omega⟩
      have z1 : Bd (B + 1) (a.1 - b.1) := by rw [Int.sub_eq_add_neg]; exact ba.add bb.neg
      have z2 : Bd (B + 1) (-(if f then (1 : Int) else 0)) := by
        have : Bd 1 (-(if f then (1 : Int) else 0)) := by unfold Bd; cases f <;> decide
        exact this.mono (by omega)
      show Bd (B + 2) (a.1 - b.1 - (if f then 1 else 0))
      rw [Int.sub_eq_add_neg (a := a.1 - b.1)]
      exact z1.add z2
    have f2 : CFit r.ws (bndT a).1 (bndT a).2 N := by
      have lf : (bndT a).2.length = 2 * g.nm.length := by
        show (a.2 ++ List.replicate a.2.length 0).length = _
        rw [List.length_append, List.length_replicate, la]; omega
      exact ⟨⟨B + 2, bw, ba.mono (by omega), fw⟩, fun w hw => (ro.wo w hw).ln.trans lf.symm, by omega⟩
    obtain ⟨ty, ety⟩ := an.ty
    simp only [startD]
    unfold t_L_entry_right pgD
    walk_at "st"
    cases x with
    | tup xs =>
      obtain ⟨hl, oka⟩ := an.tup
      walk_at "st"
      by_cases h4 : xs.length ≠ 4
      · refine w_iteT (by rw [Bool.not_eq_true', beq_eq_false_iff_ne]; omega) ?_
        walk_at "st"
        refine tf_f h fun ⟨p, e, _⟩ => ?_
        injection e with e
        rw [e] at h4
        exact h4 rfl
      have h4 : xs.length = 4 := by omega
      refine w_iteF (by rw [h4]; rfl) ?_
      match xs, h4 with
      | [x0, x1, x2, x3], _ =>
      have a0 := oka x0 (by simp)
      have a1 := oka x1 (by simp)
      have a2 := oka x2 (by simp)
      have a3 := oka x3 (by simp)
      have inv : IsEn g t row (.tup [x0, x1, x2, x3]) ↔ x0 = .int (row : Int) ∧ ∃ f, x1 = .bl f ∧ IsCar r.ws ((askT a b f).1, (askT a b f).2) x2 ∧ IsCar r.ws ((bndT a).1, (bndT a).2) x3 := by
        constructor
        · rintro ⟨e, z, nr, r', a', b', q1, q2, q3, c1, c2⟩
          unfold enD at z
          simp only [D.tup.injEq, List.cons.injEq, and_true] at z
          obtain ⟨z0, z1, z2, z3⟩ := z
          rw [er] at q1
          cases q1
          rw [e1] at q2
          cases q2
          rw [e3] at q3
          cases q3
          exact ⟨by rw [z0, nr], _, z1, ⟨_, z2, c1⟩, ⟨_, z3, c2⟩⟩
        · rintro ⟨z0, f, z1, ⟨ss, z2, c1⟩, ⟨us, z3, c2⟩⟩
          exact ⟨⟨row, f, ss, us⟩, by rw [z0, z1, z2, z3]; rfl, rfl, r, a, b, er, e1, e3, c1, c2⟩
      have hI : Q (.bl (tf (x0 = .int (row : Int) ∧ ∃ f, x1 = .bl f ∧ IsCar r.ws ((askT a b f).1, (askT a b f).2) x2 ∧ IsCar r.ws ((bndT a).1, (bndT a).2) x3))) ms := tf_e h (by rw [tf_iff]; exact inv.symm)
      walk_at "st"
      refine ⟨a0.ty, ?_⟩
      cases hw : isW x0 with
      | false =>
        walk_at "st"
        refine tf_f hI fun ⟨z, _⟩ => ?_
        rw [z] at hw
        cases hw
      | true =>
      obtain ⟨n, rfl⟩ : ∃ n, x0 = .int n := by
        cases x0 with
        | int n => exact ⟨n, rfl⟩
        | _ => cases hw
      walk_at "st"
      by_cases hn : n ≠ (row : Int)
      · refine w_iteT (by rw [Bool.not_eq_true', beq_eq_false_iff_ne]; exact hn) ?_
        walk_at "st"
        refine tf_f hI fun ⟨z, _⟩ => ?_
        injection z with z
        exact hn z
      have hn : n = (row : Int) := by omega
      refine w_iteF (by rw [hn]; simp) ?_
      subst hn
      obtain ⟨ty1, ety1⟩ := a1.ty
      walk_at "st"
      cases x1 with
      | bl f =>
        walk_at "st"
        refine w_ix_l (d := rwD r) (atI_nat (by rw [List.getElem?_map, er]; rfl)) ?_
        unfold rwD
        walk_at "st"
        refine w_ix_l (d := rwD r) (atI_nat (by rw [List.getElem?_map, er]; rfl)) ?_
        unfold rwD
        walk_at "st"
        refine ⟨r, t, B, g.nm.length, a, b, rfl, rfl, tok, by omega, ro.s0, s1, ro.t0, t1, e1, e3, fun q19 hq19 => ?_⟩
        rw [show (fallL a b).map D.int = D.int (a.1 - b.1) :: (a.2 ++ b.2.map fun x => 0 - x).map D.int by rw [fall_eq]; rfl]
        walk_at "st"
        refine w_ix_o look_new (w_at0 _ _) ?_
        walk_at "st"
        refine w_mSetIx look_new (ixN_ok (by omega) (by simp; omega)) put_new ?_
        have eset : (D.int (a.1 - b.1) :: List.map D.int (a.2 ++ List.map (fun x => 0 - x) b.2)).set (Int.toNat 0) (D.int (a.1 - b.1 - if f = true then (1 : Int) else 0)) = ((askT a b f).1 :: (askT a b f).2).map D.int := rfl
        rw [eset]
        walk_at "st"
        refine ⟨r.ws, (askT a b f).1, (askT a b f).2, N, rfl, rfl, f1 f, a2, by have := ro.wl; omega, ?_⟩
        cases hc : tf (IsCar r.ws ((askT a b f).1, (askT a b f).2) x2) with
        | false =>
          walk_at "st"
          refine tf_f hI fun ⟨_, f', z, c, _⟩ => ?_
          injection z with z
          subst z
          rw [tf_yes c] at hc
          cases hc
        | true =>
        walk_at "st"
        refine w_ix_l (d := .lst ((a.1 :: a.2).map D.int)) e2 ?_
        walk_at "st"
        rw [List.length_map]
        refine ⟨zeros_ok (by omega) (by omega), ?_⟩
        walk_at "st"
        rw [rep_flat0, Int.toNat_natCast, ← List.map_append]
        refine ⟨size_ok (by simp only [List.length_map, List.length_cons, List.length_replicate]; omega), ?_⟩
        rw [show (a.1 :: a.2) ++ List.replicate g.nm.length 0 = (bndT a).1 :: (bndT a).2 by unfold bndT; rw [la]; rfl]
        walk_at "st"
        refine ⟨r.ws, (bndT a).1, (bndT a).2, N, rfl, rfl, f2, a3, by have := ro.wl; omega, ?_⟩
        refine tf_e hI ?_
        rw [tf_iff]
        exact ⟨fun c => ⟨rfl, f, rfl, tf_iff.mp hc, c⟩, fun ⟨_, _, _, _, c⟩ => c⟩
      | _ => cases ety1 <;> (walk_at "st"; exact tf_f hI fun ⟨_, f', z, _⟩ => by cases z)
    | _ => cases ety <;> (walk_at "st"; exact tf_f h fun ⟨_, z, _⟩ => by cases z)
  · exact h.elim
theorem ok_L_entry_right (T : Tx P K mg) : FnG P w K mg base 5 T.f_L_entry_right T.d_L_entry_right ["_law_program", "_law_table", "_law_row_here", "_law_entry"] (spD K sp_L_entry_right) := by
  have G_L_fall := ok_L_fall (P := P) (w := w) (base := base) T
  have G_L_carried := ok_L_carried (P := P) (w := w) (base := base) T
  have G_L_is_whole := ok_L_is_whole (P := P) (w := w) (base := base) T
  exact fnG_of (k := 4) (t := t_L_entry_right) T.F_L_entry_right sc_L_entry_right len_L_entry_right
    (fun cdv A outer s H hr => pds_cons (pds_if (pdt_w (pdw_or (pdt_not (pdt_val (pd_isi .tuple (by decide) rfl T.n_isinstance rfl T.n_tuple (by decide +kernel) (by decide) (by decide) (pd_var 3)))) (pdw_or (pdt_cmp (op_neF hr.r.units) opd_ne (pd_callB call_len cal_len rfl T.n_len (by decide +kernel) (pda_cons (pd_var 3) (pda_nil))) (pd_int)) (pdw_or (pdt_not (pdt_val (pd_call G_L_is_whole (hr.mono (by decide)) rfl T.g_L_is_whole T.F_L_is_whole.kp T.b_L_is_whole_1 (pda_cons (pd_ix ix_seq opd_ix (pd_var 3) (pd_int)) (pda_nil))))) (pdw_or1 (pdt_cmp (op_neF hr.r.units) opd_ne (pd_ix ix_seq opd_ix (pd_var 3) (pd_int)) (pd_var 2))))))) (pds_one (pds_ret (pd_bl))) (pds_nil)) (pds_cons (pds_if (pdt_not (pdt_val (pd_isi .bool (by decide) rfl T.n_isinstance rfl T.n_bool (by decide +kernel) (by decide) (by decide) (pd_ix ix_seq opd_ix (pd_var 3) (pd_int))))) (pds_one (pds_ret (pd_bl))) (pds_nil)) (pds_cons (pds_asg (vs := [4, 5, 6]) (pd_ix ix_seq opd_ix (pd_ix ix_seq opd_ix (pd_var 0) (pd_int)) (pd_var 2)) (pg_tup rfl (pgs_cons (pg_name (i := 4) sc_L_entry_right.nd rfl (.inl rfl)) (pgs_cons (pg_name (i := 5) sc_L_entry_right.nd rfl (.inl rfl)) (pgs_cons (pg_name (i := 6) sc_L_entry_right.nd rfl (.inl rfl)) (pgs_nil))))) (tg_tup (tgs_cons (tg_name (i := 4) (by decide)) (tgs_cons (tg_name (i := 5) (by decide)) (tgs_cons (tg_name (i := 6) (by decide)) (tgs_nil) (mon_name (i := 6))) (mon_name (i := 5))) (mon_name (i := 4))))) (pds_cons (pds_set (i := 7) sc_L_entry_right.nd rfl (.inl rfl) (pd_call G_L_fall (hr.mono (by decide)) rfl T.g_L_fall T.F_L_fall.kp T.b_L_fall_2 (pda_cons (pd_var 1) (pda_cons (pd_ix ix_seq opd_ix (pd_ix ix_seq opd_ix (pd_var 0) (pd_int)) (pd_var 2)) (pda_nil))))) (pds_cons (pds_setIx (pd_op op_sub opd_sub (pd_ix ix_seq opd_ix (pd_var 7) (pd_int)) (pd_callTy call_int1 cal_int1 rfl T.n_int (by decide +kernel) (pda_cons (pd_ix ix_seq opd_ix (pd_var 3) (pd_int)) (pda_nil)))) (pd_var 7) (pd_int)) (pds_cons (pds_if (pdt_not (pdt_val (pd_call G_L_carried (hr.mono (by decide)) rfl T.g_L_carried T.F_L_carried.kp T.b_L_carried_3 (pda_cons (pd_var 6) (pda_cons (pd_frz (pd_var 7)) (pda_cons (pd_ix ix_seq opd_ix (pd_var 3) (pd_int)) (pda_nil))))))) (pds_one (pds_ret (pd_bl))) (pds_nil)) (pds_one (pds_ret (pd_call G_L_carried (hr.mono (by decide)) rfl T.g_L_carried T.F_L_carried.kp T.b_L_carried_3 (pda_cons (pd_var 6) (pda_cons (pd_op op_addD opd_add (pd_ix ix_seq opd_ix (pd_var 1) (pd_var 4)) (pd_op op_mulA opd_mul (pd_lst (pda_cons (pd_int) (pda_nil))) (pd_callB call_len cal_len rfl T.n_len (by decide +kernel) (pda_cons (pd_ix ix_seq opd_ix (pd_var 0) (pd_int)) (pda_nil))))) (pda_cons (pd_ix ix_seq opd_ix (pd_var 3) (pd_int)) (pda_nil)))))))))))))
    sem_L_entry_right
def sp_L_left : FS := fun ds ms P => match ds with
  | [d, y, x] => ∃ (g : Pg) (N : Nat), d = pgD g ∧ PgOk N g ∧ N ≤ 500 ∧ AnyX N y ∧ AnyX N x ∧ Few N N g ∧
      (∀ out, Leaves g y x out → P (natsD out) ms) ∧ ((¬ ∃ out, Leaves g y x out) → P .non ms)
  | _ => False
theorem len_L_left : ∀ ds ms Q, sp_L_left ds ms Q → ds.length = 3 := fun ds ms Q h => by
  unfold sp_L_left at h
  split at h <;> first | rfl | exact h.elim
def t_L_left : DTS := dSeq (dIfS (dOr (dNot (dTest (dCall 2 0 [0, 1] sp_L_never_right (aCons (dVar 0) (aCons (dVar 1) (aNil))) (aNil)))) (dNot (dTest (dIsi .list (dVar 2))))) (dRet (dC .non)) (dNext)) (dSeq (dAsg (dLc (iSeq (dVar 1)) (sName 8) (dYes) (dOp fIx (dVar 8) (dC (.int 0))) [8]) (sName 3)) (dSeq (dAsg (dLc (iRange1 (aCons (dCB cLen (aCons (dOp fIx (dVar 0) (dC (.int 2))) (aNil))) (aNil))) (sName 4) (dTest (dOp fNotIn (dVar 4) (dVar 3))) (dVar 4) [4]) (sName 5)) (dSeq (dFor (iSeq (dVar 2)) (sName 6) (dSeq (dIfS (dOr (dNot (dTest (dIsi .tuple (dVar 6)))) (dOr (dTest (dOp fNe (dCB cLen (aCons (dVar 6) (aNil))) (dC (.int 2)))) (dNot (dTest (dCall 2 0 [0, 1] sp_L_is_table (aCons (dVar 0) (aCons (dOp fIx (dVar 6) (dC (.int 0))) (aNil))) (aNil)))))) (dRet (dC .non)) (dNext)) (dSeq (dIfS (dOr (dNot (dTest (dIsi .list (dOp fIx (dVar 6) (dC (.int 1)))))) (dTest (dOp fNe (dCB cLen (aCons (dOp fIx (dVar 6) (dC (.int 1))) (aNil))) (dCB cLen (aCons (dVar 5) (aNil)))))) (dRet (dC .non)) (dNext)) (dSeq (dFor (iZipD (aCons (dVar 5) (aCons (dOp fIx (dVar 6) (dC (.int 1))) (aNil)))) (sTup 2 (sCons (sName 4) (sCons (sName 7) (sNil)))) (dIfS (dNot (dTest (dCall 4 0 [0, 1, 2, 3] sp_L_entry_right (aCons (dVar 0) (aCons (dOp fIx (dVar 6) (dC (.int 0))) (aCons (dVar 4) (aCons (dVar 7) (aNil))))) (aNil)))) (dRet (dC .non)) (dNext))) (dAsg (dLc (iSeq (dOp fIx (dVar 6) (dC (.int 1)))) (sName 7) (dNot (dTru (dOp fIx (dVar 7) (dC (.int 1))))) (dOp fIx (dVar 7) (dC (.int 0))) [7]) (sName 5)))))) (dRet (dVar 5)))))
/-- a loop that ends at the first hit -/
theorem loop_hit {α : Type} {g : DG} {tb : DTS} {E : EN} {ms : MS} (e : α → D) (hit : α → Bool) (v : D) (I : DS → Prop) : ∀ (xs : List α) (ds : DS), I ds →
    (∀ x ∈ xs, ∀ ds, I ds → ∀ G : DS → MS → Prop, (hit x = false → ∀ ds', I ds' → G ds' ms) → (hit x = true → E.rt v ms) → g (e x) ds fun ds1 => tb (EN.lp E G) ds1 ms) →
    (xs.any hit = false → ∀ ds, I ds → E.nx ds ms) → (xs.any hit = true → E.rt v ms) → loopD g tb E (xs.map e) ds ms
  | [], ds, h, _, q, _ => q rfl ds h
  | x :: r, ds, h, t, q, q2 => t x List.mem_cons_self ds h _ (fun hx ds' h' => loop_hit e hit v I r ds' h' (fun y hy => t y (List.mem_cons_of_mem _ hy)) (fun hr => q (by rw [List.any_cons, hx, hr]; rfl)) fun hr => q2 (by rw [List.any_cons, hr, Bool.or_true])) fun hx => q2 (by rw [List.any_cons, hx, Bool.true_or])
theorem any_not {α : Type} (f : α → Bool) (xs : List α) : xs.any (fun x => !f x) = !xs.all f := by
  induction xs with
  | nil => rfl
  | cons x r ih => rw [List.any_cons, List.all_cons, ih]; cases f x <;> rfl
/-- the rows told by the entries are those that are left -/
theorem outR_es {g : Pg} {t : Tb} : ∀ {left : List Nat} {es : List En}, es.length = left.length → (∀ p ∈ left.zip es, EnOk g t p.1 p.2) → (es.filter fun e => !e.falls).map (fun e => D.int e.row) = natL (outR left ⟨t, es⟩)
  | [], [], _, _ => rfl
  | [], _ :: _, e, _ => by cases e
  | _ :: _, [], e, _ => by cases e
  | k :: left, e :: es, hl, h => by
    have o := h (k, e) (by rw [List.zip_cons_cons]; exact List.mem_cons_self)
    have ih := outR_es (g := g) (t := t) (left := left) (es := es) (by simpa using hl) fun p hp => h p (by rw [List.zip_cons_cons]; exact List.mem_cons_of_mem _ hp)
    have nr : e.row = (k : Int) := o.nr
    unfold outR at ih ⊢
    show ((e :: es).filter fun e => !e.falls).map _ = natL ((((k, e) :: left.zip es).filter fun p => !p.2.falls).map (·.1))
    rw [List.filter_cons, List.filter_cons]
    cases hf : e.falls with
    | true => exact ih
    | false =>
      show D.int e.row :: _ = D.int (k : Int) :: _
      rw [nr]
      exact congrArg _ ih
theorem left_loop {tb : DTS} {E : EN} {ms : MS} {x0 x1 x2 x3 x8 : Option D} {g : Pg} {N : Nat}
    (htb : ∀ (left : List Nat) (x : D) (x4 x7 : Option D) (G : DS → MS → Prop), AnyX N x → (∀ k ∈ left, k < g.rs.length) → left.length ≤ 100 → (∀ k x4 x7, x = rkD k → RkOk g left k → G [x0, x1, x2, x3, x4, some (natsD (outR left k)), some x, x7, x8] ms) → ((¬ ∃ k, x = rkD k ∧ RkOk g left k) → E.rt .non ms) →
      tb (EN.lp E G) [x0, x1, x2, x3, x4, some (natsD left), some x, x7, x8] ms) :
    ∀ (xs : List D) (left : List Nat) (x4 x6 x7 : Option D), (∀ x ∈ xs, AnyX N x) → (∀ k ∈ left, k < g.rs.length) → left.length ≤ 100 → (∀ ks out x4 x6 x7, xs = ks.map rkD → Goes g left ks out → E.nx [x0, x1, x2, x3, x4, some (natsD out), x6, x7, x8] ms) →
      ((¬ ∃ ks out, xs = ks.map rkD ∧ Goes g left ks out) → E.rt .non ms) → loopD (sName 6) tb E xs [x0, x1, x2, x3, x4, some (natsD left), x6, x7, x8] ms
  | [], left, x4, x6, x7, _, _, _, q, _ => w_loopN (q [] left x4 x6 x7 rfl (.nil left))
  | x :: xs, left, x4, x6, x7, hx, hk, hl, q, r => by
    refine w_loopC ?_
    walk_at "st"
    refine htb left x _ _ _ (hx x List.mem_cons_self) hk hl (fun k x4 x7 e o => ?_) fun n => r fun ⟨ks, out, e, go⟩ => ?_
    · refine left_loop htb xs (outR left k) _ _ _ (fun y hy => hx y (List.mem_cons_of_mem _ hy)) (fun i hi => hk i (outR_sub i hi)) (Nat.le_trans outR_len hl) (fun ks out x4 x6 x7 e2 go => q (k :: ks) out x4 x6 x7 (by rw [e, e2]; rfl) (.cons o go)) fun n => r fun ⟨ks, out, e2, go⟩ => ?_
      cases ks with
      | nil => cases e2
      | cons k' ks =>
        rw [List.map_cons] at e2
        injection e2 with e3 e4
        have : k = k' := rk_inj (e.symm.trans e3)
        subst this
        cases go with
        | cons o' go => exact n ⟨ks, out, e4, go⟩
    · cases ks with
      | nil => cases e
      | cons k' ks =>
        rw [List.map_cons] at e
        injection e with e3 e4
        cases go with
        | cons o' go => exact n ⟨k', e3, o'⟩
theorem sem_L_left : ∀ ds ms Q, sp_L_left ds ms Q → t_L_left { nx := fun _ m => Q .non m, rt := Q } (startD 9 ds) ms := by
  intro ds ms Q h
  unfold sp_L_left at h
  split at h
  · rename_i d y x
    obtain ⟨g, N, rfl, ok, hN, ay, an, few, hy, hn⟩ := h
    have rl := ok.rl
    have n3 := ok.nm.l2
    have p6 := ok.pm.l2
    obtain ⟨ty, ety⟩ := an.ty
    simp only [startD]
    unfold t_L_left
    walk_at "st"
    refine ⟨g, N, N, rfl, ok, ay, hN, few, ?_⟩
    cases hv : tf (IsNv g y) with
    | false =>
      walk_at "st"
      exact hn fun ⟨_, nv, _, e, o, _⟩ => by rw [tf_yes ⟨nv, e, o⟩] at hv; cases hv
    | true =>
    obtain ⟨nv, rfl, nvo⟩ := tf_iff.mp hv
    have nl := (ay.lst).1
    rw [List.length_map] at nl
    have lv := leftV_lt (g := g) (nv := nv)
    walk_at "st"
    cases x with
    | lst xs =>
      obtain ⟨hl, oka⟩ := an.lst
      walk_at "st"
      simp only [wipeD, List.set]
      refine comp_e nvD (fun p => D.int (p.1 : Int)) nv [] _ (by rw [List.length_nil]; omega) (fun p hp P0 q => ?_) ?_
      · unfold nvD
        walk_at "st"
        exact q
      rw [List.nil_append, show (nv.map fun p => D.int (p.1 : Int)) = natL (nv.map (·.1)) by unfold natL; rw [List.map_map]; rfl]
      unfold pgD
      walk_at "st"
      rw [List.length_map]
      refine w_mRng ⟨by omega, by omega⟩ ?_
      rw [Int.toNat_natCast, rng_natsV]
      simp only [wipeD, List.set]
      refine comp_fV (fun (k : Nat) => D.int (k : Int)) (fun i => !decide (i ∈ nv.map (·.1))) (fun (k : Nat) => D.int (k : Int)) (List.range g.rs.length) [] _ (by rw [List.length_range, List.length_nil]; omega) (fun i hi K L hK hL => ?_) ?_
      · walk_at "st"
        refine nats_notin ?_
        cases hd : !decide (i ∈ nv.map (·.1)) with
        | true =>
          rw [hd] at hK
          walk_at "st"
          exact hK rfl
        | false =>
          rw [hd] at hL
          walk_at "st"
          exact hL rfl
      rw [List.nil_append]
      walk_at "st"
      refine left_loop (g := g) (N := N) (fun left x x4 x7 G ax hk l100 hG hR => ?_) xs (leftV g nv) _ _ _ oka lv.1 (by omega) (fun ks out x4 x6 x7 e go => ?_) fun n => hn fun ⟨out, nv', ks, e', o', e, go⟩ => ?_
      · obtain ⟨ty2, ety2⟩ := ax.ty
        unfold natsD
        walk_at "st"
        cases x with
        | tup zs =>
          obtain ⟨_, oz⟩ := ax.tup
          walk_at "st"
          by_cases h2 : zs.length ≠ 2
          · refine w_iteT (by rw [Bool.not_eq_true', beq_eq_false_iff_ne]; omega) ?_
            walk_at "st"
            refine hR fun ⟨k, e, _⟩ => ?_
            unfold rkD at e
            injection e with e
            rw [e] at h2
            exact h2 rfl
          have h2 : zs.length = 2 := by omega
          refine w_iteF (by rw [h2]; rfl) ?_
          match zs, h2 with
          | [z0, z1], _ =>
          have a0 := oz z0 (by simp)
          have a1 := oz z1 (by simp)
          have inv : ∀ k, D.tup [z0, z1] = rkD k → z0 = .lst (k.tb.map lnT) ∧ z1 = .lst (k.es.map enD) := fun k e => by
            unfold rkD at e
            simp only [D.tup.injEq, List.cons.injEq, and_true] at e
            exact e
          walk_at "st"
          refine ⟨g, N, rfl, by omega, by omega, a0, ?_⟩
          cases ht : tf (IsTb g z0) with
          | false =>
            walk_at "st"
            refine hR fun ⟨k, e, o⟩ => ?_
            rw [tf_yes ⟨k.tb, (inv k e).1, o.tl, o.tn⟩] at ht
            cases ht
          | true =>
          obtain ⟨t, rfl, tl, tn⟩ := tf_iff.mp ht
          have tok : TbOk N g.nm.length t := ⟨anyx_tb a0, tn⟩
          obtain ⟨ty1, ety1⟩ := a1.ty
          walk_at "st"
          cases z1 with
          | lst us =>
            obtain ⟨hl1, ok1⟩ := a1.lst
            walk_at "st"
            rw [show (left.map fun (k : Nat) => D.int (k : Int)).length = left.length from List.length_map ..]
            by_cases hb : us.length ≠ left.length
            · refine w_iteT (by rw [Bool.not_eq_true', beq_eq_false_iff_ne]; omega) ?_
              walk_at "st"
              refine hR fun ⟨k, e, o⟩ => ?_
              have := (inv k e).2
              injection this with this
              rw [this, List.length_map] at hb
              exact hb o.el
            have hb : us.length = left.length := by omega
            refine w_iteF (by rw [hb]; simp) ?_
            walk_at "st"
            rw [show zipD (left.map fun (k : Nat) => D.int (k : Int)) us = (left.zip us).map fun q => D.tup [.int (q.1 : Int), q.2] from zipD_m1 _ _ _]
            refine loop_hit (fun q : Nat × D => D.tup [.int (q.1 : Int), q.2]) (fun q => !tf (IsEn g t q.1 q.2)) .non (fun ds => ∃ x4 x7, ds = [some (.tup [.lst (g.nm.map D.str), .lst (g.pm.map D.str), .lst (g.rs.map rwD)]), some (.lst (nv.map nvD)), some (.lst xs), some (.lst (natL (nv.map (·.1)))), x4, some (.lst (left.map fun (k : Nat) => D.int (k : Int))), some (.tup [.lst (t.map lnT), .lst us]), x7, none]) (left.zip us) _ ⟨_, _, rfl⟩ ?_ (fun z ds hI => ?_) fun z => ?_
            · rintro q hq ds ⟨x4, x7, rfl⟩ G2 hG2 hR2
              walk_at "st"
              refine ⟨g, t, N, q.1, N, rfl, rfl, rfl, ok, tok, hN, tl, ok1 _ (List.of_mem_zip hq).2, hN, few, hk _ (List.of_mem_zip hq).1, ?_⟩
              cases hE : tf (IsEn g t q.1 q.2) with
              | true =>
                walk_at "st"
                exact hG2 (by rw [hE]; rfl) _ ⟨_, _, rfl⟩
              | false =>
                walk_at "st"
                exact hR2 (by rw [hE]; rfl)
            · obtain ⟨x4, x7, rfl⟩ := hI
              rw [any_not, Bool.not_eq_false'] at z
              obtain ⟨es, rfl, eo⟩ := zip_ens (g := g) (t := t) hb.symm ((tfs_all (fun q : Nat × D => IsEn g t q.1 q.2) _).mp z)
              rw [List.length_map] at hb hl1
              have rk : RkOk g left ⟨t, es⟩ := ⟨tl, tn, hb, eo⟩
              walk_at "st"
              simp only [wipeD, List.set]
              refine comp_fV enD (fun e : En => !e.falls) (fun e => D.int e.row) es [] _ (by rw [List.length_nil]; omega) (fun p hp K L hK hL => ?_) ?_
              · unfold enD
                walk_at "st"
                cases hf : p.falls with
                | true =>
                  rw [hf] at hK hL
                  walk_at "st"
                  exact hL rfl
                | false =>
                  rw [hf] at hK hL
                  walk_at "st"
                  exact hK rfl
              · rw [List.nil_append, outR_es hb eo]
                walk_at "st"
                exact hG ⟨t, es⟩ _ _ rfl rk
            · rw [any_not, Bool.not_eq_true'] at z
              refine hR fun ⟨k, e, o⟩ => ?_
              obtain ⟨w1, w2⟩ := inv k e
              injection w1 with w1
              injection w2 with w2
              have w1 := maps_inj (fun _ _ => lnT_inj) w1
              subst w1
              subst w2
              rw [(tfs_all (fun q : Nat × D => IsEn g k.tb q.1 q.2) _).mpr fun q hq => by
                obtain ⟨p, e3, h3⟩ := zip_mapE hq
                exact ⟨p, e3, o.eo _ h3⟩] at z
              cases z
          | _ => cases ety1 <;> (walk_at "st"; exact hR fun ⟨k, e, _⟩ => by have := (inv k e).2; cases this)
        | _ => cases ety2 <;> (walk_at "st"; exact hR fun ⟨_, e, _⟩ => by cases e)
      · walk_at "st"
        exact hy out ⟨nv, ks, rfl, nvo, by rw [e], go⟩
      · injection e with e
        injection e' with e'
        rw [← maps_inj (fun _ _ => nv_inj) e'] at go
        exact n ⟨ks, out, e, go⟩
    | _ => cases ety <;> (walk_at "st"; exact hn fun ⟨_, _, _, _, _, e, _⟩ => by cases e)
  · exact h.elim
theorem ok_L_left (T : Tx P K mg) : FnG P w K mg base 6 T.f_L_left T.d_L_left ["_law_program", "_law_never", "_law_ranks"] (spD K sp_L_left) := by
  have G_L_never_right := ok_L_never_right (P := P) (w := w) (base := base) T
  have G_L_is_table := ok_L_is_table (P := P) (w := w) (base := base) T
  have G_L_entry_right := ok_L_entry_right (P := P) (w := w) (base := base) T
  exact fnG_of (k := 5) (t := t_L_left) T.F_L_left sc_L_left len_L_left
    (fun cdv A outer s H hr => pds_cons (pds_if (pdt_w (pdw_or (pdt_not (pdt_val (pd_call G_L_never_right (hr.mono (by decide)) rfl T.g_L_never_right T.F_L_never_right.kp T.b_L_never_right_2 (pda_cons (pd_var 0) (pda_cons (pd_var 1) (pda_nil)))))) (pdw_or1 (pdt_not (pdt_val (pd_isi .list (by decide) rfl T.n_isinstance rfl T.n_list (by decide +kernel) (by decide) (by decide) (pd_var 2))))))) (pds_one (pds_ret (pd_non))) (pds_nil)) (pds_cons (pds_set (i := 3) sc_L_left.nd rfl (.inr rfl) (pd_lc (own := [("_law_one", 8)]) rfl sc_L_left.nd (pdi_list (pd_var 1)) (blkOk_by (own := [("_law_one", 8)]) (by kernel_rfl)) (fun _ _ _ _ _ => pg_name (i := 8) sc_L_left.nd rfl (by first | exact .inl rfl | exact .inr rfl)) (tg_name (i := 8) (by decide)) (mon_name (i := 8)) (fun _ _ _ _ _ => pdts_nil) (fun _ _ _ _ _ => pd_ix ix_seq opd_ix (pd_var 8) (pd_int)))) (pds_cons (pds_setLc (i := 5) (own := [("_law_row_here", 4)]) rfl sc_L_left.nd rfl rfl (sw_true rfl rfl rfl (by decide +kernel)) (pdi_range1 rfl T.n_range (pda_cons (pd_callB call_len cal_len rfl T.n_len (by decide +kernel) (pda_cons (pd_ix ix_seq opd_ix (pd_var 0) (pd_int)) (pda_nil))) (pda_nil))) (blkOk_by (own := [("_law_row_here", 4)]) (by kernel_rfl)) (fun _ _ _ _ _ => pg_name (i := 4) sc_L_left.nd rfl (by first | exact .inl rfl | exact .inr rfl)) (tg_name (i := 4) (by decide)) (mon_name (i := 4)) (fun _ _ _ _ _ => pdts_one (pdt_cmp (op_notInF hr.r.units) opd_notIn (pd_var 4) (pd_var 3) (by rfl))) (fun _ _ _ _ _ => pd_var 4)) (pds_cons (pds_for (vs := [6]) rfl (pdi_list (pd_var 2)) (pg_name (i := 6) sc_L_left.nd rfl (.inl rfl)) (tg_name (i := 6) (by decide)) (pds_cons (pds_if (pdt_w (pdw_or (pdt_not (pdt_val (pd_isi .tuple (by decide) rfl T.n_isinstance rfl T.n_tuple (by decide +kernel) (by decide) (by decide) (pd_var 6)))) (pdw_or (pdt_cmp (op_neF hr.r.units) opd_ne (pd_callB call_len cal_len rfl T.n_len (by decide +kernel) (pda_cons (pd_var 6) (pda_nil))) (pd_int)) (pdw_or1 (pdt_not (pdt_val (pd_call G_L_is_table (hr.mono (by decide)) rfl T.g_L_is_table T.F_L_is_table.kp T.b_L_is_table_2 (pda_cons (pd_var 0) (pda_cons (pd_ix ix_seq opd_ix (pd_var 6) (pd_int)) (pda_nil)))))))))) (pds_one (pds_ret (pd_non))) (pds_nil)) (pds_cons (pds_if (pdt_w (pdw_or (pdt_not (pdt_val (pd_isi .list (by decide) rfl T.n_isinstance rfl T.n_list (by decide +kernel) (by decide) (by decide) (pd_ix ix_seq opd_ix (pd_var 6) (pd_int))))) (pdw_or1 (pdt_cmp (op_neF hr.r.units) opd_ne (pd_callB call_len cal_len rfl T.n_len (by decide +kernel) (pda_cons (pd_ix ix_seq opd_ix (pd_var 6) (pd_int)) (pda_nil))) (pd_callB call_len cal_len rfl T.n_len (by decide +kernel) (pda_cons (pd_var 5) (pda_nil))))))) (pds_one (pds_ret (pd_non))) (pds_nil)) (pds_cons (pds_for (vs := [4, 7]) rfl (pdi_zip rfl T.n_zip (pda_cons (pd_var 5) (pda_cons (pd_ix ix_seq opd_ix (pd_var 6) (pd_int)) (pda_nil)))) (pg_tup rfl (pgs_cons (pg_name (i := 4) sc_L_left.nd rfl (.inl rfl)) (pgs_cons (pg_name (i := 7) sc_L_left.nd rfl (.inl rfl)) (pgs_nil)))) (tg_tup (tgs_cons (tg_name (i := 4) (by decide)) (tgs_cons (tg_name (i := 7) (by decide)) (tgs_nil) (mon_name (i := 7))) (mon_name (i := 4)))) (pds_one (pds_if (pdt_not (pdt_val (pd_call G_L_entry_right (hr.mono (by decide)) rfl T.g_L_entry_right T.F_L_entry_right.kp T.b_L_entry_right_4 (pda_cons (pd_var 0) (pda_cons (pd_ix ix_seq opd_ix (pd_var 6) (pd_int)) (pda_cons (pd_var 4) (pda_cons (pd_var 7) (pda_nil)))))))) (pds_one (pds_ret (pd_non))) (pds_nil)))) (pds_one (pds_setLc (i := 5) (own := [("_law_entry", 7)]) rfl sc_L_left.nd rfl rfl (sw_true rfl rfl rfl (by decide +kernel)) (pdi_list (pd_ix ix_seq opd_ix (pd_var 6) (pd_int))) (blkOk_by (own := [("_law_entry", 7)]) (by kernel_rfl)) (fun _ _ _ _ _ => pg_name (i := 7) sc_L_left.nd rfl (by first | exact .inl rfl | exact .inr rfl)) (tg_name (i := 7) (by decide)) (mon_name (i := 7)) (fun _ _ _ _ _ => pdts_one (pdt_not (pdt_tru (pd_ix ix_seq opd_ix (pd_var 7) (pd_int))))) (fun _ _ _ _ _ => pd_ix ix_seq opd_ix (pd_var 7) (pd_int)))))))) (pds_one (pds_ret (pd_var 5)))))))
    sem_L_left
mutual
/-- how long repr tells it -/
def wD : D → Nat
  | .int _ => 2000
  | .str x => 10 * x.length + 10
  | .lst xs => wDs xs + 10
  | .tup xs => wDs xs + 10
  | .non => 10
  | .bl _ => 10
  | .fro _ => 10
  | .edic => 10
  | .dct _ => 10
  | .opq _ => 10
  | .exc _ _ _ => 10
def wDs : List D → Nat
  | [] => 0
  | x :: r => wD x + 2 + wDs r
end
theorem wDs_app : ∀ xs ys : List D, wDs (xs ++ ys) = wDs xs + wDs ys
  | [], ys => by show wDs ys = 0 + wDs ys; omega
  | x :: r, ys => by
    show wD x + 2 + wDs (r ++ ys) = wD x + 2 + wDs r + wDs ys
    rw [wDs_app r ys]; omega
theorem wDs_rev : ∀ xs : List D, wDs xs.reverse = wDs xs
  | [] => rfl
  | x :: r => by
    rw [List.reverse_cons, wDs_app, wDs_rev r]
    show wDs r + (wD x + 2 + 0) = wD x + 2 + wDs r
    omega
theorem any_sds {c : Bool} {n L k : Nat} : ∀ xs : List D, (∀ x ∈ xs, Sd x (wD x) (k + 1)) → ∃ ps, toPys xs = some ps ∧ lay1s ps = true ∧ PyData.showableAll ps = true ∧ wts ps ≤ wDs xs ∧ PyData.depthAll ps ≤ k + 1
  | [], _ => ⟨[], rfl, rfl, rfl, Nat.zero_le _, Nat.zero_le _⟩
  | x :: r, h => by
    obtain ⟨p, a, b, c', e, f⟩ := (h x List.mem_cons_self).ex
    obtain ⟨ps, a2, b2, c2, e2, f2⟩ := any_sds (c := c) (n := n) (L := L) r fun y hy => h y (List.mem_cons_of_mem _ hy)
    refine ⟨p :: ps, by unfold toPys; rw [a, a2], Bool.and_eq_true_iff.mpr ⟨b, b2⟩, Bool.and_eq_true_iff.mpr ⟨c', c2⟩, ?_, Nat.max_le.mpr ⟨f, f2⟩⟩
    show wt p + 2 + wts ps ≤ wD x + 2 + wDs r
    omega
theorem Any.sd {c : Bool} {n L k : Nat} {d : D} (h : Any c n L k d) (hn : n ≤ 1900) : Sd d (wD d) (k + 1) := by
  induction h with
  | non => exact sm_non.sd.mono (Nat.le_refl _) (by omega)
  | bl b => exact (sm_bl b).sd.mono (Nat.le_refl _) (by omega)
  | int h => exact (sm_int h hn).sd.mono (Nat.le_refl _) (by omega)
  | str h1 h2 => exact (sm_str _ h2).sd.mono (Nat.le_refl _) (by omega)
  | edic h => exact sd_edic.mono (Nat.le_refl _) (by omega)
  | lst h1 h2 ih =>
    obtain ⟨ps, a, b, c', e, f⟩ := any_sds (c := c) (n := n) (L := L) _ ih
    exact ⟨.list ps, by unfold toPy; rw [a]; rfl, b, c', (by show wts ps + 10 ≤ wDs _ + 10; omega), Nat.succ_le_succ f⟩
  | tup h1 h2 ih =>
    obtain ⟨ps, a, b, c', e, f⟩ := any_sds (c := c) (n := n) (L := L) _ ih
    exact ⟨.tuple ps, by unfold toPy; rw [a]; rfl, b, c', (by show wts ps + 10 ≤ wDs _ + 10; omega), Nat.succ_le_succ f⟩
def tens : Int := 10 ^ Int.toNat 30
/-- odd things in the stead of a part -/
def oddL (d : D) : List D := [.non, .bl true, .str "1", .lst [d], .tup [d], .edic, .tup [], .lst [], .int 0, .int (-1), .int tens, .tup [.int 1, .int 2], .tup [.int 2, .int 2]] ++ [.tup [.int 0, .int 1], .tup [.int (-1), .int 3], .tup [.int 1, .int 0], .bl false]
def sp_L_odd : FS := fun ds ms P => match ds with
  | [.opq (.ref p), d] => PoolAt ms p ∧ ∀ d' ∈ oddL d, ∀ ms', PoolAt ms' p → Chg ms p ms' → P d' ms'
  | _ => False
theorem len_L_odd : ∀ ds ms Q, sp_L_odd ds ms Q → ds.length = 2 := fun ds ms Q h => by
  unfold sp_L_odd at h
  split at h <;> first | rfl | exact h.elim
def t_L_odd : DTS := dSeq (dAsg (dLst (aCons (dC .non) (aCons (dC (.bl true)) (aCons (dC (.str "1")) (aCons (dLst (aCons (dVar 1) (aNil))) (aCons (dTup (aCons (dVar 1) (aNil))) (aCons (dEdic) (aCons (dTup (aNil)) (aCons (dLst (aNil)) (aCons (dC (.int 0)) (aCons (dNeg (dC (.int 1))) (aCons (dOp fPow (dC (.int 10)) (dC (.int 30))) (aCons (dTup (aCons (dC (.int 1)) (aCons (dC (.int 2)) (aNil)))) (aCons (dTup (aCons (dC (.int 2)) (aCons (dC (.int 2)) (aNil)))) (aNil))))))))))))))) (sName 2)) (dRet (dOp fIx (dOp fAdd (dVar 2) (dLst (aCons (dTup (aCons (dC (.int 0)) (aCons (dC (.int 1)) (aNil)))) (aCons (dTup (aCons (dNeg (dC (.int 1))) (aCons (dC (.int 3)) (aNil)))) (aCons (dTup (aCons (dC (.int 1)) (aCons (dC (.int 0)) (aNil)))) (aCons (dC (.bl false)) (aNil))))))) (dCall 2 0 [0, 1] sp_L_take (aCons (dVar 0) (aCons (dC (.int 17)) (aNil))) (aNil))))
theorem sem_L_odd : ∀ ds ms Q, sp_L_odd ds ms Q → t_L_odd { nx := fun _ m => Q .non m, rt := Q } (startD 3 ds) ms := by
  intro ds ms Q h
  unfold sp_L_odd at h
  split at h
  · rename_i p d
    obtain ⟨hp, h⟩ := h
    simp only [startD]
    unfold t_L_odd
    walk_at "st"
    refine take_step hp (by decide) (by decide) fun r a1 b1 m2 p2 c2 => ?_
    walk_at "st"
    refine w_ixm (xs := oddL d) a1 (by show r < 17; omega) fun d' hd => ?_
    exact h d' hd m2 p2 c2
  · exact h.elim
theorem ok_L_odd (T : Tx P K mg) : FnG P w K mg base 2 T.f_L_odd T.d_L_odd ["_law_pool_here", "_law_part"] (spD K sp_L_odd) := by
  have G_L_take := ok_L_take (P := P) (w := w) (base := base) T
  exact fnG_of (k := 1) (t := t_L_odd) T.F_L_odd sc_L_odd len_L_odd
    (fun cdv A outer s H hr => pds_cons (pds_set (i := 2) sc_L_odd.nd rfl (.inl rfl) (pd_lst (pda_cons (pd_non) (pda_cons (pd_bl) (pda_cons (pd_str) (pda_cons (pd_lst (pda_cons (pd_var 1) (pda_nil))) (pda_cons (pd_tup (pda_cons (pd_var 1) (pda_nil))) (pda_cons (pd_dict0) (pda_cons (pd_tup (pda_nil)) (pda_cons (pd_lst (pda_nil)) (pda_cons (pd_int) (pda_cons (pd_neg (pd_int)) (pda_cons (pd_op op_pow opd_pow (pd_int) (pd_int)) (pda_cons (pd_tup (pda_cons (pd_int) (pda_cons (pd_int) (pda_nil)))) (pda_cons (pd_tup (pda_cons (pd_int) (pda_cons (pd_int) (pda_nil)))) (pda_nil)))))))))))))))) (pds_one (pds_ret (pd_ix ix_seq opd_ix (pd_op op_addD opd_add (pd_var 2) (pd_lst (pda_cons (pd_tup (pda_cons (pd_int) (pda_cons (pd_int) (pda_nil)))) (pda_cons (pd_tup (pda_cons (pd_neg (pd_int)) (pda_cons (pd_int) (pda_nil)))) (pda_cons (pd_tup (pda_cons (pd_int) (pda_cons (pd_int) (pda_nil)))) (pda_cons (pd_bl) (pda_nil))))))) (pd_call G_L_take (hr.mono (by decide)) rfl T.g_L_take T.F_L_take.kp T.b_L_take_2 (pda_cons (pd_var 0) (pda_cons (pd_int) (pda_nil))))))))
    sem_L_odd
/-- what a thing may become by being bent -/
structure PutOk (L j : Nat) (d d' : D) : Prop where
  an : Any true 101 (L + 1) (j + 1) d'
  wd : wD d' ≤ 2 * wD d + 9000
theorem any_cl {L j : Nat} {d : D} (h : Any false 100 L j d) : Any true 101 (L + 1) j d := h.mono (fun z => by cases z) (by decide) (by omega) (Nat.le_refl _)
theorem bd1 {n : Nat} {i : Int} (h : i.natAbs < 1073741824) (hn : 30 ≤ n) : Bd n i := (show Bd 30 i by unfold Bd; omega).mono hn
theorem odd_ok {L j : Nat} {d d' : D} (h : Any false 100 L j d) (hL : 2 ≤ L) (hd : d' ∈ oddL d) : PutOk L j d d' := by
  have i2 : ∀ a b : Int, a.natAbs < 1073741824 → b.natAbs < 1073741824 → PutOk L j d (.tup [.int a, .int b]) := fun a b ha hb =>
    ⟨.tup (by show 2 ≤ L + 1; omega) fun x hx => by
      simp only [List.mem_cons, List.not_mem_nil, or_false] at hx
      rcases hx with rfl | rfl
      · exact .int (bd1 ha (by decide))
      · exact .int (bd1 hb (by decide)), by show (2000 + 2 + (2000 + 2 + 0)) + 10 ≤ 2 * wD d + 9000; omega⟩
  have one : Any true 101 (L + 1) j d := any_cl h
  unfold oddL at hd
  simp only [List.cons_append, List.nil_append, List.mem_cons, List.not_mem_nil, or_false] at hd
  rcases hd with rfl | rfl | rfl | rfl | rfl | rfl | rfl | rfl | rfl | rfl | rfl | rfl | rfl | rfl | rfl | rfl | rfl
  · exact ⟨.non, by show 10 ≤ _; omega⟩
  · exact ⟨.bl _, by show 10 ≤ _; omega⟩
  · refine ⟨.str (Nat.le_trans (show (("1" : String) : Str).length ≤ 1 by decide +kernel) (by omega)) (ofString_ok _), ?_⟩
    have : (("1" : String) : Str).length = 1 := by decide +kernel
    show 10 * (("1" : String) : Str).length + 10 ≤ _
    omega
  · refine ⟨.lst (by show 1 ≤ L + 1; omega) fun x hx => ?_, by show (wD d + 2 + 0) + 10 ≤ _; omega⟩
    cases List.mem_singleton.mp hx
    exact one
  · refine ⟨.tup (by show 1 ≤ L + 1; omega) fun x hx => ?_, by show (wD d + 2 + 0) + 10 ≤ _; omega⟩
    cases List.mem_singleton.mp hx
    exact one
  · exact ⟨.edic rfl, by show 10 ≤ _; omega⟩
  · exact ⟨.tup (Nat.zero_le _) (fun x hx => by cases hx), by show 0 + 10 ≤ _; omega⟩
  · exact ⟨.lst (Nat.zero_le _) (fun x hx => by cases hx), by show 0 + 10 ≤ _; omega⟩
  · exact ⟨.int (bd1 (by decide) (by decide)), by show 2000 ≤ _; omega⟩
  · exact ⟨.int (bd1 (by decide) (by decide)), by show 2000 ≤ _; omega⟩
  · exact ⟨.int (show Bd 101 tens by unfold Bd tens; decide +kernel), by show 2000 ≤ _; omega⟩
  · exact i2 _ _ (by decide) (by decide)
  · exact i2 _ _ (by decide) (by decide)
  · exact i2 _ _ (by decide) (by decide)
  · exact i2 _ _ (by decide) (by decide)
  · exact i2 _ _ (by decide) (by decide)
  · exact ⟨.bl _, by show 10 ≤ _; omega⟩
def sr_L_put (j : Nat) : FS := fun ds ms P => match ds with
  | [.opq (.ref p), d] => PoolAt ms p ∧ j ≤ 50 ∧ ∃ L, 2 ≤ L ∧ L ≤ 900 ∧ Any false 100 L j d ∧ ∀ d', PutOk L j d d' → ∀ ms', PoolAt ms' p → Chg ms p ms' → P d' ms'
  | _ => False
def sp_L_put : FS := sr_L_put 6
theorem len_L_put (j : Nat) : ∀ ds ms Q, sr_L_put j ds ms Q → ds.length = 2 := fun ds ms Q h => by
  unfold sr_L_put at h
  split at h <;> first | rfl | exact h.elim
def t_L_put_c2 (RS : FS) : DTS := dSeq (dIfS (dAnd (dTest (dIsi .int (dVar 1))) (dAnd (dNot (dTest (dIsi .bool (dVar 1)))) (dTest (dOp fGt (dCall 2 0 [0, 1] sp_L_take (aCons (dVar 0) (aCons (dC (.int 3)) (aNil))) (aNil)) (dC (.int 0)))))) (dRet (dOp fSub (dOp fAdd (dVar 1) (dC (.int 1))) (dOp fMul (dC (.int 2)) (dCall 2 0 [0, 1] sp_L_take (aCons (dVar 0) (aCons (dC (.int 2)) (aNil))) (aNil))))) (dNext)) (dRet (dCall 2 0 [0, 1] sp_L_odd (aCons (dVar 0) (aCons (dVar 1) (aNil))) (aNil)))
def t_L_put_c1 (RS : FS) : DTS := dSeq (dIfS (dAnd (dTest (dIsi .tuple (dVar 1))) (dAnd (dTest (dOp fNe (dVar 1) (dTup (aNil)))) (dTest (dOp fGt (dCall 2 0 [0, 1] sp_L_take (aCons (dVar 0) (aCons (dC (.int 4)) (aNil))) (aNil)) (dC (.int 0)))))) (dSeq (dAsg (dCall 2 0 [0, 1] sp_L_take (aCons (dVar 0) (aCons (dCB cLen (aCons (dVar 1) (aNil))) (aNil))) (aNil)) (sName 2)) (dSeq (dAsg (dCall 2 0 [0, 1] sp_L_take (aCons (dVar 0) (aCons (dC (.int 9)) (aNil))) (aNil)) (sName 3)) (dSeq (dIfS (dTest (dOp fEq (dVar 3) (dC (.int 0)))) (dRet (dOp fAdd (dSl (dVar 1) (oNone) (oSome (dVar 2))) (dSl (dVar 1) (oSome (dOp fAdd (dVar 2) (dC (.int 1)))) (oNone)))) (dNext)) (dSeq (dIfS (dTest (dOp fEq (dVar 3) (dC (.int 1)))) (dRet (dOp fAdd (dVar 1) (dSl (dVar 1) (oSome (dVar 2)) (oSome (dOp fAdd (dVar 2) (dC (.int 1))))))) (dNext)) (dSeq (dIfS (dTest (dOp fEq (dVar 3) (dC (.int 2)))) (dRet (dCB cList (aCons (dVar 1) (aNil)))) (dNext)) (dRet (dOp fAdd (dOp fAdd (dSl (dVar 1) (oNone) (oSome (dVar 2))) (dTup (aCons (dCall 2 0 [0, 1] RS (aCons (dVar 0) (aCons (dOp fIx (dVar 1) (dVar 2)) (aNil))) (aNil)) (aNil)))) (dSl (dVar 1) (oSome (dOp fAdd (dVar 2) (dC (.int 1)))) (oNone))))))))) (dNext)) (t_L_put_c2 RS)
def t_L_put (RS : FS) : DTS := dSeq (dIfS (dAnd (dTest (dIsi .list (dVar 1))) (dAnd (dTest (dOp fNe (dVar 1) (dLst (aNil)))) (dTest (dOp fGt (dCall 2 0 [0, 1] sp_L_take (aCons (dVar 0) (aCons (dC (.int 4)) (aNil))) (aNil)) (dC (.int 0)))))) (dSeq (dAsg (dCall 2 0 [0, 1] sp_L_take (aCons (dVar 0) (aCons (dCB cLen (aCons (dVar 1) (aNil))) (aNil))) (aNil)) (sName 2)) (dSeq (dAsg (dCall 2 0 [0, 1] sp_L_take (aCons (dVar 0) (aCons (dC (.int 9)) (aNil))) (aNil)) (sName 3)) (dSeq (dIfS (dTest (dOp fEq (dVar 3) (dC (.int 0)))) (dRet (dOp fAdd (dSl (dVar 1) (oNone) (oSome (dVar 2))) (dSl (dVar 1) (oSome (dOp fAdd (dVar 2) (dC (.int 1)))) (oNone)))) (dNext)) (dSeq (dIfS (dTest (dOp fEq (dVar 3) (dC (.int 1)))) (dRet (dOp fAdd (dVar 1) (dSl (dVar 1) (oSome (dVar 2)) (oSome (dOp fAdd (dVar 2) (dC (.int 1))))))) (dNext)) (dSeq (dIfS (dTest (dOp fEq (dVar 3) (dC (.int 2)))) (dRet (dRevL (dVar 1))) (dNext)) (dSeq (dIfS (dTest (dOp fEq (dVar 3) (dC (.int 3)))) (dRet (dCB cTuple (aCons (dVar 1) (aNil)))) (dNext)) (dRet (dOp fAdd (dOp fAdd (dSl (dVar 1) (oNone) (oSome (dVar 2))) (dLst (aCons (dCall 2 0 [0, 1] RS (aCons (dVar 0) (aCons (dOp fIx (dVar 1) (dVar 2)) (aNil))) (aNil)) (aNil)))) (dSl (dVar 1) (oSome (dOp fAdd (dVar 2) (dC (.int 1)))) (oNone)))))))))) (dNext)) ((t_L_put_c1 RS))
theorem split_at {xs : List D} {n : Nat} (h : n < xs.length) : ∃ as x bs, xs = as ++ x :: bs ∧ as.length = n :=
  ⟨xs.take n, xs[n], xs.drop (n + 1), by rw [← List.drop_eq_getElem_cons h, List.take_append_drop], by rw [List.length_take]; omega⟩
theorem cut_l {as bs : List D} {x : D} : cutL (as ++ x :: bs) none (some (as.length : Int)) = as := by
  rw [cutL_to _ _ (by omega), Int.toNat_natCast]
  exact List.take_left
theorem cut_r {as bs : List D} {x : D} : cutL (as ++ x :: bs) (some ((as.length : Int) + 1)) none = bs := by
  rw [cutL_from _ _ (by omega), show ((as.length : Int) + 1).toNat = as.length + 1 by omega, List.drop_append]
  simp
theorem cut_m {as bs : List D} {x : D} : cutL (as ++ x :: bs) (some (as.length : Int)) (some ((as.length : Int) + 1)) = [x] := by
  rw [cutL_mid _ _ _ (by omega) (by omega), Int.toNat_natCast, show ((as.length : Int) + 1 - (as.length : Int)).toNat = 1 by omega, List.drop_left]
  rfl
theorem at_m {as bs : List D} {x : D} : atI (as ++ x :: bs) (as.length : Int) = some x := atI_nat (by rw [List.getElem?_append_right (Nat.le_refl _), Nat.sub_self]; rfl)
/-- the lists that a list may become -/
theorem put_lists {L k : Nat} {as bs : List D} {x : D} (hl : (as ++ x :: bs).length ≤ L) (h : ∀ y ∈ as ++ x :: bs, Any false 100 L k y) :
    ∀ ys, (ys = as ++ bs ∨ ys = as ++ x :: bs ++ [x] ∨ ys = (as ++ x :: bs).reverse ∨ ys = as ++ x :: bs ∨ ∃ x', PutOk L k x x' ∧ ys = as ++ [x'] ++ bs) → ys.length ≤ L + 1 ∧ (∀ y ∈ ys, Any true 101 (L + 1) (k + 1) y) ∧ wDs ys + 10 ≤ 2 * (wDs (as ++ x :: bs) + 10) + 9000 := by
  have hx : ∀ y ∈ as ++ x :: bs, Any true 101 (L + 1) (k + 1) y := fun y hy => (any_cl (h y hy)).up (by omega)
  have ha : ∀ y ∈ as, Any true 101 (L + 1) (k + 1) y := fun y hy => hx y (List.mem_append_left _ hy)
  have hb : ∀ y ∈ bs, Any true 101 (L + 1) (k + 1) y := fun y hy => hx y (List.mem_append_right _ (List.mem_cons_of_mem _ hy))
  have h1 := hx x (List.mem_append_right _ List.mem_cons_self)
  have ew : wDs (as ++ x :: bs) = wDs as + (wD x + 2 + wDs bs) := wDs_app _ _
  have el : (as ++ x :: bs).length = as.length + bs.length + 1 := by rw [List.length_append, List.length_cons]; omega
  intro ys hy
  rcases hy with rfl | rfl | rfl | rfl | ⟨x', ⟨an, wd⟩, rfl⟩
  · refine ⟨by rw [List.length_append]; omega, fun y hy => (List.mem_append.mp hy).elim (ha y) (hb y), ?_⟩
    rw [wDs_app]; omega
  · refine ⟨by rw [List.length_append, List.length_singleton]; omega, fun y hy => (List.mem_append.mp hy).elim (hx y) fun z => by rw [List.mem_singleton.mp z]; exact h1, ?_⟩
    rw [wDs_app (as ++ x :: bs)]
    show wDs (as ++ x :: bs) + (wD x + 2 + 0) + 10 ≤ _
    omega
  · refine ⟨by rw [List.length_reverse]; omega, fun y hy => hx y (List.mem_reverse.mp hy), ?_⟩
    rw [wDs_rev]; omega
  · exact ⟨by omega, hx, by omega⟩
  · refine ⟨by rw [List.length_append, List.length_append, List.length_singleton]; omega, fun y hy => ?_, ?_⟩
    · rcases List.mem_append.mp hy with hy | hy
      · rcases List.mem_append.mp hy with hy | hy
        · exact ha y hy
        · rw [List.mem_singleton.mp hy]; exact an
      · exact hb y hy
    · rw [wDs_app, wDs_app]
      show wDs as + (wD x' + 2 + 0) + wDs bs + 10 ≤ _
      omega
theorem put_c2 {RS : FS} {L j : Nat} {p : Addr} {d : D} {m : MS} {x2 x3 : Option D} {Q : D → MS → Prop} (hp : PoolAt m p) (an : Any false 100 L j d) (hL : 2 ≤ L) (h : ∀ d', PutOk L j d d' → ∀ m', PoolAt m' p → Chg m p m' → Q d' m') :
    t_L_put_c2 RS { nx := fun _ m => Q .non m, rt := Q } [some (.opq (.ref p)), some d, x2, x3] m := by
  have od : ∀ m1, PoolAt m1 p → Chg m p m1 → sp_L_odd [.opq (.ref p), d] m1 Q := fun m1 p1 c1 => ⟨p1, fun d' hd m2 p2 c2 => h d' (odd_ok an hL hd) m2 p2 (c1.trans c2)⟩
  unfold t_L_put_c2
  walk_at "st"
  cases an with
  | int hi =>
    walk_at "st"
    refine take_step hp (by decide) (by decide) fun r a1 b1 m2 p2 c2 => ?_
    walk_at "st"
    by_cases h0 : 0 < r
    · rw [decide_eq_true h0]
      walk_at "st"
      refine take_step p2 (by decide) (by decide) fun r2 a2 b2 m3 p3 c3 => ?_
      walk_at "st"
      refine ⟨.inr (.inr ⟨by omega, by omega⟩), ?_⟩
      walk_at "st"
      refine h _ ⟨.int ?_, by show 2000 ≤ _; omega⟩ m3 p3 (c2.trans c3)
      unfold Bd at hi ⊢
      rw [Nat.pow_succ]
      omega
    · rw [decide_eq_false h0]
      walk_at "st"
      exact od m2 p2 c2
  | bl b =>
    walk_at "st"
    exact od m hp hp.refl
  | non =>
    walk_at "st"
    exact od m hp hp.refl
  | str h1 h2 =>
    walk_at "st"
    exact od m hp hp.refl
  | edic hc => cases hc
  | lst h1 h2 =>
    walk_at "st"
    exact od m hp hp.refl
  | tup h1 h2 =>
    walk_at "st"
    exact od m hp hp.refl
theorem put_c1 {RS : FS} {L j : Nat} (hRS : ∀ i, j = i + 1 → RS = sr_L_put i) {p : Addr} {d : D} {m : MS} {x2 x3 : Option D} {Q : D → MS → Prop} (hp : PoolAt m p) (an : Any false 100 L j d) (hj : j ≤ 50) (hL : 2 ≤ L) (hL9 : L ≤ 900) (h : ∀ d', PutOk L j d d' → ∀ m', PoolAt m' p → Chg m p m' → Q d' m') :
    t_L_put_c1 RS { nx := fun _ m => Q .non m, rt := Q } [some (.opq (.ref p)), some d, x2, x3] m := by
  have rest : ∀ m1 x2 x3, PoolAt m1 p → Chg m p m1 → t_L_put_c2 RS { nx := fun _ m => Q .non m, rt := Q } [some (.opq (.ref p)), some d, x2, x3] m1 := fun m1 x2 x3 p1 c1 =>
    put_c2 p1 an hL fun d' ok m2 p2 c2 => h d' ok m2 p2 (c1.trans c2)
  unfold t_L_put_c1
  walk_at "st"
  have sh := an.sh (by omega)
  cases an with
  | tup h1 h2 =>
    rename_i k xs
    have hR := hRS k rfl
    walk_at "st"
    refine (show ShD _ ∧ ShD (.tup []) ∧ _ from ⟨sh, ⟨_, rfl, rfl⟩, ?_⟩)
    have e0 : (!eqD (.tup xs) (.tup [])) = !xs.isEmpty := by
      obtain ⟨ps, e, _, _⟩ := any_pys (c := false) (n := 100) (L := L) xs (fun x hx => (h2 x hx).py) rfl
      unfold eqD toPy
      rw [e]
      cases xs with
      | nil => unfold toPys at e; cases e; rfl
      | cons x r =>
        have : ps ≠ [] := fun z => by
          subst z
          unfold toPys at e
          cases e1 : toPy x with
          | none => rw [e1] at e; cases e
          | some q => cases e2 : toPys r with
            | none => rw [e1, e2] at e; cases e
            | some qs => rw [e1, e2] at e; cases e
        cases ps with
        | nil => exact absurd rfl this
        | cons q qs => rfl
    rw [e0]
    cases hx : xs.isEmpty with
    | true =>
      walk_at "st"
      exact rest m _ _ hp hp.refl
    | false =>
    have hx : xs ≠ [] := fun z => by rw [z] at hx; cases hx
    have l0 : 0 < xs.length := List.length_pos_iff.mpr hx
    walk_at "st"
    refine take_step hp (by decide) (by decide) fun r a1 b1 m2 p2 c2 => ?_
    walk_at "st"
    by_cases h0 : ¬ 0 < r
    · rw [decide_eq_false h0]
      walk_at "st"
      exact rest m2 _ _ p2 c2
    rw [decide_eq_true (show 0 < r by omega)]
    walk_at "st"
    refine take_step p2 (by omega) (by omega) fun at_ a3 b3 m3 p3 c3 => ?_
    obtain ⟨as, x, bs, rfl, ea⟩ := split_at (xs := xs) (n := at_.toNat) (by omega)
    have ea2 : at_ = (as.length : Int) := by omega
    subst ea2
    have el : (as ++ x :: bs).length = as.length + bs.length + 1 := by rw [List.length_append, List.length_cons]; omega
    have pl := put_lists h1 h2
    have fin : ∀ ys m', (ys = as ++ bs ∨ ys = as ++ x :: bs ++ [x] ∨ ys = (as ++ x :: bs).reverse ∨ ys = as ++ x :: bs ∨ ∃ x', PutOk L k x x' ∧ ys = as ++ [x'] ++ bs) → PoolAt m' p → Chg m p m' → Q (.tup ys) m' ∧ Q (.lst ys) m' := fun ys m' hy p' c' => by
      obtain ⟨q1, q2, q3⟩ := pl ys hy
      exact ⟨h _ ⟨.tup q1 q2, q3⟩ m' p' c', h _ ⟨.lst q1 q2, q3⟩ m' p' c'⟩
    walk_at "st"
    refine take_step p3 (by decide) (by decide) fun way a4 b4 m4 p4 c4 => ?_
    have c24 := (c2.trans c3).trans c4
    walk_at "st"
    by_cases w0 : way = 0
    · rw [w0]
      walk_at "st"
      rw [cut_l, cut_r]
      refine ⟨size_ok (by omega), ?_⟩
      exact (fin _ m4 (.inl rfl) p4 c24).1
    rw [show (way == 0) = false from beq_eq_false_iff_ne.mpr w0]
    walk_at "st"
    by_cases w1 : way = 1
    · rw [w1]
      walk_at "st"
      rw [cut_m]
      refine ⟨size_ok (by rw [List.length_singleton]; omega), ?_⟩
      exact (fin _ m4 (.inr (.inl rfl)) p4 c24).1
    rw [show (way == 1) = false from beq_eq_false_iff_ne.mpr w1]
    walk_at "st"
    by_cases w2 : way = 2
    · rw [w2]
      walk_at "st"
      exact (fin _ m4 (.inr (.inr (.inr (.inl rfl)))) p4 c24).2
    rw [show (way == 2) = false from beq_eq_false_iff_ne.mpr w2]
    walk_at "st"
    rw [cut_l]
    refine w_ix_t at_m ?_
    walk_at "st"
    rw [hR]
    refine ⟨p4, by omega, L, hL, hL9, h2 x (List.mem_append_right _ List.mem_cons_self), fun x' ok m5 p5 c5 => ?_⟩
    walk_at "st"
    refine ⟨size_ok (by rw [List.length_singleton]; omega), ?_⟩
    walk_at "st"
    rw [cut_r]
    refine ⟨size_ok (by rw [List.length_append, List.length_singleton]; omega), ?_⟩
    exact (fin _ m5 (.inr (.inr (.inr (.inr ⟨x', ok, rfl⟩)))) p5 (c24.trans c5)).1
  | edic hc => cases hc
  | _ =>
    walk_at "st"
    exact rest m _ _ hp hp.refl
theorem sem_L_put (j : Nat) (RS : FS) (hRS : ∀ i, j = i + 1 → RS = sr_L_put i) : ∀ ds ms Q, sr_L_put j ds ms Q → t_L_put RS { nx := fun _ m => Q .non m, rt := Q } (startD 4 ds) ms := by
  intro ds ms Q h
  unfold sr_L_put at h
  split at h
  · rename_i p d
    obtain ⟨hp, hj, L, hL, hL9, an, h⟩ := h
    have rest : ∀ m1 x2 x3, PoolAt m1 p → Chg ms p m1 → t_L_put_c1 RS { nx := fun _ m => Q .non m, rt := Q } [some (.opq (.ref p)), some d, x2, x3] m1 := fun m1 x2 x3 p1 c1 =>
      put_c1 hRS p1 an hj hL hL9 fun d' ok m2 p2 c2 => h d' ok m2 p2 (c1.trans c2)
    simp only [startD]
    unfold t_L_put
    walk_at "st"
    cases an with
    | lst h1 h2 =>
      rename_i k xs
      have hR := hRS k rfl
      walk_at "st"
      cases hx : xs.isEmpty with
      | true =>
        walk_at "st"
        exact rest ms _ _ hp hp.refl
      | false =>
      have hx : xs ≠ [] := fun z => by rw [z] at hx; cases hx
      have l0 : 0 < xs.length := List.length_pos_iff.mpr hx
      walk_at "st"
      refine take_step hp (by decide) (by decide) fun r a1 b1 m2 p2 c2 => ?_
      walk_at "st"
      by_cases h0 : ¬ 0 < r
      · rw [decide_eq_false h0]
        walk_at "st"
        exact rest m2 _ _ p2 c2
      rw [decide_eq_true (show 0 < r by omega)]
      walk_at "st"
      refine take_step p2 (by omega) (by omega) fun at_ a3 b3 m3 p3 c3 => ?_
      obtain ⟨as, x, bs, rfl, ea⟩ := split_at (xs := xs) (n := at_.toNat) (by omega)
      have ea2 : at_ = (as.length : Int) := by omega
      subst ea2
      have el : (as ++ x :: bs).length = as.length + bs.length + 1 := by rw [List.length_append, List.length_cons]; omega
      have pl := put_lists h1 h2
      have fin : ∀ ys m', (ys = as ++ bs ∨ ys = as ++ x :: bs ++ [x] ∨ ys = (as ++ x :: bs).reverse ∨ ys = as ++ x :: bs ∨ ∃ x', PutOk L k x x' ∧ ys = as ++ [x'] ++ bs) → PoolAt m' p → Chg ms p m' → Q (.tup ys) m' ∧ Q (.lst ys) m' := fun ys m' hy p' c' => by
        obtain ⟨q1, q2, q3⟩ := pl ys hy
        exact ⟨h _ ⟨.tup q1 q2, q3⟩ m' p' c', h _ ⟨.lst q1 q2, q3⟩ m' p' c'⟩
      walk_at "st"
      refine take_step p3 (by decide) (by decide) fun way a4 b4 m4 p4 c4 => ?_
      have c24 := (c2.trans c3).trans c4
      walk_at "st"
      by_cases w0 : way = 0
      · rw [w0]
        walk_at "st"
        rw [cut_l, cut_r]
        refine ⟨size_ok (by omega), ?_⟩
        exact (fin _ m4 (.inl rfl) p4 c24).2
      rw [show (way == 0) = false from beq_eq_false_iff_ne.mpr w0]
      walk_at "st"
      by_cases w1 : way = 1
      · rw [w1]
        walk_at "st"
        rw [cut_m]
        refine ⟨size_ok (by rw [List.length_singleton]; omega), ?_⟩
        exact (fin _ m4 (.inr (.inl rfl)) p4 c24).2
      rw [show (way == 1) = false from beq_eq_false_iff_ne.mpr w1]
      walk_at "st"
      by_cases w2 : way = 2
      · rw [w2]
        walk_at "st"
        exact (fin _ m4 (.inr (.inr (.inl rfl))) p4 c24).2
      rw [show (way == 2) = false from beq_eq_false_iff_ne.mpr w2]
      walk_at "st"
      by_cases w3 : way = 3
      · rw [w3]
        walk_at "st"
        exact (fin _ m4 (.inr (.inr (.inr (.inl rfl)))) p4 c24).1
      rw [show (way == 3) = false from beq_eq_false_iff_ne.mpr w3]
      walk_at "st"
      rw [cut_l]
      refine w_ix_l at_m ?_
      walk_at "st"
      rw [hR]
      refine ⟨p4, by omega, L, hL, hL9, h2 x (List.mem_append_right _ List.mem_cons_self), fun x' ok m5 p5 c5 => ?_⟩
      walk_at "st"
      refine ⟨size_ok (by rw [List.length_singleton]; omega), ?_⟩
      walk_at "st"
      rw [cut_r]
      refine ⟨size_ok (by rw [List.length_append, List.length_singleton]; omega), ?_⟩
      exact (fin _ m5 (.inr (.inr (.inr (.inr ⟨x', ok, rfl⟩)))) p5 (c24.trans c5)).2
    | edic hc => cases hc
    | _ =>
      walk_at "st"
      exact rest ms _ _ hp hp.refl
  · exact h.elim
theorem okr_L_put (T : Tx P K mg) (j : Nat) : FnG P w K mg base (3 + j) T.f_L_put T.d_L_put ["_law_pool_here", "_law_thing"] (spD K (sr_L_put j)) := by
  have G_L_odd := ok_L_odd (P := P) (w := w) (base := base) T
  have G_L_take := ok_L_take (P := P) (w := w) (base := base) T
  induction j with
  | zero =>
    have G_L_put := (FnG.none : FnG P w K mg base 2 T.f_L_put T.d_L_put ["_law_pool_here", "_law_thing"] (spD K noFS))
    exact fnG_of (k := 2) (t := t_L_put noFS) T.F_L_put sc_L_put (len_L_put _)
      (fun cdv A outer s H hr => pds_cons (pds_if (pdt_w (pdw_and (pdt_val (pd_isi .list (by decide) rfl T.n_isinstance rfl T.n_list (by decide +kernel) (by decide) (by decide) (pd_var 1))) (pdw_and (pdt_cmp (op_neF hr.r.units) opd_ne (pd_var 1) (pd_lst (pda_nil))) (pdw_and1 (pdt_cmp op_gt opd_gt (pd_call G_L_take (hr.mono (by omega)) rfl T.g_L_take T.F_L_take.kp T.b_L_take_2 (pda_cons (pd_var 0) (pda_cons (pd_int) (pda_nil)))) (pd_int)))))) (pds_cons (pds_set (i := 2) sc_L_put.nd rfl (.inl rfl) (pd_call G_L_take (hr.mono (by omega)) rfl T.g_L_take T.F_L_take.kp T.b_L_take_2 (pda_cons (pd_var 0) (pda_cons (pd_callB call_len cal_len rfl T.n_len (by decide +kernel) (pda_cons (pd_var 1) (pda_nil))) (pda_nil))))) (pds_cons (pds_set (i := 3) sc_L_put.nd rfl (.inl rfl) (pd_call G_L_take (hr.mono (by omega)) rfl T.g_L_take T.F_L_take.kp T.b_L_take_2 (pda_cons (pd_var 0) (pda_cons (pd_int) (pda_nil))))) (pds_cons (pds_if (pdt_cmp (op_eqF hr.r.units) opd_eq (pd_var 3) (pd_int)) (pds_one (pds_ret (pd_op op_addD opd_add (pd_slice (pd_var 1) (pdo_none) (pdo_some (pd_var 2))) (pd_slice (pd_var 1) (pdo_some (pd_op op_addD opd_add (pd_var 2) (pd_int))) (pdo_none))))) (pds_nil)) (pds_cons (pds_if (pdt_cmp (op_eqF hr.r.units) opd_eq (pd_var 3) (pd_int)) (pds_one (pds_ret (pd_op op_addD opd_add (pd_var 1) (pd_slice (pd_var 1) (pdo_some (pd_var 2)) (pdo_some (pd_op op_addD opd_add (pd_var 2) (pd_int))))))) (pds_nil)) (pds_cons (pds_if (pdt_cmp (op_eqF hr.r.units) opd_eq (pd_var 3) (pd_int)) (pds_one (pds_ret (pd_revL (pd_var 1)))) (pds_nil)) (pds_cons (pds_if (pdt_cmp (op_eqF hr.r.units) opd_eq (pd_var 3) (pd_int)) (pds_one (pds_ret (pd_callTy call_tuple_of cal_tuple rfl T.n_tuple (by decide +kernel) (pda_cons (pd_var 1) (pda_nil))))) (pds_nil)) (pds_one (pds_ret (pd_op op_addD opd_add (pd_op op_addD opd_add (pd_slice (pd_var 1) (pdo_none) (pdo_some (pd_var 2))) (pd_lst (pda_cons (pd_call G_L_put (hr.mono (by omega)) rfl T.g_L_put T.F_L_put.kp T.b_L_put_2 (pda_cons (pd_var 0) (pda_cons (pd_ix ix_seq opd_ix (pd_var 1) (pd_var 2)) (pda_nil)))) (pda_nil)))) (pd_slice (pd_var 1) (pdo_some (pd_op op_addD opd_add (pd_var 2) (pd_int))) (pdo_none))))))))))) (pds_nil)) (pds_cons (pds_if (pdt_w (pdw_and (pdt_val (pd_isi .tuple (by decide) rfl T.n_isinstance rfl T.n_tuple (by decide +kernel) (by decide) (by decide) (pd_var 1))) (pdw_and (pdt_cmp (op_neF hr.r.units) opd_ne (pd_var 1) (pd_tup (pda_nil))) (pdw_and1 (pdt_cmp op_gt opd_gt (pd_call G_L_take (hr.mono (by omega)) rfl T.g_L_take T.F_L_take.kp T.b_L_take_2 (pda_cons (pd_var 0) (pda_cons (pd_int) (pda_nil)))) (pd_int)))))) (pds_cons (pds_set (i := 2) sc_L_put.nd rfl (.inl rfl) (pd_call G_L_take (hr.mono (by omega)) rfl T.g_L_take T.F_L_take.kp T.b_L_take_2 (pda_cons (pd_var 0) (pda_cons (pd_callB call_len cal_len rfl T.n_len (by decide +kernel) (pda_cons (pd_var 1) (pda_nil))) (pda_nil))))) (pds_cons (pds_set (i := 3) sc_L_put.nd rfl (.inl rfl) (pd_call G_L_take (hr.mono (by omega)) rfl T.g_L_take T.F_L_take.kp T.b_L_take_2 (pda_cons (pd_var 0) (pda_cons (pd_int) (pda_nil))))) (pds_cons (pds_if (pdt_cmp (op_eqF hr.r.units) opd_eq (pd_var 3) (pd_int)) (pds_one (pds_ret (pd_op op_addD opd_add (pd_slice (pd_var 1) (pdo_none) (pdo_some (pd_var 2))) (pd_slice (pd_var 1) (pdo_some (pd_op op_addD opd_add (pd_var 2) (pd_int))) (pdo_none))))) (pds_nil)) (pds_cons (pds_if (pdt_cmp (op_eqF hr.r.units) opd_eq (pd_var 3) (pd_int)) (pds_one (pds_ret (pd_op op_addD opd_add (pd_var 1) (pd_slice (pd_var 1) (pdo_some (pd_var 2)) (pdo_some (pd_op op_addD opd_add (pd_var 2) (pd_int))))))) (pds_nil)) (pds_cons (pds_if (pdt_cmp (op_eqF hr.r.units) opd_eq (pd_var 3) (pd_int)) (pds_one (pds_ret (pd_callTy call_list_of cal_list rfl T.n_list (by decide +kernel) (pda_cons (pd_var 1) (pda_nil))))) (pds_nil)) (pds_one (pds_ret (pd_op op_addD opd_add (pd_op op_addD opd_add (pd_slice (pd_var 1) (pdo_none) (pdo_some (pd_var 2))) (pd_tup (pda_cons (pd_call G_L_put (hr.mono (by omega)) rfl T.g_L_put T.F_L_put.kp T.b_L_put_2 (pda_cons (pd_var 0) (pda_cons (pd_ix ix_seq opd_ix (pd_var 1) (pd_var 2)) (pda_nil)))) (pda_nil)))) (pd_slice (pd_var 1) (pdo_some (pd_op op_addD opd_add (pd_var 2) (pd_int))) (pdo_none)))))))))) (pds_nil)) (pds_cons (pds_if (pdt_w (pdw_and (pdt_val (pd_isi .int (by decide) rfl T.n_isinstance rfl T.n_int (by decide +kernel) (by decide) (by decide) (pd_var 1))) (pdw_and (pdt_not (pdt_val (pd_isi .bool (by decide) rfl T.n_isinstance rfl T.n_bool (by decide +kernel) (by decide) (by decide) (pd_var 1)))) (pdw_and1 (pdt_cmp op_gt opd_gt (pd_call G_L_take (hr.mono (by omega)) rfl T.g_L_take T.F_L_take.kp T.b_L_take_2 (pda_cons (pd_var 0) (pda_cons (pd_int) (pda_nil)))) (pd_int)))))) (pds_one (pds_ret (pd_op op_sub opd_sub (pd_op op_addD opd_add (pd_var 1) (pd_int)) (pd_op op_mulA opd_mul (pd_int) (pd_call G_L_take (hr.mono (by omega)) rfl T.g_L_take T.F_L_take.kp T.b_L_take_2 (pda_cons (pd_var 0) (pda_cons (pd_int) (pda_nil)))))))) (pds_nil)) (pds_one (pds_ret (pd_call G_L_odd (hr.mono (by omega)) rfl T.g_L_odd T.F_L_odd.kp T.b_L_odd_2 (pda_cons (pd_var 0) (pda_cons (pd_var 1) (pda_nil)))))))))
      (sem_L_put _ _ (fun i e => by first | (injection e with e; subst e; rfl) | cases e))
  | succ j ih =>
    have G_L_put := ih
    exact fnG_of (k := 3 + j) (t := t_L_put (sr_L_put j)) T.F_L_put sc_L_put (len_L_put _)
      (fun cdv A outer s H hr => pds_cons (pds_if (pdt_w (pdw_and (pdt_val (pd_isi .list (by decide) rfl T.n_isinstance rfl T.n_list (by decide +kernel) (by decide) (by decide) (pd_var 1))) (pdw_and (pdt_cmp (op_neF hr.r.units) opd_ne (pd_var 1) (pd_lst (pda_nil))) (pdw_and1 (pdt_cmp op_gt opd_gt (pd_call G_L_take (hr.mono (by omega)) rfl T.g_L_take T.F_L_take.kp T.b_L_take_2 (pda_cons (pd_var 0) (pda_cons (pd_int) (pda_nil)))) (pd_int)))))) (pds_cons (pds_set (i := 2) sc_L_put.nd rfl (.inl rfl) (pd_call G_L_take (hr.mono (by omega)) rfl T.g_L_take T.F_L_take.kp T.b_L_take_2 (pda_cons (pd_var 0) (pda_cons (pd_callB call_len cal_len rfl T.n_len (by decide +kernel) (pda_cons (pd_var 1) (pda_nil))) (pda_nil))))) (pds_cons (pds_set (i := 3) sc_L_put.nd rfl (.inl rfl) (pd_call G_L_take (hr.mono (by omega)) rfl T.g_L_take T.F_L_take.kp T.b_L_take_2 (pda_cons (pd_var 0) (pda_cons (pd_int) (pda_nil))))) (pds_cons (pds_if (pdt_cmp (op_eqF hr.r.units) opd_eq (pd_var 3) (pd_int)) (pds_one (pds_ret (pd_op op_addD opd_add (pd_slice (pd_var 1) (pdo_none) (pdo_some (pd_var 2))) (pd_slice (pd_var 1) (pdo_some (pd_op op_addD opd_add (pd_var 2) (pd_int))) (pdo_none))))) (pds_nil)) (pds_cons (pds_if (pdt_cmp (op_eqF hr.r.units) opd_eq (pd_var 3) (pd_int)) (pds_one (pds_ret (pd_op op_addD opd_add (pd_var 1) (pd_slice (pd_var 1) (pdo_some (pd_var 2)) (pdo_some (pd_op op_addD opd_add (pd_var 2) (pd_int))))))) (pds_nil)) (pds_cons (pds_if (pdt_cmp (op_eqF hr.r.units) opd_eq (pd_var 3) (pd_int)) (pds_one (pds_ret (pd_revL (pd_var 1)))) (pds_nil)) (pds_cons (pds_if (pdt_cmp (op_eqF hr.r.units) opd_eq (pd_var 3) (pd_int)) (pds_one (pds_ret (pd_callTy call_tuple_of cal_tuple rfl T.n_tuple (by decide +kernel) (pda_cons (pd_var 1) (pda_nil))))) (pds_nil)) (pds_one (pds_ret (pd_op op_addD opd_add (pd_op op_addD opd_add (pd_slice (pd_var 1) (pdo_none) (pdo_some (pd_var 2))) (pd_lst (pda_cons (pd_call G_L_put (hr.mono (by omega)) rfl T.g_L_put T.F_L_put.kp T.b_L_put_2 (pda_cons (pd_var 0) (pda_cons (pd_ix ix_seq opd_ix (pd_var 1) (pd_var 2)) (pda_nil)))) (pda_nil)))) (pd_slice (pd_var 1) (pdo_some (pd_op op_addD opd_add (pd_var 2) (pd_int))) (pdo_none))))))))))) (pds_nil)) (pds_cons (pds_if (pdt_w (pdw_and (pdt_val (pd_isi .tuple (by decide) rfl T.n_isinstance rfl T.n_tuple (by decide +kernel) (by decide) (by decide) (pd_var 1))) (pdw_and (pdt_cmp (op_neF hr.r.units) opd_ne (pd_var 1) (pd_tup (pda_nil))) (pdw_and1 (pdt_cmp op_gt opd_gt (pd_call G_L_take (hr.mono (by omega)) rfl T.g_L_take T.F_L_take.kp T.b_L_take_2 (pda_cons (pd_var 0) (pda_cons (pd_int) (pda_nil)))) (pd_int)))))) (pds_cons (pds_set (i := 2) sc_L_put.nd rfl (.inl rfl) (pd_call G_L_take (hr.mono (by omega)) rfl T.g_L_take T.F_L_take.kp T.b_L_take_2 (pda_cons (pd_var 0) (pda_cons (pd_callB call_len cal_len rfl T.n_len (by decide +kernel) (pda_cons (pd_var 1) (pda_nil))) (pda_nil))))) (pds_cons (pds_set (i := 3) sc_L_put.nd rfl (.inl rfl) (pd_call G_L_take (hr.mono (by omega)) rfl T.g_L_take T.F_L_take.kp T.b_L_take_2 (pda_cons (pd_var 0) (pda_cons (pd_int) (pda_nil))))) (pds_cons (pds_if (pdt_cmp (op_eqF hr.r.units) opd_eq (pd_var 3) (pd_int)) (pds_one (pds_ret (pd_op op_addD opd_add (pd_slice (pd_var 1) (pdo_none) (pdo_some (pd_var 2))) (pd_slice (pd_var 1) (pdo_some (pd_op op_addD opd_add (pd_var 2) (pd_int))) (pdo_none))))) (pds_nil)) (pds_cons (pds_if (pdt_cmp (op_eqF hr.r.units) opd_eq (pd_var 3) (pd_int)) (pds_one (pds_ret (pd_op op_addD opd_add (pd_var 1) (pd_slice (pd_var 1) (pdo_some (pd_var 2)) (pdo_some (pd_op op_addD opd_add (pd_var 2) (pd_int))))))) (pds_nil)) (pds_cons (pds_if (pdt_cmp (op_eqF hr.r.units) opd_eq (pd_var 3) (pd_int)) (pds_one (pds_ret (pd_callTy call_list_of cal_list rfl T.n_list (by decide +kernel) (pda_cons (pd_var 1) (pda_nil))))) (pds_nil)) (pds_one (pds_ret (pd_op op_addD opd_add (pd_op op_addD opd_add (pd_slice (pd_var 1) (pdo_none) (pdo_some (pd_var 2))) (pd_tup (pda_cons (pd_call G_L_put (hr.mono (by omega)) rfl T.g_L_put T.F_L_put.kp T.b_L_put_2 (pda_cons (pd_var 0) (pda_cons (pd_ix ix_seq opd_ix (pd_var 1) (pd_var 2)) (pda_nil)))) (pda_nil)))) (pd_slice (pd_var 1) (pdo_some (pd_op op_addD opd_add (pd_var 2) (pd_int))) (pdo_none)))))))))) (pds_nil)) (pds_cons (pds_if (pdt_w (pdw_and (pdt_val (pd_isi .int (by decide) rfl T.n_isinstance rfl T.n_int (by decide +kernel) (by decide) (by decide) (pd_var 1))) (pdw_and (pdt_not (pdt_val (pd_isi .bool (by decide) rfl T.n_isinstance rfl T.n_bool (by decide +kernel) (by decide) (by decide) (pd_var 1)))) (pdw_and1 (pdt_cmp op_gt opd_gt (pd_call G_L_take (hr.mono (by omega)) rfl T.g_L_take T.F_L_take.kp T.b_L_take_2 (pda_cons (pd_var 0) (pda_cons (pd_int) (pda_nil)))) (pd_int)))))) (pds_one (pds_ret (pd_op op_sub opd_sub (pd_op op_addD opd_add (pd_var 1) (pd_int)) (pd_op op_mulA opd_mul (pd_int) (pd_call G_L_take (hr.mono (by omega)) rfl T.g_L_take T.F_L_take.kp T.b_L_take_2 (pda_cons (pd_var 0) (pda_cons (pd_int) (pda_nil)))))))) (pds_nil)) (pds_one (pds_ret (pd_call G_L_odd (hr.mono (by omega)) rfl T.g_L_odd T.F_L_odd.kp T.b_L_odd_2 (pda_cons (pd_var 0) (pda_cons (pd_var 1) (pda_nil)))))))))
      (sem_L_put _ _ (fun i e => by first | (injection e with e; subst e; rfl) | cases e))
theorem ok_L_put (T : Tx P K mg) : FnG P w K mg base 9 T.f_L_put T.d_L_put ["_law_pool_here", "_law_thing"] (spD K sp_L_put) := okr_L_put T 6
def sp_L_row : FS := fun ds ms P => match ds with
  | [.opq (.ref p), .int sz, .int pl] => PoolAt ms p ∧ 1 ≤ sz ∧ sz ≤ 3 ∧ 1 ≤ pl ∧ pl ≤ 6 ∧ ∀ r : Rw, RwOk 5 sz.toNat pl.toNat r → r.ws.length ≤ 8 → ∀ ms', PoolAt ms' p → Chg ms p ms' → P (rwD r) ms'
  | _ => False
theorem len_L_row : ∀ ds ms Q, sp_L_row ds ms Q → ds.length = 3 := fun ds ms Q h => by
  unfold sp_L_row at h
  split at h <;> first | rfl | exact h.elim
def t_L_row : DTS := dSeq (dAsg (dCall 2 0 [0, 1] sp_L_take (aCons (dVar 0) (aCons (dVar 2) (aNil))) (aNil)) (sName 3)) (dSeq (dAsg (dCall 2 0 [0, 1] sp_L_take (aCons (dVar 0) (aCons (dVar 2) (aNil))) (aNil)) (sName 4)) (dSeq (dAsg (dLstM (aNil)) (sName 5)) (dSeq (dAsg (dCall 2 0 [0, 1] sp_L_take (aCons (dVar 0) (aCons (dC (.int 4)) (aNil))) (aNil)) (sName 6)) (dSeq (dIfS (dTest (dOp fEq (dVar 6) (dC (.int 0)))) (dSeq (dFor (iRange1 (aCons (dOp fAdd (dC (.int 1)) (dCall 2 0 [0, 1] sp_L_take (aCons (dVar 0) (aCons (dC (.int 3)) (aNil))) (aNil))) (aNil))) (sName 7) (dDrop (dAppend (dVar 5) (aCons (dTup (aCons (dOp fIx (dLst (aCons (dC (.str "least")) (aCons (dC (.str "least")) (aCons (dC (.str "just")) (aNil))))) (dCall 2 0 [0, 1] sp_L_take (aCons (dVar 0) (aCons (dC (.int 3)) (aNil))) (aNil))) (aCons (dCall 3 0 [0, 1, 2] sp_L_line (aCons (dVar 0) (aCons (dOp fMul (dC (.int 2)) (dVar 1)) (aCons (dC (.int 2)) (aNil)))) (aNil)) (aNil)))) (aNil))))) (dRet (dTup (aCons (dVar 3) (aCons (dVar 4) (aCons (dFrz (dVar 5)) (aNil))))))) (dNext)) (dSeq (dFor (iRange1 (aCons (dVar 1) (aNil))) (sName 8) (dSeq (dAsg (dCall 2 0 [0, 1] sp_L_take (aCons (dVar 0) (aCons (dC (.int 5)) (aNil))) (aNil)) (sName 9)) (dIfS (dTest (dOp fLt (dVar 9) (dC (.int 4)))) (dSeq (dAsg (dOp fAddM (dLst (aCons (dOp fSub (dC (.int 2)) (dCall 2 0 [0, 1] sp_L_take (aCons (dVar 0) (aCons (dC (.int 5)) (aNil))) (aNil))) (aNil))) (dOp fMul (dLst (aCons (dC (.int 0)) (aNil))) (dOp fMul (dC (.int 2)) (dVar 1)))) (sName 10)) (dSeq (dSetIx (dVar 10) (dOp fAdd (dOp fAdd (dC (.int 1)) (dVar 1)) (dVar 8)) (dC (.int 1))) (dSeq (dAsg (dOp fIx (dLst (aCons (dVar 8) (aCons (dVar 8) (aCons (dVar 8) (aCons (dCall 2 0 [0, 1] sp_L_take (aCons (dVar 0) (aCons (dVar 1) (aNil))) (aNil)) (aNil)))))) (dVar 9)) (sName 11)) (dSeq (dSetIx (dVar 10) (dOp fAdd (dC (.int 1)) (dVar 11)) (dOp fSub (dOp fIx (dVar 10) (dOp fAdd (dC (.int 1)) (dVar 11))) (dC (.int 1)))) (dDrop (dAppend (dVar 5) (aCons (dTup (aCons (dOp fIx (dLst (aCons (dC (.str "just")) (aCons (dC (.str "just")) (aCons (dC (.str "least")) (aNil))))) (dCall 2 0 [0, 1] sp_L_take (aCons (dVar 0) (aCons (dC (.int 3)) (aNil))) (aNil))) (aCons (dFrz (dVar 10)) (aNil)))) (aNil)))))))) (dNext)))) (dSeq (dFor (iRange1 (aCons (dCall 2 0 [0, 1] sp_L_take (aCons (dVar 0) (aCons (dC (.int 3)) (aNil))) (aNil)) (aNil))) (sName 7) (dDrop (dAppend (dVar 5) (aCons (dTup (aCons (dC (.str "least")) (aCons (dOp fAdd (dCall 3 0 [0, 1, 2] sp_L_line (aCons (dVar 0) (aCons (dVar 1) (aCons (dC (.int 1)) (aNil)))) (aNil)) (dOp fMul (dLst (aCons (dC (.int 0)) (aNil))) (dVar 1))) (aNil)))) (aNil))))) (dRet (dTup (aCons (dVar 3) (aCons (dVar 4) (aCons (dFrz (dVar 5)) (aNil))))))))))))
/-- wishes that are being made -/
structure Mk (m0 : MS) (p q : Addr) (n k : Nat) (ms : MS) (ws : List Wi) : Prop where
  ex : ∃ m, ms = (q, ws.map wiD) :: m ∧ PoolAt m p ∧ Chg m0 p m
  wl : ws.length ≤ k
  wo : ∀ w ∈ ws, WiOk 5 n w
theorem Mk.add {m0 ms : MS} {p q : Addr} {n k : Nat} {ws : List Wi} {w : Wi} {m : MS} (h : Mk m0 p q n k ms ws) (hm : PoolAt m p) (hc : Chg m0 p m) (hw : WiOk 5 n w) : Mk m0 p q n (k + 1) ((q, (ws ++ [w]).map wiD) :: m) (ws ++ [w]) :=
  ⟨⟨m, rfl, hm, hc⟩, by rw [List.length_append]; exact Nat.succ_le_succ h.wl, fun z hz => by
    rcases List.mem_append.mp hz with hz | hz
    · exact h.wo z hz
    · rw [List.mem_singleton.mp hz]; exact hw⟩
theorem Mk.up {m0 ms : MS} {p q : Addr} {n k k' : Nat} {ws : List Wi} (h : Mk m0 p q n k ms ws) (hk : k ≤ k') : Mk m0 p q n k' ms ws := ⟨h.ex, Nat.le_trans h.wl hk, h.wo⟩
theorem sem_L_row : ∀ ds ms Q, sp_L_row ds ms Q → t_L_row { nx := fun _ m => Q .non m, rt := Q } (startD 12 ds) ms := by
  intro ds ms Q h
  unfold sp_L_row at h
  split at h
  · rename_i p sz pl
    obtain ⟨hp, s1, s3, l1, l6, h⟩ := h
    have fin : ∀ {q : Addr} {k : Nat} {m : MS} {ws : List Wi} {a b : Int}, Mk ms p q (2 * sz.toNat) k m ws → k ≤ 8 → 0 ≤ a → a < pl → 0 ≤ b → b < pl → Q (.tup [.int a, .int b, .lst (ws.map wiD)]) (drp m q) := by
      intro q k m ws a b hM hk a0 a1 b0 b1
      obtain ⟨m', rfl, hm, hc⟩ := hM.ex
      rw [drp_new]
      exact h ⟨a, b, ws⟩ ⟨a0, by show a < _; omega, b0, by show b < _; omega, Nat.le_trans hM.wl (by omega), hM.wo⟩ (Nat.le_trans hM.wl hk) m' hm hc
    simp only [startD]
    unfold t_L_row
    walk_at "st"
    refine take_step hp (by omega) (by omega) fun a a0 a1 m1 p1 c1 => ?_
    walk_at "st"
    refine take_step p1 (by omega) (by omega) fun b b0 b1 m2 p2 c2 => ?_
    walk_at "st"
    refine fun q hq => ?_
    walk_at "st"
    have hne := p2.ne hq
    refine take_stepC hne p2 (by decide) (by decide) fun r3 a3 b3 m3 p3 c3 => ?_
    have hM0 : Mk ms p q (2 * sz.toNat) 0 ((q, []) :: m3) [] := ⟨⟨m3, rfl, p3, c1.trans (c2.trans c3)⟩, Nat.le_refl _, fun w hw => by cases hw⟩
    walk_at "st"
    cases hr : r3 == 0 with
    | true =>
      refine w_iteT rfl ?_
      walk_at "st"
      refine take_stepC hne p3 (by decide) (by decide) fun r4 a4 b4 m4 p4 c4 => ?_
      walk_at "st"
      refine w_mRng ⟨by omega, by omega⟩ ?_
      have hM4 : Mk ms p q (2 * sz.toNat) 0 ((q, []) :: m4) [] := ⟨⟨m4, rfl, p4, (c1.trans (c2.trans c3)).trans c4⟩, Nat.le_refl _, fun w hw => by cases hw⟩
      refine loop_n (fun k ds m => ∃ ws x7 x8 x9 x10 x11, Mk ms p q (2 * sz.toNat) k m ws ∧ ds = [some (.opq (.ref p)), some (.int sz), some (.int pl), some (.int a), some (.int b), some (.opq (.ref q)), some (.int r3), x7, x8, x9, x10, x11]) 3 _ 0 _ _ (by rw [rng_len]; omega) ⟨[], _, _, _, _, _, hM4, rfl⟩ ?_ ?_
      · rintro x hx k ds m hk ⟨ws, x7, x8, x9, x10, x11, hM, rfl⟩ N hN
        obtain ⟨m5, rfl, p5, c5⟩ := hM.ex
        walk_at "st"
        refine take_stepC hne p5 (by decide) (by decide) fun r6 a6 b6 m6 p6 c6 => ?_
        walk_at "st"
        refine w_ixm a6 b6 fun d hd => ?_
        obtain ⟨j, rfl⟩ := word_of3 hd wd_l wd_l wd_j
        walk_at "st"
        refine ⟨.inr (.inr ⟨by omega, by omega⟩), ?_⟩
        walk_at "st"
        refine ⟨p6.cons hne, by omega, by omega, by decide, by decide, fun is hl hb ms' p7 c7 => ?_⟩
        obtain ⟨m7, rfl, c8⟩ := chg_cons hne c7
        have p8 := p7.tail hne
        obtain ⟨w, ew, hw⟩ := line_cons (n := 2 * sz.toNat) (by omega) (fun i hi => (hb i hi).mono (by decide : 4 ≤ 5)) j
        have hM2 := hM.add p8 (c5.trans (c6.trans c8)) hw
        walk_at "st"
        have hl2 := hM.wl
        refine ⟨by rw [List.length_map]; exact Nat.lt_of_lt_of_le (by omega : ws.length < 100) (by decide), ?_⟩
        rw [show ws.map wiD ++ [D.tup [wdD j, .lst (is.map D.int)]] = (ws ++ [w]).map wiD by rw [ew, List.map_append]; rfl]
        walk_at "st"
        exact hN _ _ ⟨ws ++ [w], _, _, _, _, _, hM2, rfl⟩
      · rintro ds m ⟨ws, x7, x8, x9, x10, x11, hM, rfl⟩
        rw [rng_len] at hM
        obtain ⟨m5, rfl, p5, c5⟩ := hM.ex
        walk_at "st"
        have := fin hM (by omega) a0 a1 b0 b1
        rw [drp_new] at this
        exact this
    | false =>
      refine w_iteF rfl ?_
      walk_at "st"
      refine w_mRng ⟨by omega, by omega⟩ ?_
      refine loop_n (fun k ds m => ∃ ws x7 x8 x9 x10 x11, Mk ms p q (2 * sz.toNat) k m ws ∧ ds = [some (.opq (.ref p)), some (.int sz), some (.int pl), some (.int a), some (.int b), some (.opq (.ref q)), some (.int r3), x7, x8, x9, x10, x11]) 3 _ 0 _ _ (by rw [rng_len]; omega) ⟨[], _, _, _, _, _, hM0, rfl⟩ ?_ ?_
      · rintro x hx k ds m hk ⟨ws, x7, x8, x9, x10, x11, hM, rfl⟩ N hN
        obtain ⟨m5, rfl, p5, c5⟩ := hM.ex
        obtain ⟨i, hi, rfl⟩ := rng_mem hx
        have hl2 := hM.wl
        walk_at "st"
        refine take_stepC hne p5 (by decide) (by decide) fun r6 a6 b6 m6 p6 c6 => ?_
        walk_at "st"
        by_cases h4 : r6 < 4
        · refine w_iteT (decide_eq_true h4) ?_
          walk_at "st"
          refine take_stepC hne p6 (by decide) (by decide) fun r7 a7 b7 m7 p7 c7 => ?_
          walk_at "st"
          refine ⟨.inr (.inr ⟨by omega, by omega⟩), ?_⟩
          walk_at "st"
          refine ⟨zeros_ok (by omega) (by omega), ?_⟩
          walk_at "st"
          rw [rep_flat0, show [D.int (2 - r7)] ++ (List.replicate (2 * sz).toNat (0 : Int)).map D.int = ((2 - r7) :: List.replicate (2 * sz).toNat 0).map D.int from rfl]
          refine ⟨size_ok (by simp; omega), fun q2 hq2 => ?_⟩
          have hn2 : p ≠ q2 := (p7.cons hne).ne hq2
          have hnq : q ≠ q2 := fun z => hq2 _ List.mem_cons_self z
          have hL : ((2 - r7) :: List.replicate (2 * sz).toNat 0).length = 2 * sz.toNat + 1 := by rw [List.length_cons, List.length_replicate]; omega
          have hB : ∀ z ∈ (2 - r7) :: List.replicate (2 * sz).toNat 0, Bd 4 z := fun z hz => by
            rcases List.mem_cons.mp hz with rfl | hz
            · unfold Bd; omega
            · rw [List.eq_of_mem_replicate hz]; unfold Bd; decide
          generalize ((2 - r7) :: List.replicate (2 * sz).toNat 0) = is0 at hL hB ⊢
          walk_at "st"
          refine w_mSetIx look_new (ixN_ok (by omega) (by rw [List.length_map]; omega)) put_new ?_
          rw [map_set_int]
          have hL1 : (is0.set (1 + sz + (0 + (i : Int))).toNat 1).length = 2 * sz.toNat + 1 := by rw [List.length_set]; exact hL
          have hB1 := set_ints (v := 1) (1 + sz + (0 + (i : Int))).toNat hB (by unfold Bd; decide)
          generalize is0.set (1 + sz + (0 + (i : Int))).toNat 1 = is1 at hL1 hB1 ⊢
          walk_at "st"
          refine take_step ((p7.cons hne).cons hn2) (by omega) (by omega) fun r8 a8 b8 m8 p8 c8 => ?_
          obtain ⟨m9, rfl, c9⟩ := chg_cons hn2 c8
          obtain ⟨m10, rfl, c10⟩ := chg_cons hne c9
          have p10 := (p8.tail hn2).tail hne
          walk_at "st"
          obtain ⟨src, es, hs0, hs1⟩ : ∃ src : Int, atI [D.int (0 + (i : Int)), D.int (0 + (i : Int)), D.int (0 + (i : Int)), D.int r8] r6 = some (D.int src) ∧ 0 ≤ src ∧ src < sz := by
            have : r6 = 0 ∨ r6 = 1 ∨ r6 = 2 ∨ r6 = 3 := by omega
            rcases this with rfl | rfl | rfl | rfl
            · exact ⟨_, w_at0 _ _, by omega, by omega⟩
            · exact ⟨_, w_at1 _ _ _, by omega, by omega⟩
            · exact ⟨_, w_at2 _ _ _ _, by omega, by omega⟩
            · exact ⟨_, w_at3 _ _ _ _ _, by omega, by omega⟩
          refine w_ix_l es ?_
          walk_at "st"
          obtain ⟨v, ev, hv⟩ := atI_ints (is := is1) (i := 1 + src) (by omega) (by omega)
          refine w_ix_o look_new ev ?_
          walk_at "st"
          refine w_mSetIx look_new (ixN_ok (by omega) (by rw [List.length_map]; omega)) put_new ?_
          rw [map_set_int]
          have hL2 : (is1.set (1 + src).toNat (v - 1)).length = 2 * sz.toNat + 1 := by rw [List.length_set]; exact hL1
          have hB2 := set_ints (B := 5) (v := v - 1) (1 + src).toNat (fun z hz => (hB1 z hz).mono (by decide)) (by have := hB1 v hv; unfold Bd at *; omega)
          generalize is1.set (1 + src).toNat (v - 1) = is2 at hL2 hB2 ⊢
          walk_at "st"
          refine w_mApp (look_2 hnq) ?_
          walk_at "st"
          refine take_step ((p10.cons hne).cons hn2) (by decide) (by decide) fun r11 a11 b11 m11 p11 c11 => ?_
          obtain ⟨m12, rfl, c12⟩ := chg_cons hn2 c11
          obtain ⟨m13, rfl, c13⟩ := chg_cons hne c12
          have p13 := (p11.tail hn2).tail hne
          walk_at "st"
          refine w_ixm a11 b11 fun d hd => ?_
          obtain ⟨j, rfl⟩ := word_of3 hd wd_j wd_j wd_l
          obtain ⟨w, ew, hw⟩ := line_cons (n := 2 * sz.toNat) hL2 hB2 j
          have hM2 := hM.add p13 (c5.trans (c6.trans (c7.trans (c10.trans c13)))) hw
          walk_at "st"
          refine ⟨by rw [List.length_map]; exact Nat.lt_of_lt_of_le (by omega : ws.length < 100) (by decide), ?_⟩
          rw [show ws.map wiD ++ [D.tup [wdD j, .lst (is2.map D.int)]] = (ws ++ [w]).map wiD by rw [ew, List.map_append]; rfl]
          walk_at "st"
          exact hN _ _ ⟨ws ++ [w], _, _, _, _, _, hM2, rfl⟩
        · refine w_iteF (decide_eq_false h4) ?_
          walk_at "st"
          exact hN _ _ ⟨ws, _, _, _, _, _, ⟨⟨m6, rfl, p6, c5.trans c6⟩, Nat.le_succ_of_le hl2, hM.wo⟩, rfl⟩
      · rintro ds m ⟨ws, x7, x8, x9, x10, x11, hM, rfl⟩
        rw [rng_len] at hM
        obtain ⟨m5, rfl, p5, c5⟩ := hM.ex
        walk_at "st"
        refine take_stepC hne p5 (by decide) (by decide) fun r6 a6 b6 m6 p6 c6 => ?_
        walk_at "st"
        refine w_mRng ⟨by omega, by omega⟩ ?_
        have hM6 : Mk ms p q (2 * sz.toNat) 3 ((q, ws.map wiD) :: m6) ws := ⟨⟨m6, rfl, p6, c5.trans c6⟩, Nat.le_trans hM.wl (by omega), hM.wo⟩
        refine loop_n (fun k ds m => ∃ ws x7 x8 x9 x10 x11, Mk ms p q (2 * sz.toNat) (3 + k) m ws ∧ ds = [some (.opq (.ref p)), some (.int sz), some (.int pl), some (.int a), some (.int b), some (.opq (.ref q)), some (.int r3), x7, x8, x9, x10, x11]) 2 _ 0 _ _ (by rw [rng_len]; omega) ⟨ws, _, _, _, _, _, hM6, rfl⟩ ?_ ?_
        · rintro x hx k ds m hk ⟨ws, x7, x8, x9, x10, x11, hM, rfl⟩ N hN
          obtain ⟨m7, rfl, p7, c7⟩ := hM.ex
          have hl2 := hM.wl
          walk_at "st"
          refine ⟨p7.cons hne, by omega, by omega, by decide, by decide, fun is hl hb ms' p8 c8 => ?_⟩
          obtain ⟨m9, rfl, c9⟩ := chg_cons hne c8
          have p9 := p8.tail hne
          walk_at "st"
          refine ⟨zeros_ok (by omega) (by omega), ?_⟩
          walk_at "st"
          rw [rep_flat0, ← List.map_append]
          refine ⟨size_ok (by simp; omega), ?_⟩
          obtain ⟨w, ew, hw⟩ := line_cons (B := 5) (n := 2 * sz.toNat) (is := is ++ List.replicate sz.toNat 0) (by rw [List.length_append, List.length_replicate]; omega) (fun z hz => by
            rcases List.mem_append.mp hz with hz | hz
            · exact (hb z hz).mono (by decide)
            · rw [List.eq_of_mem_replicate hz]; unfold Bd; decide) false
          have hM2 := hM.add p9 (c7.trans c9) hw
          walk_at "st"
          refine ⟨by rw [List.length_map]; exact Nat.lt_of_lt_of_le (by omega : ws.length < 100) (by decide), ?_⟩
          have e9 : ws.map wiD ++ [D.tup [D.str (Str.ofString "least"), .lst ((is ++ List.replicate sz.toNat 0).map D.int)]] = (ws ++ [w]).map wiD := by
            exact (congrArg (fun z => ws.map wiD ++ [z]) ew).trans (List.map_append (f := wiD) (l₁ := ws) (l₂ := [w])).symm
          rw [e9]
          walk_at "st"
          exact hN _ _ ⟨ws ++ [w], _, _, _, _, _, hM2, rfl⟩
        · rintro ds m ⟨ws, x7, x8, x9, x10, x11, hM, rfl⟩
          rw [rng_len] at hM
          obtain ⟨m7, rfl, p7, c7⟩ := hM.ex
          walk_at "st"
          have := fin hM (by omega) a0 a1 b0 b1
          rw [drp_new] at this
          exact this
  · exact h.elim
theorem ok_L_row (T : Tx P K mg) : FnG P w K mg base 3 T.f_L_row T.d_L_row ["_law_pool_here", "_law_size", "_law_places"] (spD K sp_L_row) := by
  have G_L_take := ok_L_take (P := P) (w := w) (base := base) T
  have G_L_line := ok_L_line (P := P) (w := w) (base := base) T
  exact fnG_of (k := 2) (t := t_L_row) T.F_L_row sc_L_row len_L_row
    (fun cdv A outer s H hr => pds_cons (pds_set (i := 3) sc_L_row.nd rfl (.inl rfl) (pd_call G_L_take (hr.mono (by decide)) rfl T.g_L_take T.F_L_take.kp T.b_L_take_2 (pda_cons (pd_var 0) (pda_cons (pd_var 2) (pda_nil))))) (pds_cons (pds_set (i := 4) sc_L_row.nd rfl (.inl rfl) (pd_call G_L_take (hr.mono (by decide)) rfl T.g_L_take T.F_L_take.kp T.b_L_take_2 (pda_cons (pd_var 0) (pda_cons (pd_var 2) (pda_nil))))) (pds_cons (pds_set (i := 5) sc_L_row.nd rfl (.inl rfl) (pd_lstM (pda_nil))) (pds_cons (pds_set (i := 6) sc_L_row.nd rfl (.inl rfl) (pd_call G_L_take (hr.mono (by decide)) rfl T.g_L_take T.F_L_take.kp T.b_L_take_2 (pda_cons (pd_var 0) (pda_cons (pd_int) (pda_nil))))) (pds_cons (pds_if (pdt_cmp (op_eqF hr.r.units) opd_eq (pd_var 6) (pd_int)) (pds_cons (pds_for (vs := [7]) rfl (pdi_range1 rfl T.n_range (pda_cons (pd_op op_addD opd_add (pd_int) (pd_call G_L_take (hr.mono (by decide)) rfl T.g_L_take T.F_L_take.kp T.b_L_take_2 (pda_cons (pd_var 0) (pda_cons (pd_int) (pda_nil))))) (pda_nil))) (pg_name (i := 7) sc_L_row.nd rfl (.inl rfl)) (tg_name (i := 7) (by decide)) (pds_one (pds_expr (pd_append (pd_var 5) (pda_cons (pd_tup (pda_cons (pd_ix ix_seq opd_ix (pd_lst (pda_cons (pd_str) (pda_cons (pd_str) (pda_cons (pd_str) (pda_nil))))) (pd_call G_L_take (hr.mono (by decide)) rfl T.g_L_take T.F_L_take.kp T.b_L_take_2 (pda_cons (pd_var 0) (pda_cons (pd_int) (pda_nil))))) (pda_cons (pd_call G_L_line (hr.mono (by decide)) rfl T.g_L_line T.F_L_line.kp T.b_L_line_3 (pda_cons (pd_var 0) (pda_cons (pd_op op_mulA opd_mul (pd_int) (pd_var 1)) (pda_cons (pd_int) (pda_nil))))) (pda_nil)))) (pda_nil)))))) (pds_one (pds_ret (pd_tup (pda_cons (pd_var 3) (pda_cons (pd_var 4) (pda_cons (pd_frz (pd_var 5)) (pda_nil)))))))) (pds_nil)) (pds_cons (pds_for (vs := [8]) rfl (pdi_range1 rfl T.n_range (pda_cons (pd_var 1) (pda_nil))) (pg_name (i := 8) sc_L_row.nd rfl (.inl rfl)) (tg_name (i := 8) (by decide)) (pds_cons (pds_set (i := 9) sc_L_row.nd rfl (.inl rfl) (pd_call G_L_take (hr.mono (by decide)) rfl T.g_L_take T.F_L_take.kp T.b_L_take_2 (pda_cons (pd_var 0) (pda_cons (pd_int) (pda_nil))))) (pds_one (pds_if (pdt_cmp op_lt opd_lt (pd_var 9) (pd_int)) (pds_cons (pds_set (i := 10) sc_L_row.nd rfl (.inl rfl) (pd_op op_addD opd_addM (pd_lst (pda_cons (pd_op op_sub opd_sub (pd_int) (pd_call G_L_take (hr.mono (by decide)) rfl T.g_L_take T.F_L_take.kp T.b_L_take_2 (pda_cons (pd_var 0) (pda_cons (pd_int) (pda_nil))))) (pda_nil))) (pd_op op_mulA opd_mul (pd_lst (pda_cons (pd_int) (pda_nil))) (pd_op op_mulA opd_mul (pd_int) (pd_var 1))))) (pds_cons (pds_setIx (pd_int) (pd_var 10) (pd_op op_addD opd_add (pd_op op_addD opd_add (pd_int) (pd_var 1)) (pd_var 8))) (pds_cons (pds_set (i := 11) sc_L_row.nd rfl (.inl rfl) (pd_ix ix_seq opd_ix (pd_lst (pda_cons (pd_var 8) (pda_cons (pd_var 8) (pda_cons (pd_var 8) (pda_cons (pd_call G_L_take (hr.mono (by decide)) rfl T.g_L_take T.F_L_take.kp T.b_L_take_2 (pda_cons (pd_var 0) (pda_cons (pd_var 1) (pda_nil)))) (pda_nil)))))) (pd_var 9))) (pds_cons (pds_setIx (pd_op op_sub opd_sub (pd_ix ix_seq opd_ix (pd_var 10) (pd_op op_addD opd_add (pd_int) (pd_var 11))) (pd_int)) (pd_var 10) (pd_op op_addD opd_add (pd_int) (pd_var 11))) (pds_one (pds_expr (pd_append (pd_var 5) (pda_cons (pd_tup (pda_cons (pd_ix ix_seq opd_ix (pd_lst (pda_cons (pd_str) (pda_cons (pd_str) (pda_cons (pd_str) (pda_nil))))) (pd_call G_L_take (hr.mono (by decide)) rfl T.g_L_take T.F_L_take.kp T.b_L_take_2 (pda_cons (pd_var 0) (pda_cons (pd_int) (pda_nil))))) (pda_cons (pd_frz (pd_var 10)) (pda_nil)))) (pda_nil))))))))) (pds_nil))))) (pds_cons (pds_for (vs := [7]) rfl (pdi_range1 rfl T.n_range (pda_cons (pd_call G_L_take (hr.mono (by decide)) rfl T.g_L_take T.F_L_take.kp T.b_L_take_2 (pda_cons (pd_var 0) (pda_cons (pd_int) (pda_nil)))) (pda_nil))) (pg_name (i := 7) sc_L_row.nd rfl (.inl rfl)) (tg_name (i := 7) (by decide)) (pds_one (pds_expr (pd_append (pd_var 5) (pda_cons (pd_tup (pda_cons (pd_str) (pda_cons (pd_op op_addD opd_add (pd_call G_L_line (hr.mono (by decide)) rfl T.g_L_line T.F_L_line.kp T.b_L_line_3 (pda_cons (pd_var 0) (pda_cons (pd_var 1) (pda_cons (pd_int) (pda_nil))))) (pd_op op_mulA opd_mul (pd_lst (pda_cons (pd_int) (pda_nil))) (pd_var 1))) (pda_nil)))) (pda_nil)))))) (pds_one (pds_ret (pd_tup (pda_cons (pd_var 3) (pda_cons (pd_var 4) (pda_cons (pd_frz (pd_var 5)) (pda_nil))))))))))))))
    sem_L_row
theorem loop_lV {α : Type} {g : DG} {tb : DTS} {E : EN} (e : α → D) (all : List α) (I : List α → DS → MS → Prop) : ∀ (xs pre : List α) (ds : DS) (ms : MS), pre ++ xs = all → I pre ds ms →
    (∀ pre x rest ds ms, pre ++ x :: rest = all → I pre ds ms → ∀ N : DS → MS → Prop, (∀ ds' ms', I (pre ++ [x]) ds' ms' → N ds' ms') → g (e x) ds fun ds1 => tb (EN.lp E N) ds1 ms) →
    (∀ ds ms, I all ds ms → E.nx ds ms) → loopD g tb E (xs.map e) ds ms
  | [], pre, ds, ms, ha, h, _, q => q ds ms (by rw [List.append_nil] at ha; rw [← ha]; exact h)
  | x :: r, pre, ds, ms, ha, h, t, q => t pre x r ds ms ha h _ fun ds' ms' h' => loop_lV e all I r (pre ++ [x]) ds' ms' (by rw [List.append_assoc]; exact ha) h' t q
/-- wishes times shares, at one place -/
def dotI : List (Wi × Int) → Nat → Int
  | [], _ => 0
  | p :: r, k => p.2 * p.1.ls.getD k 0 + dotI r k
theorem dotI_snoc (ps : List (Wi × Int)) (p : Wi × Int) (k : Nat) : dotI (ps ++ [p]) k = dotI ps k + p.2 * p.1.ls.getD k 0 := by
  induction ps with
  | nil => show p.2 * _ + 0 = 0 + _; omega
  | cons q r ih => show q.2 * _ + dotI (r ++ [p]) k = q.2 * _ + dotI r k + _; rw [ih]; omega
def sp_L_shut : FS := fun ds ms P => match ds with
  | [.opq (.ref p), .int n, d] => ∃ (r : Rw) (sz pl : Nat), d = rwD r ∧ n = (sz : Int) ∧ 1 ≤ sz ∧ sz ≤ 3 ∧ pl ≤ 6 ∧ RwOk 5 sz pl r ∧ r.ws.length ≤ 8 ∧ PoolAt ms p ∧
      ∀ (r' : Rw) (ss : List (Int × Int)), RwOk 20 sz pl r' → CarV r'.ws (-1, List.replicate (2 * sz) 0) ss → (∀ s ∈ ss, FB 10 10 s) → ss.length ≤ 12 → ∀ ms', PoolAt ms' p → Chg ms p ms' → P (.lst [rwD r', .lst (ss.map fr)]) ms'
  | _ => False
theorem len_L_shut : ∀ ds ms Q, sp_L_shut ds ms Q → ds.length = 3 := fun ds ms Q h => by
  unfold sp_L_shut at h
  split at h <;> first | rfl | exact h.elim
def t_L_shut_c1 : DTS := dSeq (dAsg (dOp fAdd (dC (.int 1)) (dCall 2 0 [0, 1] sp_L_take (aCons (dVar 0) (aCons (dC (.int 3)) (aNil))) (aNil))) (sName 11)) (dSeq (dAsg (dLcM (iSeq (dVar 6)) (sName 16) (dYes) (dOp fSub (dC (.int 0)) (dVar 16)) [16]) (sName 12)) (dSeq (dSetIx (dVar 12) (dC (.int 0)) (dOp fSub (dOp fSub (dOp fIx (dVar 12) (dC (.int 0))) (dVar 11)) (dCall 2 0 [0, 1] sp_L_take (aCons (dVar 0) (aCons (dC (.int 2)) (aNil))) (aNil)))) (dSeq (dAsg (dOp fMul (dCall 2 0 [0, 1] sp_L_take (aCons (dVar 0) (aCons (dC (.int 2)) (aNil))) (aNil)) (dCB cLen (aCons (dVar 5) (aNil)))) (sName 13)) (dSeq (dAsg (dOp fAdd (dOp fAdd (dSl (dVar 5) (oNone) (oSome (dVar 13))) (dLst (aCons (dTup (aCons (dC (.str "least")) (aCons (dFrz (dVar 12)) (aNil)))) (aNil)))) (dSl (dVar 5) (oSome (dVar 13)) (oNone))) (sName 14)) (dSeq (dFrzS 7 (dAsg (dLc (iSeq (dVar 7)) (sName 10) (dYes) (dCall 2 0 [0, 1] sp_L_low (aCons (dOp fIx (dVar 10) (dC (.int 0))) (aCons (dVar 11) (aNil))) (aNil)) [10]) (sName 15))) (dRet (dLst (aCons (dTup (aCons (dVar 3) (aCons (dVar 4) (aCons (dVar 14) (aNil))))) (aCons (dOp fAdd (dOp fAdd (dSl (dVar 15) (oNone) (oSome (dVar 13))) (dLst (aCons (dTup (aCons (dC (.int 1)) (aCons (dVar 11) (aNil)))) (aNil)))) (dSl (dVar 15) (oSome (dVar 13)) (oNone))) (aNil))))))))))
def t_L_shut : DTS := dSeq (dAsg (dVar 2) (sTup 3 (sCons (sName 3) (sCons (sName 4) (sCons (sName 5) (sNil)))))) (dSeq (dAsg (dOp fMul (dLst (aCons (dC (.int 0)) (aNil))) (dOp fAdd (dOp fMul (dC (.int 2)) (dVar 1)) (dC (.int 1)))) (sName 6)) (dSeq (dAsg (dLstM (aNil)) (sName 7)) (dSeq (dFor (iSeq (dVar 5)) (sTup 2 (sCons (sName 8) (sCons (sName 9) (sNil)))) (dSeq (dAsg (dOp fIx (dLst (aCons (dCall 2 0 [0, 1] sp_L_take (aCons (dVar 0) (aCons (dC (.int 4)) (aNil))) (aNil)) (aCons (dOp fSub (dCall 2 0 [0, 1] sp_L_take (aCons (dVar 0) (aCons (dC (.int 7)) (aNil))) (aNil)) (dC (.int 3))) (aNil)))) (dCB cInt1 (aCons (dOp fEq (dVar 8) (dC (.str "just"))) (aNil)))) (sName 10)) (dSeq (dDrop (dAppend (dVar 7) (aCons (dTup (aCons (dVar 10) (aCons (dC (.int 1)) (aNil)))) (aNil)))) (dAsg (dLc (iZipD (aCons (dVar 6) (aCons (dVar 9) (aNil)))) (sTup 2 (sCons (sName 17) (sCons (sName 16) (sNil)))) (dYes) (dOp fAdd (dVar 17) (dOp fMul (dVar 10) (dVar 16))) [17, 16]) (sName 6))))) (t_L_shut_c1))))
theorem dotR_shares {by_ : Int} (hb : by_ ≠ 0) (k : Nat) : ∀ (ws : List Wi) (sh : List Int), ws.length = sh.length → dotR (colW ws k) ((sh.map fun s => lowT s by_).map val) = ((dotI (ws.zip sh) k : Int) : Rat) / (by_ : Rat)
  | [], [], _ => by
    show (0 : Rat) = ((0 : Int) : Rat) / _
    rw [Rat.intCast_zero]
    have := rne hb
    grind
  | [], _ :: _, h => by cases h
  | _ :: _, [], h => by cases h
  | w :: ws, s :: sh, h => by
    have ih := dotR_shares hb k ws sh (by simpa using h)
    show (w.ls.getD k 0 : Rat) * val (lowT s by_) + dotR (colW ws k) ((sh.map fun s => lowT s by_).map val) = ((s * w.ls.getD k 0 + dotI (ws.zip sh) k : Int) : Rat) / _
    rw [ih, val_low hb, Rat.intCast_add, Rat.intCast_mul]
    have := rne hb
    generalize (w.ls.getD k 0 : Rat) = x
    generalize (s : Rat) = y
    generalize (by_ : Rat) = z at *
    generalize ((dotI (ws.zip sh) k : Int) : Rat) = u
    grind
theorem dotR_snoc : ∀ (fs : List Int) (ns : List Rat) (f : Int) (n : Rat), fs.length = ns.length → dotR (fs ++ [f]) (ns ++ [n]) = dotR fs ns + (f : Rat) * n
  | [], [], f, n, _ => by show (f : Rat) * n + 0 = 0 + (f : Rat) * n; grind
  | [], _ :: _, _, _, h => by cases h
  | _ :: _, [], _, _, h => by cases h
  | a :: fs, c :: ns, f, n, h => by
    show (a : Rat) * c + dotR (fs ++ [f]) (ns ++ [n]) = (a : Rat) * c + dotR fs ns + _
    rw [dotR_snoc fs ns f n (by simpa using h)]
    grind
/-- what shares come to with the last wish is minus one, or less -/
structure Shut (ws : List Wi) (sh : List Int) (sz : Nat) (by_ dl : Int) (lw : Wi) : Prop where
  ln : ws.length = sh.length
  b1 : 1 ≤ by_
  d0 : 0 ≤ dl
  nj : lw.j = false
  sg : ∀ p ∈ ws.zip sh, p.1.j = false → 0 ≤ p.2
  l0 : lw.l = 0 - dotI (ws.zip sh) 0 - by_ - dl
  lf : ∀ k, k < 2 * sz → lw.fs.getD k 0 = 0 - dotI (ws.zip sh) (k + 1)
theorem shut_at {ws : List Wi} {sh : List Int} {sz : Nat} {by_ dl : Int} {lw : Wi} (h : Shut ws sh sz by_ dl lw) : ((lw.l : Int) : Rat) * val (1, by_) + dotR (colW ws 0) ((sh.map fun s => lowT s by_).map val) ≤ ((-1 : Int) : Rat) ∧
    ∀ k, k < 2 * sz → ((lw.fs.getD k 0 : Int) : Rat) * val (1, by_) + dotR (colW ws (k + 1)) ((sh.map fun s => lowT s by_).map val) = 0 := by
  have hb : by_ ≠ 0 := by have := h.b1; omega
  have hz := rne hb
  have v1 : val (1, by_) = 1 / (by_ : Rat) := by unfold val; rw [show (((1, by_) : Int × Int).1 : Rat) = ((1 : Int) : Rat) from rfl]; rfl
  refine ⟨?_, fun k hk => ?_⟩
  · rw [dotR_shares hb 0 ws sh h.ln, h.l0, v1]
    have e : ((0 - dotI (ws.zip sh) 0 - by_ - dl : Int) : Rat) * (1 / (by_ : Rat)) + ((dotI (ws.zip sh) 0 : Int) : Rat) / (by_ : Rat) = ((0 - by_ - dl : Int) : Rat) / (by_ : Rat) := by
      rw [Rat.intCast_sub, Rat.intCast_sub, Rat.intCast_sub, Rat.intCast_sub, Rat.intCast_sub]
      generalize (by_ : Rat) = z at *
      generalize ((dotI (ws.zip sh) 0 : Int) : Rat) = u
      generalize (dl : Rat) = y
      generalize ((0 : Int) : Rat) = o
      grind
    rw [e]
    have c := cross_lt (p := (-1, 1)) (q := (0 - by_ - dl, by_)) (by show (0 : Int) < 1; decide) (by have := h.b1; show 0 < by_; omega)
    rw [← Rat.not_lt]
    intro z
    have : val (-1, 1) < val (0 - by_ - dl, by_) := by
      rw [val_int]; exact z
    have k : (-1 : Int) * by_ < (0 - by_ - dl) * 1 := c.mp this
    have := h.b1
    have := h.d0
    omega
  · rw [dotR_shares hb (k + 1) ws sh h.ln, h.lf k hk, v1, Rat.intCast_sub]
    rw [Rat.intCast_zero]
    generalize (by_ : Rat) = z at *
    generalize ((dotI (ws.zip sh) (k + 1) : Int) : Rat) = u
    grind
theorem low_sign {s by_ : Int} (h : 1 ≤ by_) (hs : 0 ≤ s) : 0 ≤ (lowT s by_).1 := by
  have hb : by_ ≠ 0 := by omega
  have k := low_low (a := s) hb
  rw [← val_nonneg k.pos, val_low hb]
  exact (val_nonneg (p := (s, by_)) (by show 0 < by_; omega)).mpr hs
theorem shut_head {ws : List Wi} {sh : List Int} {sz : Nat} {by_ dl : Int} {lw : Wi} (h : Shut ws sh sz by_ dl lw) : CarV (lw :: ws) (-1, List.replicate (2 * sz) 0) ((1, by_) :: sh.map fun s => lowT s by_) := by
  have hb : by_ ≠ 0 := by have := h.b1; omega
  obtain ⟨h1, h2⟩ := shut_at h
  refine ⟨by rw [List.length_cons, List.length_cons, List.length_map, h.ln], fun s hs => ?_, fun p hp hj => ?_, ?_, fun k hk => ?_⟩
  · rcases List.mem_cons.mp hs with rfl | hs
    · exact low_one h.b1
    · obtain ⟨z, _, rfl⟩ := List.mem_map.mp hs
      exact low_low hb
  · rcases List.mem_cons.mp hp with rfl | hp
    · show (0 : Int) ≤ 1; decide
    · have hp : p ∈ ws.zip (sh.map fun s => lowT s by_) := hp
      rw [List.zip_map_right] at hp
      obtain ⟨q, hq, rfl⟩ := List.mem_map.mp hp
      exact low_sign h.b1 (h.sg q hq hj)
  · exact h1
  · rw [List.length_replicate] at hk
    have e : (List.replicate (2 * sz) (0 : Int)).getD k 0 = 0 := by rw [List.getD_eq_getElem?_getD, List.getElem?_replicate]; split <;> rfl
    show dotR (lw.ls.getD (k + 1) 0 :: colW ws (k + 1)) (val (1, by_) :: _) = _
    rw [e, Rat.intCast_zero]
    exact h2 k hk
theorem shut_tail {ws : List Wi} {sh : List Int} {sz : Nat} {by_ dl : Int} {lw : Wi} (h : Shut ws sh sz by_ dl lw) : CarV (ws ++ [lw]) (-1, List.replicate (2 * sz) 0) ((sh.map fun s => lowT s by_) ++ [(1, by_)]) := by
  have hb : by_ ≠ 0 := by have := h.b1; omega
  obtain ⟨h1, h2⟩ := shut_at h
  have sn : ∀ k, dotR (colW (ws ++ [lw]) k) (((sh.map fun s => lowT s by_) ++ [(1, by_)]).map val) = dotR (colW ws k) ((sh.map fun s => lowT s by_).map val) + ((lw.ls.getD k 0 : Int) : Rat) * val (1, by_) := fun k => by
    unfold colW
    rw [List.map_append, List.map_append]
    exact dotR_snoc _ _ _ _ (by rw [List.length_map, List.length_map, List.length_map, h.ln])
  refine ⟨by rw [List.length_append, List.length_append, List.length_map, h.ln]; rfl, fun s hs => ?_, fun p hp hj => ?_, ?_, fun k hk => ?_⟩
  · rcases List.mem_append.mp hs with hs | hs
    · obtain ⟨z, _, rfl⟩ := List.mem_map.mp hs
      exact low_low hb
    · rw [List.mem_singleton.mp hs]; exact low_one h.b1
  · rw [List.zip_append (by rw [List.length_map, h.ln])] at hp
    rcases List.mem_append.mp hp with hp | hp
    · rw [List.zip_map_right] at hp
      obtain ⟨q, hq, rfl⟩ := List.mem_map.mp hp
      exact low_sign h.b1 (h.sg q hq hj)
    · rw [List.mem_singleton.mp hp]; show (0 : Int) ≤ 1; decide
  · rw [sn 0, Rat.add_comm]; exact h1
  · rw [List.length_replicate] at hk
    have e : (List.replicate (2 * sz) (0 : Int)).getD k 0 = 0 := by rw [List.getD_eq_getElem?_getD, List.getElem?_replicate]; split <;> rfl
    rw [sn (k + 1), e, Rat.intCast_zero, Rat.add_comm]
    exact h2 k hk
theorem put_2 {p q : Addr} {xs ys zs : List D} {m : MS} (h : p ≠ q) : put ((q, xs) :: (p, ys) :: m) p zs = (q, xs) :: (p, zs) :: m := by
  conv => lhs; unfold put
  rw [if_neg (fun z => h z.symm)]
  conv => lhs; unfold put
  rw [if_pos rfl]
theorem getD_zip {ts ls : List Int} {n k : Nat} {f : Int → Int → Int} (h1 : ts.length = n) (h2 : ls.length = n) (hk : k < n) : (List.zipWith f ts ls).getD k 0 = f (ts.getD k 0) (ls.getD k 0) := by
  rw [List.getD_eq_getElem?_getD, List.getD_eq_getElem?_getD, List.getD_eq_getElem?_getD, List.getElem?_zipWith, List.getElem?_eq_getElem (by omega), List.getElem?_eq_getElem (by omega)]; rfl
theorem shut_fin {r : Rw} {sz pl : Nat} {sh ts : List Int} {by_ dl : Int} (ro : RwOk 5 sz pl r) (w8 : r.ws.length ≤ 8) (hl : sh.length = r.ws.length) (hsg : ∀ p ∈ r.ws.zip sh, p.1.j = false → 0 ≤ p.2) (b1 : 1 ≤ by_) (b3 : by_ ≤ 3) (d0 : 0 ≤ dl) (d1 : dl ≤ 1)
    (tl : ts.length = 2 * sz + 1) (tk : ∀ k, k < 2 * sz + 1 → ts.getD k 0 = dotI (r.ws.zip sh) k) (tb : ∀ x ∈ ts, x.natAbs ≤ 1000) :
    ∃ lw : Wi, (ts.map fun x => 0 - x).set 0 ((0 - ts.getD 0 0) - by_ - dl) = lw.ls ∧ lw.j = false ∧ WiOk 20 (2 * sz) lw ∧ Shut r.ws sh sz by_ dl lw := by
  cases ts with
  | nil => rw [List.length_nil] at tl; omega
  | cons t ts =>
    rw [List.length_cons] at tl
    have t0 := tk 0 (by omega)
    have tb0 := tb t List.mem_cons_self
    refine ⟨⟨false, (0 - t) - by_ - dl, ts.map fun x => 0 - x⟩, rfl, rfl, ⟨fun x hx => ?_, by show (ts.map _).length = _; rw [List.length_map]; omega⟩, ⟨hl.symm, b1, d0, rfl, hsg, ?_, fun k hk => ?_⟩⟩
    · rcases List.mem_cons.mp hx with rfl | hx
      · have : Bd 20 ((0 - t) - by_ - dl) := by unfold Bd; omega
        exact this
      · obtain ⟨y, hy, rfl⟩ := List.mem_map.mp hx
        have := tb y (List.mem_cons_of_mem _ hy)
        unfold Bd; omega
    · show (0 - t) - by_ - dl = _
      have t0 : t = dotI (r.ws.zip sh) 0 := t0
      rw [t0]
    · have := tk (k + 1) (by omega)
      have this : ts.getD k 0 = dotI (r.ws.zip sh) (k + 1) := this
      show (ts.map fun x => 0 - x).getD k 0 = _
      rw [← this, List.getD_eq_getElem?_getD, List.getElem?_map, List.getD_eq_getElem?_getD, List.getElem?_eq_getElem (by omega : k < ts.length)]; rfl
theorem sem_L_shut : ∀ ds ms Q, sp_L_shut ds ms Q → t_L_shut { nx := fun _ m => Q .non m, rt := Q } (startD 18 ds) ms := by
  intro ds ms Q h
  unfold sp_L_shut at h
  split at h
  · rename_i p n d
    obtain ⟨r, sz, pl, rfl, rfl, z1, z3, pl6, ro, w8, hp, h⟩ := h
    simp only [startD]
    unfold t_L_shut rwD
    walk_at "st"
    refine ⟨.inr (.inr ⟨by omega, by omega⟩), ?_⟩
    walk_at "st"
    refine ⟨zeros_ok (by omega) (by omega), ?_⟩
    rw [rep_flat0, show (2 * (sz : Int) + 1).toNat = 2 * sz + 1 by omega]
    walk_at "st"
    intro q hq
    have hne := hp.ne hq
    walk_at "st"
    refine loop_lV wiD r.ws (fun pre ds m => ∃ (sh ts : List Int) (m2 : MS), m = (q, sh.map fun s => fr (s, 1)) :: m2 ∧ PoolAt m2 p ∧ Chg ms p m2 ∧ sh.length = pre.length ∧ (∀ pr ∈ pre.zip sh, pr.1.j = false → 0 ≤ pr.2) ∧ (∀ s ∈ sh, s.natAbs ≤ 3) ∧ ts.length = 2 * sz + 1 ∧ (∀ k, k < 2 * sz + 1 → ts.getD k 0 = dotI (pre.zip sh) k) ∧ (∀ x ∈ ts, x.natAbs ≤ 93 * pre.length) ∧
      ∃ x8 x9 x10 x11 x12 x13 x14 x15 x16 x17, ds = [some (.opq (.ref p)), some (.int (sz : Int)), some (.tup [.int r.s, .int r.t, .lst (r.ws.map wiD)]), some (.int r.s), some (.int r.t), some (.lst (r.ws.map wiD)), some (.lst (ts.map D.int)), some (.opq (.ref q)), x8, x9, x10, x11, x12, x13, x14, x15, x16, x17]) r.ws [] _ _ rfl
      ⟨[], List.replicate (2 * sz + 1) 0, ms, rfl, hp, hp.refl, rfl, (fun pr h => by cases h), (fun s h => by cases h), List.length_replicate .., fun k hk => by rw [List.getD_eq_getElem?_getD, List.getElem?_replicate]; split <;> rfl, fun x hx => by rw [List.eq_of_mem_replicate hx]; exact Nat.zero_le _, _, _, _, _, _, _, _, _, _, _, rfl⟩ ?_ ?_
    · rintro pre w rest ds m hsplit ⟨sh, ts, m2, rfl, p2, c2, hl, hsg, hsb, tl, tk, tb, y8, y9, y10, y11, y12, y13, y14, y15, y16, y17, rfl⟩ N hN
      have hw : w ∈ r.ws := by rw [← hsplit]; simp
      have wo := ro.wo w hw
      have pl8 : pre.length ≤ 7 := by
        have := congrArg List.length hsplit
        rw [List.length_append, List.length_cons] at this
        omega
      have wl : w.ls.length = 2 * sz + 1 := by have := wo.ln; show w.fs.length + 1 = _; omega
      unfold wiD
      walk_at "st"
      refine take_stepC hne p2 (by decide) (by decide) fun r1 a1 b1 m3 p3 c3 => ?_
      walk_at "st"
      refine take_stepC hne p3 (by decide) (by decide) fun r2 a2 b2 m4 p4 c4 => ?_
      obtain ⟨s, es, sb, sj⟩ : ∃ s : Int, atI [D.int r1, .int (r2 - 3)] (if ((if w.j = true then Str.ofString "just" else Str.ofString "least") == Str.ofString "just") = true then 1 else 0) = some (.int s) ∧ s.natAbs ≤ 3 ∧ (w.j = false → 0 ≤ s) := by
        cases hj : w.j with
        | true =>
          rw [show ((if true = true then Str.ofString "just" else Str.ofString "least") == Str.ofString "just") = true by decide +kernel]
          exact ⟨r2 - 3, rfl, by omega, fun z => by cases z⟩
        | false =>
          rw [show ((if false = true then Str.ofString "just" else Str.ofString "least") == Str.ofString "just") = false by decide +kernel]
          exact ⟨r1, rfl, by omega, fun _ => a1⟩
      simp only [wdD]
      walk_at "st"
      refine w_ix_l es ?_
      walk_at "st"
      refine ⟨Nat.lt_of_lt_of_le (show (sh.map fun s => fr (s, 1)).length < 20 by rw [List.length_map]; omega) (by decide), ?_⟩
      walk_at "st"
      rw [show (D.int w.l :: w.fs.map D.int) = w.ls.map D.int from rfl, zipD_mp]
      simp only [wipeD, List.set]
      refine comp_e (fun x : Int × Int => D.tup [.int x.1, .int x.2]) (fun x => D.int (x.1 + s * x.2)) (ts.zip w.ls) [] _ (by rw [List.length_zip, List.length_nil]; omega) (fun x hx P0 q0 => ?_) ?_
      · have := wo.bd _ (List.of_mem_zip hx).2
        walk_at "st"
        refine ⟨(show Bd 3 s by unfold Bd; omega).mulOk this (by decide) (by decide) (by decide), ?_⟩
        walk_at "st"
        exact q0
      rw [List.nil_append, show ((ts.zip w.ls).map fun x => D.int (x.1 + s * x.2)) = (List.zipWith (fun x y => x + s * y) ts w.ls).map D.int by rw [List.map_zipWith, ← List.map_uncurry_zip_eq_zipWith]; rfl]
      walk_at "st"
      refine hN _ _ ⟨sh ++ [s], List.zipWith (fun x y => x + s * y) ts w.ls, m4, by rw [List.map_append]; rfl, p4, c2.trans (c3.trans c4), by rw [List.length_append, List.length_append, hl]; rfl, ?_, ?_, by rw [List.length_zipWith]; omega, fun k hk => ?_, fun x hx => ?_, _, _, _, _, _, _, _, _, _, _, rfl⟩
      · rw [List.zip_append hl.symm]
        intro pr hpr hj
        rcases List.mem_append.mp hpr with hpr | hpr
        · exact hsg pr hpr hj
        · rw [List.mem_singleton.mp hpr] at hj ⊢
          exact sj hj
      · intro z hz
        rcases List.mem_append.mp hz with hz | hz
        · exact hsb z hz
        · rw [List.mem_singleton.mp hz]; exact sb
      · rw [List.zip_append hl.symm, getD_zip tl wl hk, tk k hk]
        exact (dotI_snoc _ (w, s) k).symm
      · obtain ⟨i, hi, e⟩ := List.mem_iff_getElem.mp hx
        rw [List.getElem_zipWith] at e
        rw [List.length_zipWith] at hi
        have h1 := tb _ (List.getElem_mem (show i < ts.length by omega))
        have h2 := wo.bd _ (List.getElem_mem (show i < w.ls.length by omega))
        have h3 : (s * w.ls[i]'(by omega)).natAbs ≤ 3 * 31 := by
          rw [Int.natAbs_mul]
          exact Nat.mul_le_mul sb (by unfold Bd at h2; omega)
        rw [← e, List.length_append, List.length_singleton]
        have := Int.natAbs_add_le (ts[i]'(by omega)) (s * w.ls[i]'(by omega))
        omega
    · rintro ds m ⟨sh, ts, m2, rfl, p2, c2, hl, hsg, hsb, tl, tk, tb, y8, y9, y10, y11, y12, y13, y14, y15, y16, y17, rfl⟩
      have tb : ∀ x ∈ ts, x.natAbs ≤ 1000 := fun x hx => by have := tb x hx; omega
      walk_at "st"
      unfold t_L_shut_c1
      walk_at "st"
      refine take_stepC hne p2 (by decide) (by decide) fun r1 a1 b1 m3 p3 c3 => ?_
      walk_at "st"
      simp only [wipeD, List.set]
      refine comp_e D.int (fun x => D.int (0 - x)) ts [] _ (by rw [List.length_nil]; omega) (fun x hx P0 q0 => ?_) ?_
      · walk_at "st"
        exact q0
      rw [List.nil_append]
      intro l hlq
      have hnl : p ≠ l := (p3.cons hne).ne hlq
      walk_at "st"
      have e0 : atI (ts.map fun x => D.int (0 - x)) 0 = some (.int (0 - ts.getD 0 0)) := by
        cases ts with
        | nil => rw [List.length_nil] at tl; omega
        | cons t ts => exact w_at0 _ _
      refine w_ix_o look_new e0 ?_
      walk_at "st"
      refine take_stepC hnl (p3.cons hne) (by decide) (by decide) fun r2 a2 b2 m4 p4 c4 => ?_
      obtain ⟨m5, rfl, c5⟩ := chg_cons hne c4
      have p5 := p4.tail hne
      walk_at "st"
      refine w_mSetIx look_new (ixN_ok (by decide) (by rw [List.length_map]; omega)) put_new ?_
      walk_at "st"
      refine take_stepC hnl (p5.cons hne) (by decide) (by decide) fun r3 a3 b3 m6 p6 c6 => ?_
      obtain ⟨m7, rfl, c7⟩ := chg_cons hne c6
      have p7 := p6.tail hne
      walk_at "st"
      rw [List.length_map]
      refine ⟨.inr (.inr ⟨by omega, by omega⟩), ?_⟩
      obtain ⟨lw, e1, ej, wo, sh_⟩ := shut_fin (by_ := 1 + r1) (dl := r2) ro w8 (by rw [hl]) hsg (by omega) (by omega) a2 (by omega) tl tk tb
      have el : (ts.map fun x => D.int (0 - x)).set 0 (.int (0 - ts.getD 0 0 - (1 + r1) - r2)) = lw.ls.map D.int := by
        rw [← e1, List.map_set, List.map_map]; rfl
      rw [show ((0 : Int)).toNat = 0 from rfl, el]
      have sl : sh.length = r.ws.length := hl
      have wl8 : r.ws.length ≤ 8 := w8
      have fin : ∀ (ws' : List Wi) (ss : List (Int × Int)), (ws' = lw :: r.ws ∧ ss = (1, 1 + r1) :: sh.map fun s => lowT s (1 + r1)) ∨ (ws' = r.ws ++ [lw] ∧ ss = (sh.map fun s => lowT s (1 + r1)) ++ [(1, 1 + r1)]) → Q (.lst [.tup [.int r.s, .int r.t, .lst (ws'.map wiD)], .lst (ss.map fr)]) m7 := fun ws' ss hc => by
        have wr : ∀ w ∈ ws', WiOk 20 (2 * sz) w := fun w hw => by
          rcases hc with ⟨rfl, _⟩ | ⟨rfl, _⟩
          · rcases List.mem_cons.mp hw with rfl | hw
            · exact wo
            · exact (ro.wo w hw).mono (by decide)
          · rcases List.mem_append.mp hw with hw | hw
            · exact (ro.wo w hw).mono (by decide)
            · rw [List.mem_singleton.mp hw]; exact wo
        have sb : ∀ s ∈ sh.map fun s => lowT s (1 + r1), FB 10 10 s := fun s hs => by
          obtain ⟨z, hz, rfl⟩ := List.mem_map.mp hs
          have := hsb z hz
          exact fb_low (show Bd 10 z by unfold Bd; omega) (show Bd 10 (1 + r1) by unfold Bd; omega) (by omega)
        have ob : FB 10 10 (1, 1 + r1) := ⟨show Bd 10 1 by unfold Bd; decide, by show Bd 10 (1 + r1); unfold Bd; omega, by show 0 < 1 + r1; omega, fun z => by cases z⟩
        have lens : ws'.length = r.ws.length + 1 ∧ ss.length = r.ws.length + 1 := by
          rcases hc with ⟨rfl, rfl⟩ | ⟨rfl, rfl⟩
          · exact ⟨rfl, by rw [List.length_cons, List.length_map, sl]⟩
          · exact ⟨by rw [List.length_append]; rfl, by rw [List.length_append, List.length_map, sl]; rfl⟩
        refine h ⟨r.s, r.t, ws'⟩ ss ⟨ro.s0, ro.s1, ro.t0, ro.t1, by show ws'.length ≤ 12; omega, wr⟩ ?_ (fun s hs => ?_) (by omega) m7 p7 (c2.trans (c3.trans (c5.trans c7)))
        · rcases hc with ⟨rfl, rfl⟩ | ⟨rfl, rfl⟩
          · exact shut_head sh_
          · exact shut_tail sh_
        · rcases hc with ⟨_, rfl⟩ | ⟨_, rfl⟩
          · rcases List.mem_cons.mp hs with rfl | hs
            · exact ob
            · exact sb s hs
          · rcases List.mem_append.mp hs with hs | hs
            · exact sb s hs
            · rw [List.mem_singleton.mp hs]; exact ob
      have lwd : D.tup [.str "least", .lst (lw.ls.map D.int)] = wiD lw := by
        rw [wiD_ls, ej]; rfl
      have r01 : r3 = 0 ∨ r3 = 1 := by omega
      rcases r01 with rfl | rfl
      · rw [Int.zero_mul]
        walk_at "st"
        rw [cutL_to _ _ (by decide), cutL_from _ _ (by decide), show ((0 : Int)).toNat = 0 from rfl, List.take_zero, List.drop_zero, List.nil_append, lwd]
        refine ⟨size_ok (by rw [List.length_singleton, List.length_map]; omega), ?_⟩
        walk_at "st"
        simp only [wipeD, List.set]
        refine comp_e (fun s : Int => fr (s, 1)) (fun s => fr (lowT s (1 + r1))) sh [] _ (by rw [List.length_nil]; omega) (fun s hs P0 q0 => ?_) ?_
        · simp only [fr]
          walk_at "st"
          exact ⟨by omega, (show Bd 10 (1 + r1) by unfold Bd; omega).mono (by decide), q0⟩
        rw [List.nil_append]
        walk_at "st"
        rw [cutL_to _ _ (by decide), cutL_from _ _ (by decide), show ((0 : Int)).toNat = 0 from rfl, List.take_zero, List.drop_zero, List.nil_append]
        refine ⟨size_ok (by rw [List.length_singleton, List.length_map]; omega), ?_⟩
        walk_at "st"
        have := fin (lw :: r.ws) ((1, 1 + r1) :: sh.map fun s => lowT s (1 + r1)) (.inl ⟨rfl, rfl⟩)
        rw [List.map_cons, List.map_cons, List.map_map] at this
        exact this
      · rw [Int.one_mul]
        walk_at "st"
        rw [cut_to _ _ (by rw [List.length_map]; omega), List.take_of_length_le (by rw [List.length_map]; omega), lwd]
        refine ⟨size_ok (by rw [List.length_singleton, List.length_map]; omega), ?_⟩
        walk_at "st"
        rw [cutL_from _ _ (by omega), Int.toNat_natCast, List.drop_of_length_le (by rw [List.length_map]; omega)]
        refine ⟨size_ok (by rw [List.length_append, List.length_singleton, List.length_map]; simp; omega), ?_⟩
        walk_at "st"
        simp only [wipeD, List.set]
        refine comp_e (fun s : Int => fr (s, 1)) (fun s => fr (lowT s (1 + r1))) sh [] _ (by rw [List.length_nil]; omega) (fun s hs P0 q0 => ?_) ?_
        · simp only [fr]
          walk_at "st"
          exact ⟨by omega, (show Bd 10 (1 + r1) by unfold Bd; omega).mono (by decide), q0⟩
        rw [List.nil_append]
        walk_at "st"
        rw [cut_to _ _ (by rw [List.length_map]; omega), List.take_of_length_le (by rw [List.length_map]; omega)]
        refine ⟨size_ok (by rw [List.length_singleton, List.length_map]; omega), ?_⟩
        walk_at "st"
        rw [cutL_from _ _ (by omega), Int.toNat_natCast, List.drop_of_length_le (by rw [List.length_map]; omega)]
        refine ⟨size_ok (by rw [List.length_append, List.length_singleton, List.length_map]; simp; omega), ?_⟩
        walk_at "st"
        have := fin (r.ws ++ [lw]) ((sh.map fun s => lowT s (1 + r1)) ++ [(1, 1 + r1)]) (.inr ⟨rfl, rfl⟩)
        rw [List.map_append, List.map_append, List.map_map] at this
        rw [List.append_nil, List.append_nil]
        exact this
  · exact h.elim
theorem ok_L_shut (T : Tx P K mg) : FnG P w K mg base 2 T.f_L_shut T.d_L_shut ["_law_pool_here", "_law_size", "_law_row_here"] (spD K sp_L_shut) := by
  have G_L_take := ok_L_take (P := P) (w := w) (base := base) T
  have G_L_low := ok_L_low (P := P) (w := w) (base := base) T
  exact fnG_of (k := 1) (t := t_L_shut) T.F_L_shut sc_L_shut len_L_shut
    (fun cdv A outer s H hr => pds_cons (pds_asg (vs := [3, 4, 5]) (pd_var 2) (pg_tup rfl (pgs_cons (pg_name (i := 3) sc_L_shut.nd rfl (.inl rfl)) (pgs_cons (pg_name (i := 4) sc_L_shut.nd rfl (.inl rfl)) (pgs_cons (pg_name (i := 5) sc_L_shut.nd rfl (.inl rfl)) (pgs_nil))))) (tg_tup (tgs_cons (tg_name (i := 3) (by decide)) (tgs_cons (tg_name (i := 4) (by decide)) (tgs_cons (tg_name (i := 5) (by decide)) (tgs_nil) (mon_name (i := 5))) (mon_name (i := 4))) (mon_name (i := 3))))) (pds_cons (pds_set (i := 6) sc_L_shut.nd rfl (.inl rfl) (pd_op op_mulA opd_mul (pd_lst (pda_cons (pd_int) (pda_nil))) (pd_op op_addD opd_add (pd_op op_mulA opd_mul (pd_int) (pd_var 1)) (pd_int)))) (pds_cons (pds_set (i := 7) sc_L_shut.nd rfl (.inl rfl) (pd_lstM (pda_nil))) (pds_cons (pds_for (vs := [8, 9]) rfl (pdi_list (pd_var 5)) (pg_tup rfl (pgs_cons (pg_name (i := 8) sc_L_shut.nd rfl (.inl rfl)) (pgs_cons (pg_name (i := 9) sc_L_shut.nd rfl (.inl rfl)) (pgs_nil)))) (tg_tup (tgs_cons (tg_name (i := 8) (by decide)) (tgs_cons (tg_name (i := 9) (by decide)) (tgs_nil) (mon_name (i := 9))) (mon_name (i := 8)))) (pds_cons (pds_set (i := 10) sc_L_shut.nd rfl (.inr rfl) (pd_ix ix_seq opd_ix (pd_lst (pda_cons (pd_call G_L_take (hr.mono (by decide)) rfl T.g_L_take T.F_L_take.kp T.b_L_take_2 (pda_cons (pd_var 0) (pda_cons (pd_int) (pda_nil)))) (pda_cons (pd_op op_sub opd_sub (pd_call G_L_take (hr.mono (by decide)) rfl T.g_L_take T.F_L_take.kp T.b_L_take_2 (pda_cons (pd_var 0) (pda_cons (pd_int) (pda_nil)))) (pd_int)) (pda_nil)))) (pd_callTy call_int1 cal_int1 rfl T.n_int (by decide +kernel) (pda_cons (pd_cmp (op_eqF hr.r.units) opd_eq (pd_var 8) (pd_str)) (pda_nil))))) (pds_cons (pds_expr (pd_append (pd_var 7) (pda_cons (pd_tup (pda_cons (pd_var 10) (pda_cons (pd_int) (pda_nil)))) (pda_nil)))) (pds_one (pds_setLc (i := 6) (own := [("_law_one", 17), ("_law_number", 16)]) rfl sc_L_shut.nd rfl rfl (sw_true rfl rfl rfl (by decide +kernel)) (pdi_zip rfl T.n_zip (pda_cons (pd_var 6) (pda_cons (pd_var 9) (pda_nil)))) (blkOk_by (own := [("_law_one", 17), ("_law_number", 16)]) (by kernel_rfl)) (fun _ _ _ _ _ => pg_tup rfl (pgs_cons (pg_name (i := 17) sc_L_shut.nd rfl (by first | exact .inl rfl | exact .inr rfl)) (pgs_cons (pg_name (i := 16) sc_L_shut.nd rfl (by first | exact .inl rfl | exact .inr rfl)) (pgs_nil)))) (tg_tup (tgs_cons (tg_name (i := 17) (by decide)) (tgs_cons (tg_name (i := 16) (by decide)) (tgs_nil) (mon_name (i := 16))) (mon_name (i := 17)))) (mon_tup (mon_cons (mon_name (i := 17)) (mon_cons (mon_name (i := 16)) (mon_nil)))) (fun _ _ _ _ _ => pdts_nil) (fun _ _ _ _ _ => pd_op op_addD opd_add (pd_var 17) (pd_op op_mulA opd_mul (pd_var 10) (pd_var 16)))))))) (pds_cons (pds_set (i := 11) sc_L_shut.nd rfl (.inr rfl) (pd_op op_addD opd_add (pd_int) (pd_call G_L_take (hr.mono (by decide)) rfl T.g_L_take T.F_L_take.kp T.b_L_take_2 (pda_cons (pd_var 0) (pda_cons (pd_int) (pda_nil)))))) (pds_cons (pds_setLcM (i := 12) (own := [("_law_number", 16)]) rfl sc_L_shut.nd rfl rfl (sw_true rfl rfl rfl (by decide +kernel)) (pdi_list (pd_var 6)) (blkOk_by (own := [("_law_number", 16)]) (by kernel_rfl)) (fun _ _ _ _ _ => pg_name (i := 16) sc_L_shut.nd rfl (by first | exact .inl rfl | exact .inr rfl)) (tg_name (i := 16) (by decide)) (mon_name (i := 16)) (fun _ _ _ _ _ => pdts_nil) (fun _ _ _ _ _ => pd_op op_sub opd_sub (pd_int) (pd_var 16))) (pds_cons (pds_setIx (pd_op op_sub opd_sub (pd_op op_sub opd_sub (pd_ix ix_seq opd_ix (pd_var 12) (pd_int)) (pd_var 11)) (pd_call G_L_take (hr.mono (by decide)) rfl T.g_L_take T.F_L_take.kp T.b_L_take_2 (pda_cons (pd_var 0) (pda_cons (pd_int) (pda_nil))))) (pd_var 12) (pd_int)) (pds_cons (pds_set (i := 13) sc_L_shut.nd rfl (.inl rfl) (pd_op op_mulA opd_mul (pd_call G_L_take (hr.mono (by decide)) rfl T.g_L_take T.F_L_take.kp T.b_L_take_2 (pda_cons (pd_var 0) (pda_cons (pd_int) (pda_nil)))) (pd_callB call_len cal_len rfl T.n_len (by decide +kernel) (pda_cons (pd_var 5) (pda_nil))))) (pds_cons (pds_set (i := 14) sc_L_shut.nd rfl (.inl rfl) (pd_op op_addD opd_add (pd_op op_addD opd_add (pd_slice (pd_var 5) (pdo_none) (pdo_some (pd_var 13))) (pd_lst (pda_cons (pd_tup (pda_cons (pd_str) (pda_cons (pd_frz (pd_var 12)) (pda_nil)))) (pda_nil)))) (pd_slice (pd_var 5) (pdo_some (pd_var 13)) (pdo_none)))) (pds_cons (pds_frz (i := 7) (pds_setLc (i := 15) (own := [("_law_share", 10)]) rfl sc_L_shut.nd rfl rfl (sw_true rfl rfl rfl (by decide +kernel)) (pdi_list (pd_var 7)) (blkOk_by (own := [("_law_share", 10)]) (by kernel_rfl)) (fun _ _ _ _ _ => pg_name (i := 10) sc_L_shut.nd rfl (by first | exact .inl rfl | exact .inr rfl)) (tg_name (i := 10) (by decide)) (mon_name (i := 10)) (fun _ _ _ _ _ => pdts_nil) (fun _ _ _ _ _ => pd_call G_L_low (hr.mono (by decide)) rfl T.g_L_low T.F_L_low.kp T.b_L_low_2 (pda_cons (pd_ix ix_seq opd_ix (pd_var 10) (pd_int)) (pda_cons (pd_var 11) (pda_nil)))))) (pds_one (pds_ret (pd_lst (pda_cons (pd_tup (pda_cons (pd_var 3) (pda_cons (pd_var 4) (pda_cons (pd_var 14) (pda_nil))))) (pda_cons (pd_op op_addD opd_add (pd_op op_addD opd_add (pd_slice (pd_var 15) (pdo_none) (pdo_some (pd_var 13))) (pd_lst (pda_cons (pd_tup (pda_cons (pd_int) (pda_cons (pd_var 11) (pda_nil)))) (pda_nil)))) (pd_slice (pd_var 15) (pdo_some (pd_var 13)) (pdo_none))) (pda_nil))))))))))))))))
    sem_L_shut
def sp_L_right : FS := fun ds ms P => match ds with
  | [d, y, x] => ∃ (g : Pg) (N : Nat), d = pgD g ∧ PgOk N g ∧ N ≤ 500 ∧ AnyX N y ∧ AnyX N x ∧ Few N N g ∧ Shw (.lst [pgD g, y, x]) ∧ P (.bl true) ms
  | _ => False
theorem len_L_right : ∀ ds ms Q, sp_L_right ds ms Q → ds.length = 3 := fun ds ms Q h => by
  unfold sp_L_right at h
  split at h <;> first | rfl | exact h.elim
def t_L_right : DTS := dSeq (dAsg (dCB cRepr (aCons (dLst (aCons (dVar 0) (aCons (dVar 1) (aCons (dVar 2) (aNil))))) (aNil))) (sName 3)) (dSeq (dAsg (dCall 3 0 [0, 1, 2] sp_L_left (aCons (dVar 0) (aCons (dVar 1) (aCons (dVar 2) (aNil)))) (aNil)) (sName 4)) (dSeq (dIfS (dTest (dOp fNe (dCB cRepr (aCons (dCall 3 0 [0, 1, 2] sp_p_left_by (aCons (dVar 0) (aCons (dVar 1) (aCons (dVar 2) (aNil)))) (aNil)) (aNil))) (dCB cRepr (aCons (dVar 4) (aNil))))) (dRet (dC (.bl false))) (dNext)) (dSeq (dAsg (dCall 3 0 [0, 1, 2] sp_p_lets_ranks (aCons (dVar 0) (aCons (dVar 1) (aCons (dVar 2) (aNil)))) (aNil)) (sName 5)) (dRet (dAndV (dIsi .bool (dVar 5)) (dAndV (dOp fEq (dVar 5) (dOp fEq (dVar 4) (dLst (aNil)))) (dOp fEq (dCB cRepr (aCons (dLst (aCons (dVar 0) (aCons (dVar 1) (aCons (dVar 2) (aNil))))) (aNil))) (dVar 3))))))))
theorem ne_selfS (z : Str) : (!(z == z)) = false := by simp
theorem ne_selfT (z : Str) : (z != z) = false := by simp
theorem eq_selfS (z : Str) : (z == z) = true := by simp
theorem goes_sub {g : Pg} : ∀ {ks : List Rk} {left out : List Nat}, Goes g left ks out → (∀ i ∈ out, i ∈ left) ∧ out.length ≤ left.length
  | [], _, _, .nil _ => ⟨fun _ h => h, Nat.le_refl _⟩
  | _ :: _, _, _, .cons _ h => ⟨fun i hi => outR_sub i ((goes_sub h).1 i hi), Nat.le_trans (goes_sub h).2 outR_len⟩
theorem shw_nats {is : List Nat} (h : ∀ k ∈ is, k ≤ 100) (hl : is.length ≤ 20) : Shw (.lst (is.map fun (k : Nat) => D.int (k : Int))) := by
  have ll : (is.map fun (k : Nat) => D.int (k : Int)).length = is.length := List.length_map ..
  have := (sd_lst (n := 2000) (k := 0) (xs := is.map fun (k : Nat) => D.int (k : Int)) fun x hx => by
    obtain ⟨k, hk, rfl⟩ := List.mem_map.mp hx
    exact (sm_int (n := 8) (by have := h k hk; unfold Bd; omega)).sd)
  exact (this.mono (n' := 100000) (k' := 5) (by omega) (by decide)).shw
theorem sem_L_right : ∀ ds ms Q, sp_L_right ds ms Q → t_L_right { nx := fun _ m => Q .non m, rt := Q } (startD 6 ds) ms := by
  intro ds ms Q h
  unfold sp_L_right at h
  split at h
  · rename_i d y x
    obtain ⟨g, N, rfl, ok, hN, ay, an, few, sw, h⟩ := h
    have rl := ok.rl
    have sb : ∀ b, Shw (.bl b) := fun b => (sm_bl b).shw
    have sn : Shw .non := sm_non.shw
    simp only [startD]
    unfold t_L_right
    walk_at "st"
    refine ⟨sw, ?_⟩
    walk_at "st"
    refine ⟨g, N, rfl, ok, hN, ay, an, few, fun out lv => ?_, fun n => ?_⟩
    · have lo : (∀ k ∈ out, k < g.rs.length) ∧ out.length ≤ g.rs.length := by
        obtain ⟨nv, ks, _, _, _, go⟩ := lv
        have h1 := goes_sub go
        have h2 := leftV_lt (g := g) (nv := nv)
        exact ⟨fun k hk => h2.1 k (h1.1 k hk), Nat.le_trans h1.2 h2.2⟩
      have sl := shw_nats (is := out) (fun k hk => by have := lo.1 k hk; omega) (by omega)
      unfold natsD
      walk_at "st"
      refine ⟨g, N, rfl, ok, hN, ay, an, few, fun out' lv' => ?_, fun n => absurd ⟨out, lv⟩ n⟩
      rw [← lv.one lv']
      unfold natsD
      walk_at "st"
      refine ⟨sl, ?_⟩
      walk_at "st"
      refine ⟨sl, ?_⟩
      walk_at "st"
      (first | rw [ne_selfS] | rw [ne_selfT])
      walk_at "st"
      refine ⟨g, N, rfl, ok, hN, ay, an, few, ?_⟩
      walk_at "st"
      have et : tf (Leaves g y x []) = (out.map fun (k : Nat) => D.int (k : Int)).isEmpty := by
        rw [Bool.eq_iff_iff, tf_iff]
        constructor
        · intro lv'
          rw [lv.one lv']; rfl
        · intro z
          have : out = [] := by cases out with | nil => rfl | cons _ _ => cases z
          subst this
          exact lv
      rw [et]
      rw [show ((out.map fun (k : Nat) => D.int (k : Int)).isEmpty == (out.map fun (k : Nat) => D.int (k : Int)).isEmpty) = true by simp]
      walk_at "st"
      refine ⟨sw, ?_⟩
      walk_at "st"
      rw [eq_selfS]
      exact h
    · walk_at "st"
      refine ⟨g, N, rfl, ok, hN, ay, an, few, fun out lv => absurd ⟨out, lv⟩ n, fun _ => ?_⟩
      walk_at "st"
      refine ⟨sn, ?_⟩
      walk_at "st"
      refine ⟨sn, ?_⟩
      walk_at "st"
      refine ⟨g, N, rfl, ok, hN, ay, an, few, ?_⟩
      rw [tf_no (G := Leaves g y x []) fun lv => n ⟨_, lv⟩]
      walk_at "st"
      refine (show ShD D.non ∧ ShD (.lst []) ∧ _ from ⟨⟨_, rfl, rfl⟩, ⟨_, rfl, rfl⟩, ?_⟩)
      rw [show eqD .non (.lst []) = false from rfl]
      walk_at "st"
      refine ⟨sw, ?_⟩
      walk_at "st"
      rw [eq_selfS]
      exact h
  · exact h.elim
theorem ok_L_right (T : Tx P K mg) : FnG P w K mg base 11 T.f_L_right T.d_L_right ["_law_program", "_law_never", "_law_ranks"] (spD K sp_L_right) := by
  have G_L_left := ok_L_left (P := P) (w := w) (base := base) T
  have G_p_lets_ranks := ok_p_lets_ranks (P := P) (w := w) (base := base) T
  have G_p_left_by := ok_p_left_by (P := P) (w := w) (base := base) T
  exact fnG_of (k := 10) (t := t_L_right) T.F_L_right sc_L_right len_L_right
    (fun cdv A outer s H hr => pds_cons (pds_set (i := 3) sc_L_right.nd rfl (.inl rfl) (pd_callB (call_reprD hr) cal_repr rfl T.n_repr (by decide +kernel) (pda_cons (pd_lst (pda_cons (pd_var 0) (pda_cons (pd_var 1) (pda_cons (pd_var 2) (pda_nil))))) (pda_nil)))) (pds_cons (pds_set (i := 4) sc_L_right.nd rfl (.inl rfl) (pd_call G_L_left (hr.mono (by decide)) rfl T.g_L_left T.F_L_left.kp T.b_L_left_3 (pda_cons (pd_var 0) (pda_cons (pd_var 1) (pda_cons (pd_var 2) (pda_nil)))))) (pds_cons (pds_if (pdt_cmp (op_neF hr.r.units) opd_ne (pd_callB (call_reprD hr) cal_repr rfl T.n_repr (by decide +kernel) (pda_cons (pd_call G_p_left_by (hr.mono (by decide)) rfl T.g_p_left_by T.F_p_left_by.kp T.b_p_left_by_3 (pda_cons (pd_var 0) (pda_cons (pd_var 1) (pda_cons (pd_var 2) (pda_nil))))) (pda_nil))) (pd_callB (call_reprD hr) cal_repr rfl T.n_repr (by decide +kernel) (pda_cons (pd_var 4) (pda_nil)))) (pds_one (pds_ret (pd_bl))) (pds_nil)) (pds_cons (pds_set (i := 5) sc_L_right.nd rfl (.inl rfl) (pd_call G_p_lets_ranks (hr.mono (by decide)) rfl T.g_p_lets_ranks T.F_p_lets_ranks.kp T.b_p_lets_ranks_3 (pda_cons (pd_var 0) (pda_cons (pd_var 1) (pda_cons (pd_var 2) (pda_nil)))))) (pds_one (pds_ret (pd_and (pd_isi .bool (by decide) rfl T.n_isinstance rfl T.n_bool (by decide +kernel) (by decide) (by decide) (pd_var 5)) (pd_and (pd_cmp (op_eqF hr.r.units) opd_eq (pd_var 5) (pd_cmp (op_eqF hr.r.units) opd_eq (pd_var 4) (pd_lst (pda_nil)))) (pd_one (pd_cmp (op_eqF hr.r.units) opd_eq (pd_callB (call_reprD hr) cal_repr rfl T.n_repr (by decide +kernel) (pda_cons (pd_lst (pda_cons (pd_var 0) (pda_cons (pd_var 1) (pda_cons (pd_var 2) (pda_nil))))) (pda_nil))) (pd_var 3)))))))))))
    sem_L_right
def Good (x : D) : Prop := (∃ k, k ≤ 20 ∧ Any true 101 21 k x) ∧ wD x ≤ 2000000
theorem Good.anyx {x : D} (h : Good x) : AnyX 110 x := by
  obtain ⟨⟨k, _, a⟩, _⟩ := h
  exact ⟨k, a.mono id (by decide) (by decide) (Nat.le_refl _)⟩
theorem Good.shw {g : Pg} {x : D} (ok : PgOk 110 g) (h : Good x) : Shw (.lst [pgD g, x]) := by
  obtain ⟨⟨k, hk, a⟩, w⟩ := h
  have g1 : Sd (pgD g) 2000000 21 := (gd_pg ok).sd.mono (by decide) (by decide)
  have g2 : Sd x 2000000 21 := (a.sd (by decide)).mono w (by omega)
  exact (sd_lst (forall2 (p := fun d => Sd d 2000000 21) g1 g2)).shw (by simp)
theorem pg_up {B B' : Nat} {g : Pg} (h : PgOk B g) (hb : B ≤ B') : PgOk B' g := ⟨h.nm, h.pm, h.rl, fun r hr => ⟨(h.ro r hr).s0, (h.ro r hr).s1, (h.ro r hr).t0, (h.ro r hr).t1, (h.ro r hr).wl, fun w hw => ⟨fun x hx => (((h.ro r hr).wo w hw).bd x hx).mono hb, ((h.ro r hr).wo w hw).ln⟩⟩⟩
/-- a drawn program with what is drawn as never -/
structure Drw (g : Pg) (nv : List (Nat × List (Int × Int))) : Prop where
  ok : PgOk 20 g
  no : NvOk g nv
  nl : nv.length ≤ 10
  sl : ∀ p ∈ nv, p.2.length ≤ 12 ∧ ∀ s ∈ p.2, FB 10 10 s
theorem Drw.pg {g : Pg} {nv : List (Nat × List (Int × Int))} (h : Drw g nv) : PgOk 110 g := pg_up h.ok (by decide)
theorem Drw.few {g : Pg} {nv : List (Nat × List (Int × Int))} (h : Drw g nv) : Few 110 110 g := ⟨fun r hr => by have := (h.ok.ro r hr).wl; omega⟩
theorem wD_shares : ∀ s : List (Int × Int), wDs (s.map fr) = 4016 * s.length
  | [] => rfl
  | x :: r => by
    rw [List.map_cons, List.length_cons]
    show (2000 + 2 + (2000 + 2 + 0)) + 10 + 2 + wDs (r.map fr) = _
    rw [wD_shares r]; omega
theorem wD_nvs : ∀ nv : List (Nat × List (Int × Int)), (∀ p ∈ nv, p.2.length ≤ 12) → wDs (nv.map nvD) ≤ 60000 * nv.length
  | [], _ => Nat.zero_le _
  | x :: r, h => by
    rw [List.map_cons, List.length_cons]
    show (2000 + 2 + (wDs (x.2.map fr) + 10 + 2 + 0)) + 10 + 2 + wDs (r.map nvD) ≤ _
    have := wD_nvs r fun s hs => h s (List.mem_cons_of_mem _ hs)
    have := h x List.mem_cons_self
    rw [wD_shares x.2]; omega
theorem any_shares {s : List (Int × Int)} (hl : s.length ≤ 12) (h : ∀ x ∈ s, FB 10 10 x) : Any false 100 20 2 (.lst (s.map fr)) := .lst (by rw [List.length_map]; omega) fun x hx => by
  obtain ⟨s, hs, rfl⟩ := List.mem_map.mp hx
  refine .tup (by simp) fun x hx => ?_
  simp only [List.mem_cons, List.not_mem_nil, or_false] at hx
  rcases hx with rfl | rfl
  · exact .int ((h s hs).top.mono (by decide))
  · exact .int ((h s hs).bot.mono (by decide))
theorem Drw.any {g : Pg} {nv : List (Nat × List (Int × Int))} (h : Drw g nv) : Any false 100 20 4 (.lst (nv.map nvD)) ∧ wD (.lst (nv.map nvD)) ≤ 600010 := by
  refine ⟨.lst (by rw [List.length_map]; have := h.nl; omega) fun x hx => ?_, ?_⟩
  · obtain ⟨p, hp, rfl⟩ := List.mem_map.mp hx
    refine .tup (by simp) fun x hx => ?_
    simp only [List.mem_cons, List.not_mem_nil, or_false] at hx
    rcases hx with rfl | rfl
    · have := h.no.lt p hp
      have := h.ok.rl
      exact .int ((show Bd 5 (p.1 : Int) by unfold Bd; omega).mono (by decide))
    · exact any_shares (h.sl p hp).1 (h.sl p hp).2
  · have := wD_nvs nv fun p hp => (h.sl p hp).1
    have := h.nl
    show wDs (nv.map nvD) + 10 ≤ _
    omega
theorem Drw.good {g : Pg} {nv : List (Nat × List (Int × Int))} (h : Drw g nv) : Good (.lst (nv.map nvD)) :=
  ⟨⟨4, by decide, h.any.1.mono (fun z => by cases z) (by decide) (by decide) (Nat.le_refl _)⟩, Nat.le_trans h.any.2 (by decide)⟩
theorem Drw.sub {g : Pg} {nv nv' : List (Nat × List (Int × Int))} (h : Drw g nv) (s : nv'.Sublist nv) : Drw g nv' :=
  ⟨h.ok, ⟨fun p hp => h.no.lt p (s.subset hp), h.no.up.sublist (s.map _), fun p hp => h.no.at_ p (s.subset hp)⟩, Nat.le_trans s.length_le h.nl, fun p hp => h.sl p (s.subset hp)⟩
theorem rw_up {B B' sz pl : Nat} {r : Rw} (h : RwOk B sz pl r) (hb : B ≤ B') : RwOk B' sz pl r := ⟨h.s0, h.s1, h.t0, h.t1, h.wl, fun w hw => (h.wo w hw).mono hb⟩
theorem any_fr {N M : Nat} {t : Int × Int} (h : FB N M t) (hN : N ≤ 100) (hM : M ≤ 100) : Any false 100 10 1 (fr t) := .tup (by simp) fun x hx => by
  simp only [List.mem_cons, List.not_mem_nil, or_false] at hx
  rcases hx with rfl | rfl
  · exact .int (h.top.mono hN)
  · exact .int (h.bot.mono hM)
theorem any_frl {N M : Nat} {ss : List (Int × Int)} (hl : ss.length ≤ 10) (h : ∀ s ∈ ss, FB N M s) (hN : N ≤ 100) (hM : M ≤ 100) : Any false 100 10 2 (.lst (ss.map fr)) := .lst (by rw [List.length_map]; exact hl) fun x hx => by
  obtain ⟨s, hs, rfl⟩ := List.mem_map.mp hx
  exact any_fr (h s hs) hN hM
theorem any_tb {B n : Nat} {t : Tb} (tok : TbOk B n t) (hB : B ≤ 100) (hn : n ≤ 8) (hl : t.length ≤ 10) : Any false 100 10 2 (.lst (t.map lnT)) := .lst (by rw [List.length_map]; exact hl) fun x hx => by
  obtain ⟨p, hp, rfl⟩ := List.mem_map.mp hx
  refine .lst (by rw [List.length_map, List.length_cons, tok.ln p hp]; omega) fun y hy => ?_
  obtain ⟨i, hi, rfl⟩ := List.mem_map.mp hy
  exact .int ((tok.bd p hp i hi).mono hB)
theorem pap_any {ts : List Tb} {td : List Td} {ranks : Nat} {g : Pg} (hK : Rkd ts td ranks g) (hr : ranks ≤ 3) : Any false 100 10 6 (.lst ((papK g ts td).map rkD)) := by
  have tl := hK.tl
  have dl := hK.dl
  have rl := hK.ok.rl
  have n3 := hK.ok.nm.l2
  have p6 := hK.ok.pm.l2
  refine .lst (by rw [List.length_map, pap_len]; omega) fun x hx => ?_
  obtain ⟨k, hk, rfl⟩ := List.mem_map.mp hx
  unfold papK at hk
  obtain ⟨i, hi, rfl⟩ := List.mem_map.mp hk
  have hi := List.mem_range.mp hi
  obtain ⟨tok, tl2⟩ := tab_of hK hi
  refine .tup (by simp) fun y hy => ?_
  simp only [List.mem_cons, List.not_mem_nil, or_false] at hy
  rcases hy with rfl | rfl
  · exact (any_tb tok (by decide) (by omega) (by omega)).up (by decide)
  · refine .lst (by show (((leftK td i).map (enK g td i)).map enD).length ≤ 10; rw [List.length_map, List.length_map]; have := left_len td i; omega) fun z hz => ?_
    obtain ⟨e, he, rfl⟩ := List.mem_map.mp hz
    obtain ⟨j, hj, rfl⟩ := List.mem_map.mp he
    obtain ⟨r, er, ei, w7⟩ := en_is hK hr hi hj
    have hj2 := (left_mem hj).1
    obtain ⟨⟨a, b, _, _, c1, c2⟩, f1, f2⟩ := ei
    refine .tup (by simp) fun w hw => ?_
    simp only [List.mem_cons, List.not_mem_nil, or_false] at hw
    rcases hw with rfl | rfl | rfl | rfl
    · exact .int (bd1 (by rw [row_enK]; omega) (by decide))
    · exact .bl _
    · exact (any_frl (by rw [c1.ln]; omega) f1 (by decide) (by decide)).up (by decide)
    · exact (any_frl (by rw [c2.ln]; omega) f2 (by decide) (by decide)).up (by decide)
theorem wDs_le {b : Nat} : ∀ {xs : List D}, (∀ x ∈ xs, wD x ≤ b) → wDs xs ≤ xs.length * (b + 2)
  | [], _ => Nat.zero_le _
  | x :: r, h => by
    have h1 := h x List.mem_cons_self
    have h2 := wDs_le (xs := r) fun y hy => h y (List.mem_cons_of_mem _ hy)
    rw [List.length_cons, Nat.succ_mul]
    show wD x + 2 + wDs r ≤ _
    omega
theorem pap_wd {ts : List Tb} {td : List Td} {ranks : Nat} {g : Pg} (hK : Rkd ts td ranks g) (hr : ranks ≤ 3) (p3 : g.pm.length ≤ 3) (r5 : g.rs.length ≤ 5) : wDs ((papK g ts td).map rkD) ≤ 950000 := by
  have tl := hK.tl
  have dl := hK.dl
  have n3 := hK.ok.nm.l2
  have one : ∀ x ∈ (papK g ts td).map rkD, wD x ≤ 315500 := fun x hx => by
    obtain ⟨k, hk, rfl⟩ := List.mem_map.mp hx
    unfold papK at hk
    obtain ⟨i, hi, rfl⟩ := List.mem_map.mp hk
    have hi := List.mem_range.mp hi
    obtain ⟨tok, tl2⟩ := tab_of hK hi
    have h1 : wDs ((ts.getD i []).map lnT) ≤ ((ts.getD i []).map lnT).length * (8018 + 2) := wDs_le fun y hy => by
      obtain ⟨q, hq, rfl⟩ := List.mem_map.mp hy
      have := wDs_le (b := 2000) (xs := (q.1 :: q.2).map D.int) fun z hz => by
        obtain ⟨j, _, rfl⟩ := List.mem_map.mp hz
        exact Nat.le_refl _
      rw [List.length_map, List.length_cons, tok.ln q hq] at this
      show wDs ((q.1 :: q.2).map D.int) + 10 ≤ _
      omega
    have h2 : wDs (((leftK td i).map (enK g td i)).map enD) ≤ (((leftK td i).map (enK g td i)).map enD).length * (58272 + 2) := wDs_le fun y hy => by
      obtain ⟨e, he, rfl⟩ := List.mem_map.mp hy
      obtain ⟨j, hj, rfl⟩ := List.mem_map.mp he
      obtain ⟨r, er, ei, w7⟩ := en_is hK hr hi hj
      obtain ⟨⟨a, b, _, _, c1, c2⟩, f1, f2⟩ := ei
      show (2000 + 2 + (10 + 2 + (wDs ((enK g td i j).lost.map fr) + 10 + 2 + (wDs ((enK g td i j).bound.map fr) + 10 + 2 + 0)))) + 10 ≤ _
      rw [wD_shares, wD_shares, c1.ln, c2.ln]
      omega
    rw [List.length_map, tl2] at h1
    rw [List.length_map, List.length_map] at h2
    have := left_len td i
    show (wDs ((ts.getD i []).map lnT) + 10 + 2 + (wDs (((leftK td i).map (enK g td i)).map enD) + 10 + 2 + 0)) + 10 ≤ _
    have h3 : g.pm.length * (8018 + 2) ≤ 3 * 8020 := Nat.mul_le_mul_right _ p3
    have h4 : (leftK td i).length * (58272 + 2) ≤ 5 * 58274 := Nat.mul_le_mul_right _ (by omega)
    omega
  have := wDs_le one
  rw [List.length_map, pap_len, tl] at this
  have h5 : ranks * (315500 + 2) ≤ 3 * 315502 := Nat.mul_le_mul_right _ hr
  omega
theorem goes_app {g : Pg} {r : Rw} : ∀ {ks : List Rk} {left out : List Nat}, Goes g left ks out → Goes ⟨g.nm, g.pm, g.rs ++ [r]⟩ left ks out
  | [], _, _, .nil l => .nil l
  | _ :: _, _, _, .cons o h => .cons ⟨o.tl, o.tn, o.el, fun p hp => by
      obtain ⟨nr, r', a, b, e1, e2⟩ := o.eo p hp
      exact ⟨nr, r', a, b, get_app e1, e2⟩⟩ (goes_app h)
theorem leftV_last {g : Pg} {r : Rw} {ss : List (Int × Int)} : leftV ⟨g.nm, g.pm, g.rs ++ [r]⟩ [(g.rs.length, ss)] = List.range g.rs.length := by
  unfold leftV
  show (List.range (g.rs ++ [r]).length).filter (fun i => !decide (i ∈ [g.rs.length])) = _
  rw [List.length_append, List.length_singleton, List.range_succ, List.filter_append, List.filter_eq_self.mpr fun i hi => by
    have := List.mem_range.mp hi
    rw [decide_eq_false fun z => by have := List.mem_singleton.mp z; omega]; rfl]
  rw [List.filter_cons_of_neg (by rw [decide_eq_true (List.mem_singleton.mpr rfl)]; decide), List.filter_nil, List.append_nil]
theorem good_lst {xs : List D} (hl : xs.length ≤ 21) (h : ∀ x ∈ xs, Any true 101 21 7 x) (hw : wDs xs ≤ 1999990) : Good (.lst xs) := ⟨⟨8, by decide, .lst hl h⟩, by show wDs xs + 10 ≤ _; omega⟩
theorem Good.shw2 {g : Pg} {y x : D} (ok : PgOk 110 g) (hy : Good y) (hx : Good x) : Shw (.lst [pgD g, y, x]) := by
  obtain ⟨⟨k, hk, a⟩, w⟩ := hx
  obtain ⟨⟨k', hk', a'⟩, w'⟩ := hy
  have g1 : Sd (pgD g) 2000000 21 := (gd_pg ok).sd.mono (by decide) (by decide)
  have g2 : Sd y 2000000 21 := (a'.sd (by decide)).mono w' (by omega)
  have g3 : Sd x 2000000 21 := (a.sd (by decide)).mono w (by omega)
  refine (sd_lst (n := 2000000) (k := 21) (xs := [pgD g, y, x]) fun z hz => ?_).shw (by simp)
  simp only [List.mem_cons, List.not_mem_nil, or_false] at hz
  rcases hz with rfl | rfl | rfl
  · exact g1
  · exact g2
  · exact g3
/-- the entries, none of which falls -/
def stD (e : En) : D := .tup [.int e.row, .bl false, .lst (e.lost.map fr), .lst (e.bound.map fr)]
theorem wD_still : ∀ es : List En, wDs (es.map stD) = wDs (es.map enD)
  | [] => rfl
  | e :: r => by
    rw [List.map_cons, List.map_cons]
    show wD (stD e) + 2 + wDs (r.map stD) = wD (enD e) + 2 + wDs (r.map enD)
    rw [wD_still r]; rfl
/-- the ranks that are asked of, the first one by its parts -/
structure Rok (tbs : List D) (es : List En) (Rr : List D) : Prop where
  an : Any false 100 20 6 (.lst (.tup [.lst tbs, .lst (es.map enD)] :: Rr))
  ln : Rr.length ≤ 2
  wd : wDs (.tup [.lst tbs, .lst (es.map enD)] :: Rr) ≤ 950000
theorem Rok.it {tbs : List D} {es : List En} {Rr : List D} (h : Rok tbs es Rr) : ∀ x ∈ (.tup [.lst tbs, .lst (es.map enD)] :: Rr : List D), Any true 101 21 7 x := fun x hx => by
  have := h.an
  cases this with
  | lst _ ok => exact ((ok x hx).mono (fun z => by cases z) (by decide) (by decide) (Nat.le_refl _)).up (by decide)
theorem Rok.two {tbs : List D} {es : List En} {Rr : List D} (h : Rok tbs es Rr) : Any true 101 21 4 (.lst tbs) ∧ Any true 101 21 4 (.lst (es.map enD)) := by
  have := h.an
  cases this with
  | lst _ ok =>
    have := ok _ List.mem_cons_self
    cases this with
    | tup _ ok2 => exact ⟨(ok2 _ (by simp)).mono (fun z => by cases z) (by decide) (by decide) (Nat.le_refl _), (ok2 _ (by simp)).mono (fun z => by cases z) (by decide) (by decide) (Nat.le_refl _)⟩
theorem Rok.st {tbs : List D} {es : List En} {Rr : List D} (h : Rok tbs es Rr) : Any true 101 21 4 (.lst (es.map stD)) := by
  have := h.two.2
  cases this with
  | lst hl ok =>
    refine .lst (by rw [List.length_map] at hl ⊢; exact hl) fun x hx => ?_
    obtain ⟨e, he, rfl⟩ := List.mem_map.mp hx
    have := ok (enD e) (List.mem_map_of_mem he)
    unfold enD at this
    cases this with
    | tup hl2 ok2 =>
      refine .tup (by simp) fun y hy => ?_
      unfold stD at *
      simp only [List.mem_cons, List.not_mem_nil, or_false] at hy
      rcases hy with rfl | rfl | rfl | rfl
      · exact ok2 _ (by simp)
      · exact .bl _
      · exact ok2 (.lst (e.lost.map fr)) (by simp)
      · exact ok2 (.lst (e.bound.map fr)) (by simp)
def sp_L_law : FS := fun ds ms P => match ds with
  | [.fro xs] => ∃ ns : List Int, xs = ns.map D.int ∧ ∀ ms', P (.bl true) ms'
  | _ => False
theorem len_L_law : ∀ ds ms Q, sp_L_law ds ms Q → ds.length = 1 := fun ds ms Q h => by
  unfold sp_L_law at h
  split at h <;> first | rfl | exact h.elim
def t_L_law_c3 : DTS := dFor (iSeq (dLst (aCons (dC .non) (aCons (dLst (aCons (dTup (aCons (dC (.int 0)) (aCons (dLst (aNil)) (aNil)))) (aNil))) (aCons (dOp fAdd (dVar 8) (dVar 8)) (aCons (dCall 2 0 [0, 1] sp_L_put (aCons (dVar 2) (aCons (dVar 8) (aNil))) (aNil)) (aNil))))))) (sName 14) (dIfS (dNot (dTest (dCall 3 0 [0, 1, 2] sp_L_right (aCons (dVar 4) (aCons (dVar 14) (aCons (dVar 7) (aNil)))) (aNil)))) (dRet (dC (.bl false))) (dNext))
def t_L_law_c2 : DTS := dSeq (dAsg (dLst (aCons (dSl (dVar 7) (oNone) (oSome (dC (.int 1)))) (aCons (dOp fAdd (dVar 7) (dSl (dVar 7) (oNone) (oSome (dC (.int 1))))) (aCons (dOp fAdd (dVar 7) (dLst (aCons (dTup (aCons (dOp fIx (dOp fIx (dVar 7) (dC (.int 0))) (dC (.int 0))) (aCons (dLst (aNil)) (aNil)))) (aNil)))) (aCons (dRevL (dVar 7)) (aCons (dLst (aNil)) (aCons (dC .non) (aCons (dCB cTuple (aCons (dVar 7) (aNil))) (aNil))))))))) (sName 11)) (dSeq (dAsg (dLc (iSeq (dOp fIx (dOp fIx (dVar 7) (dC (.int 0))) (dC (.int 1)))) (sTup 4 (sCons (sName 9) (sCons (sName 15) (sCons (sName 16) (sCons (sName 17) (sNil)))))) (dYes) (dTup (aCons (dVar 9) (aCons (dC (.bl false)) (aCons (dVar 16) (aCons (dVar 17) (aNil)))))) [9, 15, 16, 17]) (sName 12)) (dSeq (dAsg (dOp fAdd (dOp fAdd (dVar 11) (dLst (aCons (dOp fAdd (dLst (aCons (dTup (aCons (dOp fIx (dOp fIx (dVar 7) (dC (.int 0))) (dC (.int 0))) (aCons (dVar 12) (aNil)))) (aNil))) (dVar 7)) (aNil)))) (dLc (iRange1 (aCons (dC (.int 6)) (aNil))) (sName 18) (dYes) (dCall 2 0 [0, 1] sp_L_put (aCons (dVar 2) (aCons (dVar 7) (aNil))) (aNil)) [18])) (sName 11)) (dSeq (dFor (iSeq (dVar 11)) (sName 13) (dIfS (dOr (dNot (dTest (dCall 3 0 [0, 1, 2] sp_L_right (aCons (dVar 4) (aCons (dVar 8) (aCons (dVar 13) (aNil)))) (aNil)))) (dNot (dTest (dCall 3 0 [0, 1, 2] sp_L_right (aCons (dVar 4) (aCons (dLst (aNil)) (aCons (dVar 13) (aNil)))) (aNil))))) (dRet (dC (.bl false))) (dNext))) (t_L_law_c3))))
def t_L_law_c1 : DTS := dSeq (dViewS 8 (dViewS 4 (dIfS (dOr (dTest (dOp fNotIs (dCall 3 0 [0, 1, 2] sp_p_lets_ranks (aCons (dVar 4) (aCons (dVar 8) (aCons (dVar 7) (aNil)))) (aNil)) (dC (.bl true)))) (dNot (dTest (dCall 3 0 [0, 1, 2] sp_L_right (aCons (dVar 4) (aCons (dVar 8) (aCons (dVar 7) (aNil)))) (aNil))))) (dRet (dC (.bl false))) (dNext)))) (t_L_law_c2)
def t_L_law : DTS := dSeq (dFor (iRange1 (aCons (dCB cMax2 (aCons (dC (.int 1)) (aCons (dCB cMin2 (aCons (dCB cLen (aCons (dVar 0) (aNil))) (aCons (dC (.int 4)) (aNil)))) (aNil)))) (aNil))) (sName 1) (dSeq (dAsg (dCall 2 0 [0, 1] sp_L_pool (aCons (dVar 0) (aCons (dVar 1) (aNil))) (aNil)) (sName 2)) (dSeq (dAsg (dOp fIx (dLst (aCons (dC (.int 2)) (aCons (dC (.int 3)) (aNil)))) (dCB cInt1 (aCons (dOp fEq (dVar 1) (dC (.int 0))) (aNil)))) (sName 3)) (dSeq (dAsg (dCall 5 0 [0, 1, 2, 3, 4] sp_L_ranked (aCons (dVar 2) (aCons (dVar 3) (aCons (dC (.int 3)) (aCons (dOp fAdd (dC (.int 1)) (dCall 2 0 [0, 1] sp_L_take (aCons (dVar 2) (aCons (dC (.int 4)) (aNil))) (aNil))) (aCons (dOp fAdd (dC (.int 1)) (dCall 2 0 [0, 1] sp_L_take (aCons (dVar 2) (aCons (dC (.int 3)) (aNil))) (aNil))) (aNil)))))) (aNil)) (sLst 3 (sCons (sName 4) (sCons (sName 5) (sCons (sName 6) (sNil)))))) (dSeq (dAsg (dCall 3 0 [0, 1, 2] sp_L_paper (aCons (dVar 4) (aCons (dVar 5) (aCons (dVar 6) (aNil)))) (aNil)) (sName 7)) (dSeq (dAsg (dLstM (aNil)) (sName 8)) (dSeq (dIfS (dTest (dOp fEq (dCall 2 0 [0, 1] sp_L_take (aCons (dVar 2) (aCons (dC (.int 2)) (aNil))) (aNil)) (dC (.int 0)))) (dSeq (dAsg (dCB cLen (aCons (dOp fIx (dVar 4) (dC (.int 0))) (aNil))) (sName 3)) (dSeq (dAsg (dCall 3 0 [0, 1, 2] sp_L_shut (aCons (dVar 2) (aCons (dVar 3) (aCons (dCall 3 0 [0, 1, 2] sp_L_row (aCons (dVar 2) (aCons (dVar 3) (aCons (dCB cLen (aCons (dOp fIx (dVar 4) (dC (.int 1))) (aNil))) (aNil)))) (aNil)) (aNil)))) (aNil)) (sLst 2 (sCons (sName 9) (sCons (sName 10) (sNil))))) (dSeq (dDrop (dAppend (dVar 8) (aCons (dTup (aCons (dCB cLen (aCons (dOp fIx (dVar 4) (dC (.int 2))) (aNil))) (aCons (dVar 10) (aNil)))) (aNil)))) (dDrop (dAppend (dOp fIx (dVar 4) (dC (.int 2))) (aCons (dVar 9) (aNil))))))) (dNext)) (t_L_law_c1)))))))) (dRet (dC (.bl true)))
section
variable {g : Pg} {nv : List (Nat × List (Int × Int))} {p : Addr} {m : MS} {E : EN} {N : DS → MS → Prop} {tbs Rr : List D} {es : List En} {x0 x1 x3 x4 x5 x6 x7 x8 x9 x10 x11 x12 x13 x14 x15 x16 x17 x18 : Option D}
theorem right_ask {y z : D} {P : D → MS → Prop} (w : Drw g nv) (gy : Good y) (gz : Good z) (h : P (.bl true) m) : sp_L_right [pgD g, y, z] m P :=
  ⟨g, 110, rfl, w.pg, by decide, gy.anyx, gz.anyx, w.few, Good.shw2 w.pg gy gz, h⟩
theorem law_c3 (w : Drw g nv) (R : Rok tbs es Rr) (pm : PoolAt m p)
    (hN : ∀ m' y14, PoolAt m' p → Chg m p m' → N [x0, x1, some (.opq (.ref p)), x3, some (pgD g), x5, x6, some (.lst (.tup [.lst tbs, .lst (es.map enD)] :: Rr)), some (.lst (nv.map nvD)), x9, x10, x11, x12, x13, y14, x15, x16, x17, x18] m') :
    t_L_law_c3 (EN.lp E N) [x0, x1, some (.opq (.ref p)), x3, some (pgD g), x5, x6, some (.lst (.tup [.lst tbs, .lst (es.map enD)] :: Rr)), some (.lst (nv.map nvD)), x9, x10, x11, x12, x13, x14, x15, x16, x17, x18] m := by
  have an := w.any
  have nl := w.nl
  have gR : Good (.lst (.tup [.lst tbs, .lst (es.map enD)] :: Rr)) := good_lst (by have := R.ln; rw [List.length_cons]; omega) R.it (by have := R.wd; omega)
  unfold t_L_law_c3
  walk_at "st"
  refine ⟨size_ok (by rw [List.length_map]; omega), ?_⟩
  walk_at "st"
  refine ⟨pm, by decide, 20, by decide, by decide, an.1.up (by decide), fun d' po m2 p2 c2 => ?_⟩
  have gd : Good d' := ⟨⟨7, by decide, po.an⟩, Nat.le_trans po.wd (by have := an.2; omega)⟩
  walk_at "st"
  refine loop_inv (fun ds m' => m' = m2 ∧ ∃ x14, ds = [x0, x1, some (.opq (.ref p)), x3, some (pgD g), x5, x6, some (.lst (.tup [.lst tbs, .lst (es.map enD)] :: Rr)), some (.lst (nv.map nvD)), x9, x10, x11, x12, x13, x14, x15, x16, x17, x18]) _ _ _ ⟨rfl, _, rfl⟩ ?_ ?_
  · rintro x hx ds m' ⟨rfl, y14, rfl⟩ G hG
    have gx : Good x := by
      simp only [List.mem_cons, List.not_mem_nil, or_false] at hx
      rcases hx with rfl | rfl | rfl | rfl
      · exact ⟨⟨0, by decide, .non⟩, by show 10 ≤ _; decide⟩
      · refine ⟨⟨3, by decide, .lst (by simp) fun x hx => ?_⟩, by show ((2000 + 2 + ((0 + 10) + 2 + 0) + 10) + 2 + 0) + 10 ≤ _; decide⟩
        rw [List.mem_singleton.mp hx]
        refine .tup (by simp) fun x hx => ?_
        simp only [List.mem_cons, List.not_mem_nil, or_false] at hx
        rcases hx with rfl | rfl
        · exact .int (by unfold Bd; decide)
        · exact .lst (Nat.zero_le _) (fun x hx => by cases hx)
      · refine good_lst (by rw [List.length_append, List.length_map]; omega) (fun x hx => ?_) (by
          have := an.2
          have h2 : wDs (nv.map nvD) + 10 ≤ 600010 := this
          rw [wDs_app]; omega)
        have := an.1
        cases this with
        | lst _ ok => exact ((ok x ((List.mem_append.mp hx).elim id id)).mono (fun z => by cases z) (by decide) (by decide) (Nat.le_refl _)).up (by decide)
      · exact gd
    walk_at "st"
    refine right_ask w gx gR ?_
    walk_at "st"
    exact hG _ _ ⟨rfl, _, rfl⟩
  · rintro ds m' ⟨rfl, y14, rfl⟩
    walk_at "st"
    exact hN _ _ p2 c2
theorem law_c2 (w : Drw g nv) (R : Rok tbs es Rr) (pm : PoolAt m p)
    (hN : ∀ m' y9 y11 y12 y13 y14 y15 y16 y17 y18, PoolAt m' p → Chg m p m' → N [x0, x1, some (.opq (.ref p)), x3, some (pgD g), x5, x6, some (.lst (.tup [.lst tbs, .lst (es.map enD)] :: Rr)), some (.lst (nv.map nvD)), y9, x10, y11, y12, y13, y14, y15, y16, y17, y18] m') :
    t_L_law_c2 (EN.lp E N) [x0, x1, some (.opq (.ref p)), x3, some (pgD g), x5, x6, some (.lst (.tup [.lst tbs, .lst (es.map enD)] :: Rr)), some (.lst (nv.map nvD)), x9, x10, x11, x12, x13, x14, x15, x16, x17, x18] m := by
  have rl := R.ln
  have rw0 := R.wd
  have wr : wDs (.tup [.lst tbs, .lst (es.map enD)] :: Rr) = wD (.tup [.lst tbs, .lst (es.map enD)]) + 2 + wDs Rr := rfl
  have el : es.length ≤ 21 := by
    have := R.two.2
    cases this with
    | lst hl _ => rw [List.length_map] at hl; exact hl
  have gnil : Good (.lst []) := good_lst (Nat.zero_le _) (fun x hx => by cases hx) (Nat.zero_le _)
  have cut1 : cutL (.tup [.lst tbs, .lst (es.map enD)] :: Rr) none (some 1) = [.tup [.lst tbs, .lst (es.map enD)]] := by
    rw [show (1 : Int) = ((1 : Nat) : Int) from rfl, cut_to _ _ (by rw [List.length_cons]; omega)]; rfl
  unfold t_L_law_c2
  walk_at "st"
  rw [cut1]
  refine ⟨size_ok (by simp; omega), ?_⟩
  walk_at "st"
  refine ⟨size_ok (by simp; omega), ?_⟩
  walk_at "st"
  simp only [wipeD, List.set]
  refine comp_e enD stD es [] _ (by rw [List.length_nil]; omega) (fun e he P0 q => ?_) ?_
  · unfold enD
    walk_at "st"
    exact q
  rw [List.nil_append]
  walk_at "st"
  refine ⟨size_ok (by simp; omega), ?_⟩
  walk_at "st"
  simp only [wipeD, List.set]
  refine comp_pool (p := p) (Good := fun d => PutOk 20 6 (.lst (.tup [.lst tbs, .lst (es.map enD)] :: Rr)) d) _ [] m _ pm (by rw [rng_len, List.length_nil]; decide) ?_ ?_
  · intro x hx m1 hm P0 q
    walk_at "st"
    refine ⟨hm, by decide, 20, by decide, by decide, R.an, fun d' po m2 p2 c2 => ?_⟩
    exact q _ _ po p2 c2
  intro ys m1 hl hg p1 c1
  rw [rng_len] at hl
  have hl : ys.length = 6 := hl
  rw [List.nil_append]
  walk_at "st"
  refine ⟨size_ok (by simp; omega), ?_⟩
  walk_at "st"
  have gnv := w.good
  refine loop_inv (fun ds m' => m' = m1 ∧ ∃ x9 x13 x15 x16 x17 x18, ds = [x0, x1, some (.opq (.ref p)), x3, some (pgD g), x5, x6, some (.lst (.tup [.lst tbs, .lst (es.map enD)] :: Rr)), some (.lst (nv.map nvD)), x9, x10, _, _, x13, x14, x15, x16, x17, x18]) _ _ _ ⟨rfl, _, _, _, _, _, _, rfl⟩ ?_ ?_
  · rintro x hx ds m' ⟨rfl, y9, y13, y15, y16, y17, y18, rfl⟩ G hG
    have gx : Good x := by
      rcases List.mem_append.mp hx with hx | hx
      · rcases List.mem_append.mp hx with hx | hx
        · simp only [List.mem_cons, List.not_mem_nil, or_false] at hx
          rcases hx with rfl | rfl | rfl | rfl | rfl | rfl | rfl
          · exact good_lst (by simp) (fun z hz => R.it z (by rw [List.mem_singleton.mp hz]; exact List.mem_cons_self)) (by show wD _ + 2 + 0 ≤ _; omega)
          · refine good_lst (by simp; omega) (fun z hz => ?_) (by rw [wDs_app]; show _ + (wD _ + 2 + 0) ≤ _; omega)
            rcases List.mem_append.mp hz with hz | hz
            · exact R.it z hz
            · exact R.it z (by rw [List.mem_singleton.mp hz]; exact List.mem_cons_self)
          · refine good_lst (by simp; omega) (fun z hz => ?_) (by
              rw [wDs_app]
              have : wD (.tup [.lst tbs, .lst (es.map enD)]) = wD (.lst tbs) + 2 + (wD (.lst (es.map enD)) + 2 + 0) + 10 := rfl
              show _ + ((wD (.lst tbs) + 2 + ((0 + 10) + 2 + 0) + 10) + 2 + 0) ≤ _; omega)
            rcases List.mem_append.mp hz with hz | hz
            · exact R.it z hz
            · rw [List.mem_singleton.mp hz]
              refine .tup (by simp) fun u hu => ?_
              simp only [List.mem_cons, List.not_mem_nil, or_false] at hu
              rcases hu with rfl | rfl
              · exact R.two.1.up (by decide)
              · exact .lst (Nat.zero_le _) (fun x hx => by cases hx)
          · exact good_lst (by simp; omega) (fun z hz => R.it z (List.mem_reverse.mp hz)) (by rw [wDs_rev]; omega)
          · exact gnil
          · exact ⟨⟨0, by decide, .non⟩, by show 10 ≤ _; decide⟩
          · exact ⟨⟨8, by decide, .tup (by simp; omega) R.it⟩, by show wDs (.tup [.lst tbs, .lst (es.map enD)] :: Rr) + 10 ≤ _; omega⟩
        · rw [List.mem_singleton.mp hx]
          refine good_lst (by simp; omega) (fun z hz => ?_) (by
            have : wD (.tup [.lst tbs, .lst (es.map enD)]) = wD (.lst tbs) + 2 + ((wDs (es.map enD) + 10) + 2 + 0) + 10 := rfl
            show (wD (.lst tbs) + 2 + ((wDs (es.map stD) + 10) + 2 + 0) + 10) + 2 + wDs (.tup [.lst tbs, .lst (es.map enD)] :: Rr) ≤ _
            rw [wD_still]; omega)
          rcases List.mem_cons.mp hz with rfl | hz
          · refine .tup (by simp) fun u hu => ?_
            simp only [List.mem_cons, List.not_mem_nil, or_false] at hu
            rcases hu with rfl | rfl
            · exact R.two.1.up (by decide)
            · exact R.st.up (by decide)
          · exact R.it z hz
      · have po := hg x hx
        exact ⟨⟨7, by decide, po.an⟩, Nat.le_trans po.wd (by show 2 * (wDs (.tup [.lst tbs, .lst (es.map enD)] :: Rr) + 10) + 9000 ≤ _; omega)⟩
    walk_at "st"
    refine right_ask w gnv gx ?_
    walk_at "st"
    refine right_ask w gnil gx ?_
    walk_at "st"
    exact hG _ _ ⟨rfl, _, _, _, _, _, _, rfl⟩
  · rintro ds m' ⟨rfl, y9, y13, y15, y16, y17, y18, rfl⟩
    walk_at "st"
    exact law_c3 w R p1 fun m2 y14 p2 c2 => hN m2 _ _ _ _ y14 _ _ _ _ p2 (c1.trans c2)
theorem law_c1 {q qn : Addr} (w : Drw g nv) (R : Rok tbs es Rr) (lv : Leaves g (.lst (nv.map nvD)) (.lst (.tup [.lst tbs, .lst (es.map enD)] :: Rr)) []) (pm : PoolAt m p)
    (hN : ∀ m' y4 y8 y9 y11 y12 y13 y14 y15 y16 y17 y18, PoolAt m' p → Chg m p m' → N [x0, x1, some (.opq (.ref p)), x3, y4, x5, x6, some (.lst (.tup [.lst tbs, .lst (es.map enD)] :: Rr)), y8, y9, x10, y11, y12, y13, y14, y15, y16, y17, y18] m') :
    t_L_law_c1 (EN.lp E N) [x0, x1, some (.opq (.ref p)), x3, some (.tup [.lst (g.nm.map D.str), .lst (g.pm.map D.str), .opq (.ref q)]), x5, x6, some (.lst (.tup [.lst tbs, .lst (es.map enD)] :: Rr)), some (.opq (.ref qn)), x9, x10, x11, x12, x13, x14, x15, x16, x17, x18] ((qn, nv.map nvD) :: (q, g.rs.map rwD) :: m) := by
  have gR : Good (.lst (.tup [.lst tbs, .lst (es.map enD)] :: Rr)) := good_lst (by have := R.ln; rw [List.length_cons]; omega) R.it (by have := R.wd; omega)
  have wg : pgD g = .tup [.lst (g.nm.map D.str), .lst (g.pm.map D.str), .lst (g.rs.map rwD)] := rfl
  unfold t_L_law_c1
  refine w_seq ?_
  refine StG.out (w_viewS [(qn, nv.map nvD)] ((q, g.rs.map rwD) :: m) rfl rfl (.lst List.mem_cons_self (VwS.same _)) rfl ?_)
  refine w_viewS [(q, g.rs.map rwD)] m rfl rfl (.tup (.cons .same (.cons .same (.cons (.lst List.mem_cons_self (VwS.same _)) .nil)))) rfl ?_
  rw [← wg]
  walk_at "st"
  refine ⟨g, 110, rfl, w.pg, by decide, w.good.anyx, gR.anyx, w.few, ?_⟩
  rw [tf_yes lv]
  walk_at "st"
  refine right_ask w w.good gR ?_
  walk_at "st"
  exact law_c2 w R pm fun m' y9 y11 y12 y13 y14 y15 y16 y17 y18 p' c' => hN m' _ _ y9 y11 y12 y13 y14 y15 y16 y17 y18 p' c'
end
theorem drw_0 {g : Pg} (ok : PgOk 7 g) : Drw g [] := ⟨pg_up ok (by decide), ⟨(fun p hp => by cases hp), List.Pairwise.nil, (fun p hp => by cases hp)⟩, Nat.zero_le _, (fun p hp => by cases hp)⟩
theorem drw_1 {g : Pg} {r : Rw} {ss : List (Int × Int)} (ok : PgOk 7 g) (r5 : g.rs.length ≤ 5) (ro : RwOk 20 g.nm.length g.pm.length r) (c : CarV r.ws (-1, List.replicate (2 * g.nm.length) 0) ss) (sb : ∀ s ∈ ss, FB 10 10 s) (sl : ss.length ≤ 12) : Drw ⟨g.nm, g.pm, g.rs ++ [r]⟩ [(g.rs.length, ss)] := by
  have er : (g.rs ++ [r])[g.rs.length]? = some r := by rw [List.getElem?_append_right (Nat.le_refl _), Nat.sub_self]; rfl
  refine ⟨⟨ok.nm, ok.pm, by show (g.rs ++ [r]).length ≤ 10; rw [List.length_append, List.length_singleton]; omega, fun x hx => ?_⟩, ⟨fun p hp => ?_, ?_, fun p hp => ?_⟩, by show 1 ≤ 10; decide, fun p hp => ?_⟩
  · rcases List.mem_append.mp hx with hx | hx
    · exact rw_up (ok.ro x hx) (by decide)
    · rw [List.mem_singleton.mp hx]; exact ro
  · rw [List.mem_singleton.mp hp]
    show g.rs.length < (g.rs ++ [r]).length
    rw [List.length_append, List.length_singleton]; omega
  · exact List.pairwise_singleton _ _
  · rw [List.mem_singleton.mp hp]
    exact ⟨r, er, c⟩
  · rw [List.mem_singleton.mp hp]
    exact ⟨sl, sb⟩
theorem lv_0 {g : Pg} {ks : List Rk} (h : Goes g (List.range g.rs.length) ks []) : Leaves g (.lst (([] : List (Nat × List (Int × Int))).map nvD)) (.lst (ks.map rkD)) [] :=
  ⟨[], ks, rfl, ⟨(fun _ h => by cases h), List.Pairwise.nil, (fun _ h => by cases h)⟩, rfl, by rw [leftV_nil]; exact h⟩
theorem lv_1 {g : Pg} {ks : List Rk} {r : Rw} {ss : List (Int × Int)} (w : Drw ⟨g.nm, g.pm, g.rs ++ [r]⟩ [(g.rs.length, ss)]) (h : Goes g (List.range g.rs.length) ks []) : Leaves ⟨g.nm, g.pm, g.rs ++ [r]⟩ (.lst ([(g.rs.length, ss)].map nvD)) (.lst (ks.map rkD)) [] :=
  ⟨_, ks, rfl, w.no, rfl, by rw [leftV_last]; exact goes_app h⟩
theorem sem_L_law : ∀ ds ms Q, sp_L_law ds ms Q → t_L_law { nx := fun _ m => Q .non m, rt := Q } (startD 19 ds) ms := by
  intro ds ms Q h
  unfold sp_L_law at h
  split at h
  · obtain ⟨ns, rfl, h⟩ := h
    simp only [startD]
    unfold t_L_law
    walk_at "st"
    have hy := cells_le 4 (by decide) (ns.map D.int).length
    generalize (if (if 4 < ((ns.map D.int).length : Int) then 4 else ((ns.map D.int).length : Int)) > 1 then if 4 < ((ns.map D.int).length : Int) then 4 else ((ns.map D.int).length : Int) else 1) = y at hy
    refine w_mRng ⟨by omega, by omega⟩ ?_
    refine loop_inv (fun ds _ => ∃ x1 x2 x3 x4 x5 x6 x7 x8 x9 x10 x11 x12 x13 x14 x15 x16 x17 x18, ds = [some (.fro (ns.map D.int)), x1, x2, x3, x4, x5, x6, x7, x8, x9, x10, x11, x12, x13, x14, x15, x16, x17, x18]) _ _ _ ⟨_, _, _, _, _, _, _, _, _, _, _, _, _, _, _, _, _, _, rfl⟩ ?_ ?_
    · rintro x hx ds ms ⟨x1, x2, x3, x4, x5, x6, x7, x8, x9, x10, x11, x12, x13, x14, x15, x16, x17, x18, rfl⟩ N hN
      obtain ⟨i, hi, rfl⟩ := rng_mem hx
      walk_at "st"
      refine ⟨ns, rfl, by omega, by omega, fun p hp a b o => ?_⟩
      have p0 : PoolAt ((p, [.int a, .int b]) :: ms) p := .new o
      generalize ((p, [D.int a, D.int b]) :: ms) = m0 at p0
      walk_at "st"
      refine w_ixm (by split <;> decide) (by split <;> decide) fun wd hwd => ?_
      obtain ⟨sz, rfl, s2, s3⟩ : ∃ sz : Int, wd = .int sz ∧ 2 ≤ sz ∧ sz ≤ 3 := by
        simp only [List.mem_cons, List.not_mem_nil, or_false] at hwd
        rcases hwd with rfl | rfl
        · exact ⟨2, rfl, by decide, by decide⟩
        · exact ⟨3, rfl, by decide, by decide⟩
      walk_at "st"
      refine take_step p0 (by decide) (by decide) fun c c0 c4 m1 p1 k1 => ?_
      walk_at "st"
      refine take_step p1 (by decide) (by decide) fun d d0 d2 m2 p2 k2 => ?_
      walk_at "st"
      refine ⟨p2, by omega, by omega, by decide, by decide, by omega, by omega, by omega, by omega, fun g ts td hK l1 l2 l3 q hq m3 p3 k3 => ?_⟩
      have hr : (1 + d).toNat ≤ 3 := by omega
      have ok := hK.ok
      have n1 := ok.nm.l1
      have n3 := ok.nm.l2
      have p6 := ok.pm.l2
      have pl1 := ok.pm.l1
      have r5 : g.rs.length ≤ 5 := by omega
      have tl := hK.tl
      obtain ⟨k0, kr, ek⟩ : ∃ k0 kr, papK g ts td = k0 :: kr := by
        have := pap_len (g := g) (ts := ts) (td := td)
        cases h0 : papK g ts td with
        | nil => rw [h0, List.length_nil] at this; omega
        | cons a b => exact ⟨a, b, rfl⟩
      have er : (papK g ts td).map rkD = .tup [.lst (k0.tb.map lnT), .lst (k0.es.map enD)] :: kr.map rkD := by rw [ek]; rfl
      have R : Rok (k0.tb.map lnT) k0.es (kr.map rkD) := by
        have h1 := pap_any hK hr
        have h2 := pap_wd hK hr (by omega) r5
        have h3 := pap_len (g := g) (ts := ts) (td := td)
        rw [er] at h1 h2
        rw [ek, List.length_cons] at h3
        exact ⟨h1.mono id (by decide) (by decide) (Nat.le_refl _), by rw [List.length_map]; omega, h2⟩
      have go := goes_pap hK hr
      walk_at "st"
      refine ⟨g, ts, td, (1 + d).toNat, look_new, rfl, rfl, hK, hr, ?_⟩
      rw [er]
      walk_at "st"
      intro qn hqn
      have hpq : p ≠ q := hq.symm
      have hqq : q ≠ qn := hqn (q, g.rs.map rwD) List.mem_cons_self
      have hpn : p ≠ qn := (p3.cons hpq).ne hqn
      have off : ∀ (xs ys : List D), ∀ e ∈ [(qn, xs), (q, ys)], e.1 ≠ p := fun xs ys e he => by
        simp only [List.mem_cons, List.not_mem_nil, or_false] at he
        rcases he with rfl | rfl
        · exact hpn.symm
        · exact hq
      walk_at "st"
      refine take_stepQ (qs := [_, _]) (off _ _) p3 (by decide) (by decide) fun r1 a1 b1 m4 p4 c4 => ?_
      walk_at "st"
      cases hd : r1 == 0 with
      | false =>
        walk_at "st"
        exact law_c1 (g := g) (nv := []) (drw_0 ok) R (er ▸ lv_0 go) p4 fun m' y4 y8 y9 y11 y12 y13 y14 y15 y16 y17 y18 p' c' => hN _ _ ⟨_, _, _, _, _, _, _, _, _, _, _, _, _, _, _, _, _, _, rfl⟩
      | true =>
        walk_at "st"
        rw [List.length_map]
        walk_at "st"
        rw [List.length_map]
        refine ⟨PoolAt.app (qs := [_, _]) (off _ _) p4, by omega, by omega, by omega, by omega, fun r ro r8 m5' p5' c5' => ?_⟩
        obtain ⟨m5, rfl, c5⟩ := chg_app (qs := [_, _]) (off _ _) c5'
        have p5 := PoolAt.untail (qs := [_, _]) (off _ _) p5'
        rw [Int.toNat_natCast, Int.toNat_natCast] at ro
        walk_at "st"
        refine ⟨r, g.nm.length, g.pm.length, rfl, rfl, by omega, by omega, p6, ro, r8, PoolAt.app (qs := [_, _]) (off _ _) p5, fun r' ss ro' car sb sl m6' p6' c6' => ?_⟩
        obtain ⟨m6, rfl, c6⟩ := chg_app (qs := [_, _]) (off _ _) c6'
        have p7 := PoolAt.untail (qs := [_, _]) (off _ _) p6'
        walk_at "st"
        refine CbG.out (w_len_o (look_2 hqq) ?_)
        walk_at "st"
        rw [List.length_map]
        refine w_mApp (look_2 hqq) ?_
        walk_at "st"
        refine w_mApp2 (look_2 hqq) (put_2 hqq) ⟨Nat.lt_of_lt_of_le (show (g.rs.map rwD).length < 20 by rw [List.length_map]; omega) (by decide), ?_⟩
        rw [show g.rs.map rwD ++ [rwD r'] = (g.rs ++ [r']).map rwD by rw [List.map_append]; rfl]
        walk_at "st"
        have w := drw_1 ok r5 ro' car sb sl
        exact law_c1 (g := ⟨g.nm, g.pm, g.rs ++ [r']⟩) (nv := [(g.rs.length, ss)]) w R (er ▸ lv_1 w go) p7 fun m' y4 y8 y9 y11 y12 y13 y14 y15 y16 y17 y18 p' c' => hN _ _ ⟨_, _, _, _, _, _, _, _, _, _, _, _, _, _, _, _, _, _, rfl⟩
    · rintro ds m ⟨x1, x2, x3, x4, x5, x6, x7, x8, x9, x10, x11, x12, x13, x14, x15, x16, x17, x18, rfl⟩
      walk_at "st"
      exact h m
  · exact h.elim
theorem ok_L_law (T : Tx P K mg) : FnG P w K mg base 12 T.f_L_law T.d_L_law ["_law_script"] (spD K sp_L_law) := by
  have G_L_pool := ok_L_pool (P := P) (w := w) (base := base) T
  have G_L_ranked := ok_L_ranked (P := P) (w := w) (base := base) T
  have G_L_paper := ok_L_paper (P := P) (w := w) (base := base) T
  have G_L_take := ok_L_take (P := P) (w := w) (base := base) T
  have G_L_shut := ok_L_shut (P := P) (w := w) (base := base) T
  have G_L_put := ok_L_put (P := P) (w := w) (base := base) T
  have G_L_row := ok_L_row (P := P) (w := w) (base := base) T
  have G_p_lets_ranks := ok_p_lets_ranks (P := P) (w := w) (base := base) T
  have G_L_right := ok_L_right (P := P) (w := w) (base := base) T
  exact fnG_of (k := 11) (t := t_L_law) T.F_L_law sc_L_law len_L_law
    (fun cdv A outer s H hr => pds_cons (pds_for (vs := [1]) rfl (pdi_range1 rfl T.n_range (pda_cons (pd_callB (call_max2 rfl) cal_max2 rfl T.n_max (by decide +kernel) (pda_cons (pd_int) (pda_cons (pd_callB (call_min2 rfl) cal_min2 rfl T.n_min (by decide +kernel) (pda_cons (pd_callB call_len cal_len rfl T.n_len (by decide +kernel) (pda_cons (pd_var 0) (pda_nil))) (pda_cons (pd_int) (pda_nil)))) (pda_nil)))) (pda_nil))) (pg_name (i := 1) sc_L_law.nd rfl (.inl rfl)) (tg_name (i := 1) (by decide)) (pds_cons (pds_set (i := 2) sc_L_law.nd rfl (.inr rfl) (pd_call G_L_pool (hr.mono (by decide)) rfl T.g_L_pool T.F_L_pool.kp T.b_L_pool_2 (pda_cons (pd_var 0) (pda_cons (pd_var 1) (pda_nil))))) (pds_cons (pds_set (i := 3) sc_L_law.nd rfl (.inl rfl) (pd_ix ix_seq opd_ix (pd_lst (pda_cons (pd_int) (pda_cons (pd_int) (pda_nil)))) (pd_callTy call_int1 cal_int1 rfl T.n_int (by decide +kernel) (pda_cons (pd_cmp (op_eqF hr.r.units) opd_eq (pd_var 1) (pd_int)) (pda_nil))))) (pds_cons (pds_asg (vs := [4, 5, 6]) (pd_call G_L_ranked (hr.mono (by decide)) rfl T.g_L_ranked T.F_L_ranked.kp T.b_L_ranked_5 (pda_cons (pd_var 2) (pda_cons (pd_var 3) (pda_cons (pd_int) (pda_cons (pd_op op_addD opd_add (pd_int) (pd_call G_L_take (hr.mono (by decide)) rfl T.g_L_take T.F_L_take.kp T.b_L_take_2 (pda_cons (pd_var 2) (pda_cons (pd_int) (pda_nil))))) (pda_cons (pd_op op_addD opd_add (pd_int) (pd_call G_L_take (hr.mono (by decide)) rfl T.g_L_take T.F_L_take.kp T.b_L_take_2 (pda_cons (pd_var 2) (pda_cons (pd_int) (pda_nil))))) (pda_nil))))))) (pg_lst rfl (pgs_cons (pg_name (i := 4) sc_L_law.nd rfl (.inl rfl)) (pgs_cons (pg_name (i := 5) sc_L_law.nd rfl (.inl rfl)) (pgs_cons (pg_name (i := 6) sc_L_law.nd rfl (.inl rfl)) (pgs_nil))))) (tg_lst (tgs_cons (tg_name (i := 4) (by decide)) (tgs_cons (tg_name (i := 5) (by decide)) (tgs_cons (tg_name (i := 6) (by decide)) (tgs_nil) (mon_name (i := 6))) (mon_name (i := 5))) (mon_name (i := 4))))) (pds_cons (pds_set (i := 7) sc_L_law.nd rfl (.inr rfl) (pd_call G_L_paper (hr.mono (by decide)) rfl T.g_L_paper T.F_L_paper.kp T.b_L_paper_3 (pda_cons (pd_var 4) (pda_cons (pd_var 5) (pda_cons (pd_var 6) (pda_nil)))))) (pds_cons (pds_set (i := 8) sc_L_law.nd rfl (.inl rfl) (pd_lstM (pda_nil))) (pds_cons (pds_if (pdt_cmp (op_eqF hr.r.units) opd_eq (pd_call G_L_take (hr.mono (by decide)) rfl T.g_L_take T.F_L_take.kp T.b_L_take_2 (pda_cons (pd_var 2) (pda_cons (pd_int) (pda_nil)))) (pd_int)) (pds_cons (pds_set (i := 3) sc_L_law.nd rfl (.inl rfl) (pd_callB call_len cal_len rfl T.n_len (by decide +kernel) (pda_cons (pd_ix ix_seq opd_ix (pd_var 4) (pd_int)) (pda_nil)))) (pds_cons (pds_asg (vs := [9, 10]) (pd_call G_L_shut (hr.mono (by decide)) rfl T.g_L_shut T.F_L_shut.kp T.b_L_shut_3 (pda_cons (pd_var 2) (pda_cons (pd_var 3) (pda_cons (pd_call G_L_row (hr.mono (by decide)) rfl T.g_L_row T.F_L_row.kp T.b_L_row_3 (pda_cons (pd_var 2) (pda_cons (pd_var 3) (pda_cons (pd_callB call_len cal_len rfl T.n_len (by decide +kernel) (pda_cons (pd_ix ix_seq opd_ix (pd_var 4) (pd_int)) (pda_nil))) (pda_nil))))) (pda_nil))))) (pg_lst rfl (pgs_cons (pg_name (i := 9) sc_L_law.nd rfl (.inl rfl)) (pgs_cons (pg_name (i := 10) sc_L_law.nd rfl (.inl rfl)) (pgs_nil)))) (tg_lst (tgs_cons (tg_name (i := 9) (by decide)) (tgs_cons (tg_name (i := 10) (by decide)) (tgs_nil) (mon_name (i := 10))) (mon_name (i := 9))))) (pds_cons (pds_expr (pd_append (pd_var 8) (pda_cons (pd_tup (pda_cons (pd_callB call_len cal_len rfl T.n_len (by decide +kernel) (pda_cons (pd_ix ix_seq opd_ix (pd_var 4) (pd_int)) (pda_nil))) (pda_cons (pd_var 10) (pda_nil)))) (pda_nil)))) (pds_one (pds_expr (pd_append (pd_ix ix_seq opd_ix (pd_var 4) (pd_int)) (pda_cons (pd_var 9) (pda_nil)))))))) (pds_nil)) (pds_cons (pds_view (i := 8) (pds_view (i := 4) (pds_if (pdt_w (pdw_or (pdt_cmp op_notIsD opd_notIs (pd_call G_p_lets_ranks (hr.mono (by decide)) rfl T.g_p_lets_ranks T.F_p_lets_ranks.kp T.b_p_lets_ranks_3 (pda_cons (pd_var 4) (pda_cons (pd_var 8) (pda_cons (pd_var 7) (pda_nil))))) (pd_bl)) (pdw_or1 (pdt_not (pdt_val (pd_call G_L_right (hr.mono (by decide)) rfl T.g_L_right T.F_L_right.kp T.b_L_right_3 (pda_cons (pd_var 4) (pda_cons (pd_var 8) (pda_cons (pd_var 7) (pda_nil)))))))))) (pds_one (pds_ret (pd_bl))) (pds_nil)))) (pds_cons (pds_set (i := 11) sc_L_law.nd rfl (.inl rfl) (pd_lst (pda_cons (pd_slice (pd_var 7) (pdo_none) (pdo_some (pd_int))) (pda_cons (pd_op op_addD opd_add (pd_var 7) (pd_slice (pd_var 7) (pdo_none) (pdo_some (pd_int)))) (pda_cons (pd_op op_addD opd_add (pd_var 7) (pd_lst (pda_cons (pd_tup (pda_cons (pd_ix ix_seq opd_ix (pd_ix ix_seq opd_ix (pd_var 7) (pd_int)) (pd_int)) (pda_cons (pd_lst (pda_nil)) (pda_nil)))) (pda_nil)))) (pda_cons (pd_revL (pd_var 7)) (pda_cons (pd_lst (pda_nil)) (pda_cons (pd_non) (pda_cons (pd_callTy call_tuple_of cal_tuple rfl T.n_tuple (by decide +kernel) (pda_cons (pd_var 7) (pda_nil))) (pda_nil)))))))))) (pds_cons (pds_setLc (i := 12) (own := [("_law_row_here", 9), ("_law_falls", 15), ("_law_lost", 16), ("_law_bound", 17)]) rfl sc_L_law.nd rfl rfl (sw_true rfl rfl rfl (by decide +kernel)) (pdi_list (pd_ix ix_seq opd_ix (pd_ix ix_seq opd_ix (pd_var 7) (pd_int)) (pd_int))) (blkOk_by (own := [("_law_row_here", 9), ("_law_falls", 15), ("_law_lost", 16), ("_law_bound", 17)]) (by kernel_rfl)) (fun _ _ _ _ _ => pg_tup rfl (pgs_cons (pg_name (i := 9) sc_L_law.nd rfl (by first | exact .inl rfl | exact .inr rfl)) (pgs_cons (pg_name (i := 15) sc_L_law.nd rfl (by first | exact .inl rfl | exact .inr rfl)) (pgs_cons (pg_name (i := 16) sc_L_law.nd rfl (by first | exact .inl rfl | exact .inr rfl)) (pgs_cons (pg_name (i := 17) sc_L_law.nd rfl (by first | exact .inl rfl | exact .inr rfl)) (pgs_nil)))))) (tg_tup (tgs_cons (tg_name (i := 9) (by decide)) (tgs_cons (tg_name (i := 15) (by decide)) (tgs_cons (tg_name (i := 16) (by decide)) (tgs_cons (tg_name (i := 17) (by decide)) (tgs_nil) (mon_name (i := 17))) (mon_name (i := 16))) (mon_name (i := 15))) (mon_name (i := 9)))) (mon_tup (mon_cons (mon_name (i := 9)) (mon_cons (mon_name (i := 15)) (mon_cons (mon_name (i := 16)) (mon_cons (mon_name (i := 17)) (mon_nil)))))) (fun _ _ _ _ _ => pdts_nil) (fun _ _ _ _ _ => pd_tup (pda_cons (pd_var 9) (pda_cons (pd_bl) (pda_cons (pd_var 16) (pda_cons (pd_var 17) (pda_nil))))))) (pds_cons (pds_set (i := 11) sc_L_law.nd rfl (.inl rfl) (pd_op op_addD opd_add (pd_op op_addD opd_add (pd_var 11) (pd_lst (pda_cons (pd_op op_addD opd_add (pd_lst (pda_cons (pd_tup (pda_cons (pd_ix ix_seq opd_ix (pd_ix ix_seq opd_ix (pd_var 7) (pd_int)) (pd_int)) (pda_cons (pd_var 12) (pda_nil)))) (pda_nil))) (pd_var 7)) (pda_nil)))) (pd_lc (own := [("_law_turn", 18)]) rfl sc_L_law.nd (pdi_range1 rfl T.n_range (pda_cons (pd_int) (pda_nil))) (blkOk_by (own := [("_law_turn", 18)]) (by kernel_rfl)) (fun _ _ _ _ _ => pg_name (i := 18) sc_L_law.nd rfl (by first | exact .inl rfl | exact .inr rfl)) (tg_name (i := 18) (by decide)) (mon_name (i := 18)) (fun _ _ _ _ _ => pdts_nil) (fun _ _ _ _ _ => pd_call G_L_put (hr.mono (by decide)) rfl T.g_L_put T.F_L_put.kp T.b_L_put_2 (pda_cons (pd_var 2) (pda_cons (pd_var 7) (pda_nil))))))) (pds_cons (pds_for (vs := [13]) rfl (pdi_list (pd_var 11)) (pg_name (i := 13) sc_L_law.nd rfl (.inl rfl)) (tg_name (i := 13) (by decide)) (pds_one (pds_if (pdt_w (pdw_or (pdt_not (pdt_val (pd_call G_L_right (hr.mono (by decide)) rfl T.g_L_right T.F_L_right.kp T.b_L_right_3 (pda_cons (pd_var 4) (pda_cons (pd_var 8) (pda_cons (pd_var 13) (pda_nil))))))) (pdw_or1 (pdt_not (pdt_val (pd_call G_L_right (hr.mono (by decide)) rfl T.g_L_right T.F_L_right.kp T.b_L_right_3 (pda_cons (pd_var 4) (pda_cons (pd_lst (pda_nil)) (pda_cons (pd_var 13) (pda_nil)))))))))) (pds_one (pds_ret (pd_bl))) (pds_nil)))) (pds_one (pds_for (vs := [14]) rfl (pdi_list (pd_lst (pda_cons (pd_non) (pda_cons (pd_lst (pda_cons (pd_tup (pda_cons (pd_int) (pda_cons (pd_lst (pda_nil)) (pda_nil)))) (pda_nil))) (pda_cons (pd_op op_addD opd_add (pd_var 8) (pd_var 8)) (pda_cons (pd_call G_L_put (hr.mono (by decide)) rfl T.g_L_put T.F_L_put.kp T.b_L_put_2 (pda_cons (pd_var 2) (pda_cons (pd_var 8) (pda_nil)))) (pda_nil))))))) (pg_name (i := 14) sc_L_law.nd rfl (.inl rfl)) (tg_name (i := 14) (by decide)) (pds_one (pds_if (pdt_not (pdt_val (pd_call G_L_right (hr.mono (by decide)) rfl T.g_L_right T.F_L_right.kp T.b_L_right_3 (pda_cons (pd_var 4) (pda_cons (pd_var 14) (pda_cons (pd_var 7) (pda_nil))))))) (pds_one (pds_ret (pd_bl))) (pds_nil))))))))))))))))) (pds_one (pds_ret (pd_bl))))
    sem_L_law
end
theorem all_mk {l : PySem.W.OpenLaw} {w : World} {K : PySem.W.Frag} {h : Heap} {mg : Str → Option Value} {fa : Addr} (X : K.In h) (G : h.Ns mainGlobals mg) (hfa : mg "law" = some (.ref fa))
    {f0 : Addr} {od0 an0 : Option Addr} {sl0 : Array (Option Value)} {oc0 kV0 dc0 pm0 cd0 ct0 : Value}
    {f1 : Addr} {od1 an1 : Option Addr} {sl1 : Array (Option Value)} {oc1 kV1 dc1 pm1 cd1 ct1 : Value}
    {f2 : Addr} {od2 an2 : Option Addr} {sl2 : Array (Option Value)} {oc2 kV2 dc2 pm2 cd2 ct2 : Value}
    {f3 : Addr} {od3 an3 : Option Addr} {sl3 : Array (Option Value)} {oc3 kV3 dc3 pm3 cd3 ct3 : Value}
    {f4 : Addr} {od4 an4 : Option Addr} {sl4 : Array (Option Value)} {oc4 kV4 dc4 pm4 cd4 ct4 : Value}
    {f5 : Addr} {od5 an5 : Option Addr} {sl5 : Array (Option Value)} {oc5 kV5 dc5 pm5 cd5 ct5 : Value}
    {f6 : Addr} {od6 an6 : Option Addr} {sl6 : Array (Option Value)} {oc6 kV6 dc6 pm6 cd6 ct6 : Value}
    {f7 : Addr} {od7 an7 : Option Addr} {sl7 : Array (Option Value)} {oc7 kV7 dc7 pm7 cd7 ct7 : Value}
    {f8 : Addr} {od8 an8 : Option Addr} {sl8 : Array (Option Value)} {oc8 kV8 dc8 pm8 cd8 ct8 : Value}
    {f9 : Addr} {od9 an9 : Option Addr} {sl9 : Array (Option Value)} {oc9 kV9 dc9 pm9 cd9 ct9 : Value}
    {f10 : Addr} {od10 an10 : Option Addr} {sl10 : Array (Option Value)} {oc10 kV10 dc10 pm10 cd10 ct10 : Value}
    {f11 : Addr} {od11 an11 : Option Addr} {sl11 : Array (Option Value)} {oc11 kV11 dc11 pm11 cd11 ct11 : Value}
    {f12 : Addr} {od12 an12 : Option Addr} {sl12 : Array (Option Value)} {oc12 kV12 dc12 pm12 cd12 ct12 : Value}
    {f13 : Addr} {od13 an13 : Option Addr} {sl13 : Array (Option Value)} {oc13 kV13 dc13 pm13 cd13 ct13 : Value}
    {f14 : Addr} {od14 an14 : Option Addr} {sl14 : Array (Option Value)} {oc14 kV14 dc14 pm14 cd14 ct14 : Value}
    {f15 : Addr} {od15 an15 : Option Addr} {sl15 : Array (Option Value)} {oc15 kV15 dc15 pm15 cd15 ct15 : Value}
    {f16 : Addr} {od16 an16 : Option Addr} {sl16 : Array (Option Value)} {oc16 kV16 dc16 pm16 cd16 ct16 : Value}
    {f17 : Addr} {od17 an17 : Option Addr} {sl17 : Array (Option Value)} {oc17 kV17 dc17 pm17 cd17 ct17 : Value}
    {f18 : Addr} {od18 an18 : Option Addr} {sl18 : Array (Option Value)} {oc18 kV18 dc18 pm18 cd18 ct18 : Value}
    {f19 : Addr} {od19 an19 : Option Addr} {sl19 : Array (Option Value)} {oc19 kV19 dc19 pm19 cd19 ct19 : Value}
    {f20 : Addr} {od20 an20 : Option Addr} {sl20 : Array (Option Value)} {oc20 kV20 dc20 pm20 cd20 ct20 : Value}
    {f21 : Addr} {od21 an21 : Option Addr} {sl21 : Array (Option Value)} {oc21 kV21 dc21 pm21 cd21 ct21 : Value}
    {f22 : Addr} {od22 an22 : Option Addr} {sl22 : Array (Option Value)} {oc22 kV22 dc22 pm22 cd22 ct22 : Value}
    {f23 : Addr} {od23 an23 : Option Addr} {sl23 : Array (Option Value)} {oc23 kV23 dc23 pm23 cd23 ct23 : Value}
    {f24 : Addr} {od24 an24 : Option Addr} {sl24 : Array (Option Value)} {oc24 kV24 dc24 pm24 cd24 ct24 : Value}
    {f25 : Addr} {od25 an25 : Option Addr} {sl25 : Array (Option Value)} {oc25 kV25 dc25 pm25 cd25 ct25 : Value}
    {f26 : Addr} {od26 an26 : Option Addr} {sl26 : Array (Option Value)} {oc26 kV26 dc26 pm26 cd26 ct26 : Value}
    {f27 : Addr} {od27 an27 : Option Addr} {sl27 : Array (Option Value)} {oc27 kV27 dc27 pm27 cd27 ct27 : Value}
    {f28 : Addr} {od28 an28 : Option Addr} {sl28 : Array (Option Value)} {oc28 kV28 dc28 pm28 cd28 ct28 : Value}
    {f29 : Addr} {od29 an29 : Option Addr} {sl29 : Array (Option Value)} {oc29 kV29 dc29 pm29 cd29 ct29 : Value}
    {f30 : Addr} {od30 an30 : Option Addr} {sl30 : Array (Option Value)} {oc30 kV30 dc30 pm30 cd30 ct30 : Value}
    {f31 : Addr} {od31 an31 : Option Addr} {sl31 : Array (Option Value)} {oc31 kV31 dc31 pm31 cd31 ct31 : Value}
    {f32 : Addr} {od32 an32 : Option Addr} {sl32 : Array (Option Value)} {oc32 kV32 dc32 pm32 cd32 ct32 : Value}
    {f33 : Addr} {od33 an33 : Option Addr} {sl33 : Array (Option Value)} {oc33 kV33 dc33 pm33 cd33 ct33 : Value}
    {f34 : Addr} {od34 an34 : Option Addr} {sl34 : Array (Option Value)} {oc34 kV34 dc34 pm34 cd34 ct34 : Value}
    {f35 : Addr} {od35 an35 : Option Addr} {sl35 : Array (Option Value)} {oc35 kV35 dc35 pm35 cd35 ct35 : Value}
    {f36 : Addr} {od36 an36 : Option Addr} {sl36 : Array (Option Value)} {oc36 kV36 dc36 pm36 cd36 ct36 : Value}
    {f37 : Addr} {od37 an37 : Option Addr} {sl37 : Array (Option Value)} {oc37 kV37 dc37 pm37 cd37 ct37 : Value}
    {f38 : Addr} {od38 an38 : Option Addr} {sl38 : Array (Option Value)} {oc38 kV38 dc38 pm38 cd38 ct38 : Value}
    {f39 : Addr} {od39 an39 : Option Addr} {sl39 : Array (Option Value)} {oc39 kV39 dc39 pm39 cd39 ct39 : Value}
    {f40 : Addr} {od40 an40 : Option Addr} {sl40 : Array (Option Value)} {oc40 kV40 dc40 pm40 cd40 ct40 : Value}
    {f41 : Addr} {od41 an41 : Option Addr} {sl41 : Array (Option Value)} {oc41 kV41 dc41 pm41 cd41 ct41 : Value}
    {f42 : Addr} {od42 an42 : Option Addr} {sl42 : Array (Option Value)} {oc42 kV42 dc42 pm42 cd42 ct42 : Value}
    {f43 : Addr} {od43 an43 : Option Addr} {sl43 : Array (Option Value)} {oc43 kV43 dc43 pm43 cd43 ct43 : Value}
    {f44 : Addr} {od44 an44 : Option Addr} {sl44 : Array (Option Value)} {oc44 kV44 dc44 pm44 cd44 ct44 : Value}
    {f45 : Addr} {od45 an45 : Option Addr} {sl45 : Array (Option Value)} {oc45 kV45 dc45 pm45 cd45 ct45 : Value}
    {f46 : Addr} {od46 an46 : Option Addr} {sl46 : Array (Option Value)} {oc46 kV46 dc46 pm46 cd46 ct46 : Value}
    {f47 : Addr} {od47 an47 : Option Addr} {sl47 : Array (Option Value)} {oc47 kV47 dc47 pm47 cd47 ct47 : Value}
    {f48 : Addr} {od48 an48 : Option Addr} {sl48 : Array (Option Value)} {oc48 kV48 dc48 pm48 cd48 ct48 : Value}
    {f49 : Addr} {od49 an49 : Option Addr} {sl49 : Array (Option Value)} {oc49 kV49 dc49 pm49 cd49 ct49 : Value}
    {f50 : Addr} {od50 an50 : Option Addr} {sl50 : Array (Option Value)} {oc50 kV50 dc50 pm50 cd50 ct50 : Value}
    {f51 : Addr} {od51 an51 : Option Addr} {sl51 : Array (Option Value)} {oc51 kV51 dc51 pm51 cd51 ct51 : Value}
    {f52 : Addr} {od52 an52 : Option Addr} {sl52 : Array (Option Value)} {oc52 kV52 dc52 pm52 cd52 ct52 : Value}
    {f53 : Addr} {od53 an53 : Option Addr} {sl53 : Array (Option Value)} {oc53 kV53 dc53 pm53 cd53 ct53 : Value}
    {f54 : Addr} {od54 an54 : Option Addr} {sl54 : Array (Option Value)} {oc54 kV54 dc54 pm54 cd54 ct54 : Value}
    {f55 : Addr} {od55 an55 : Option Addr} {sl55 : Array (Option Value)} {oc55 kV55 dc55 pm55 cd55 ct55 : Value}
    {f56 : Addr} {od56 an56 : Option Addr} {sl56 : Array (Option Value)} {oc56 kV56 dc56 pm56 cd56 ct56 : Value}
    {f57 : Addr} {od57 an57 : Option Addr} {sl57 : Array (Option Value)} {oc57 kV57 dc57 pm57 cd57 ct57 : Value}
    {f58 : Addr} {od58 an58 : Option Addr} {sl58 : Array (Option Value)} {oc58 kV58 dc58 pm58 cd58 ct58 : Value}
    {tk_JUST : Tok}
    {tk_LEAST : Tok}
    {tk_LETTERS : Tok}
    {tk_LONGEST_NAME : Tok}
    {tk_MOST_NAMES : Tok}
    {tk_MOST_NUMBERS : Tok}
    {tk_MOST_PLACES : Tok}
    {tk_MOST_ROWS : Tok}
    {tk_MOST_WISHES : Tok}
    {ad_NOUGHT : Addr} {dd_NOUGHT : Option Addr} {nn_NOUGHT : Nat} {ss_NOUGHT : Array (Option Value)} {tk_NOUGHT_0 tk_NOUGHT_1 : Tok}
    (a0 : PySem.W.nsIn K mainGlobals "is_whole" = some (some (.ref f0)))
    (l0 : K.lookup f0 = some ⟨oc0, od0, .func (PySem.W.fnOf "is_whole" "is_whole" (defArgs s_p_is_whole) (defBody s_p_is_whole) (defScope s_p_is_whole) .none kV0 dc0 pm0 an0 cd0 ct0), sl0⟩)
    (c0 : PySem.W.codeIn K cd0 "is_whole" = true) (k0 : PySem.W.keepIn K (.ref f0) = true)
    (a1 : PySem.W.nsIn K mainGlobals "common" = some (some (.ref f1)))
    (l1 : K.lookup f1 = some ⟨oc1, od1, .func (PySem.W.fnOf "common" "common" (defArgs s_p_common) (defBody s_p_common) (defScope s_p_common) .none kV1 dc1 pm1 an1 cd1 ct1), sl1⟩)
    (c1 : PySem.W.codeIn K cd1 "common" = true) (k1 : PySem.W.keepIn K (.ref f1) = true)
    (a2 : PySem.W.nsIn K mainGlobals "is_fraction" = some (some (.ref f2)))
    (l2 : K.lookup f2 = some ⟨oc2, od2, .func (PySem.W.fnOf "is_fraction" "is_fraction" (defArgs s_p_is_fraction) (defBody s_p_is_fraction) (defScope s_p_is_fraction) .none kV2 dc2 pm2 an2 cd2 ct2), sl2⟩)
    (c2 : PySem.W.codeIn K cd2 "is_fraction" = true) (k2 : PySem.W.keepIn K (.ref f2) = true)
    (a3 : PySem.W.nsIn K mainGlobals "lowest" = some (some (.ref f3)))
    (l3 : K.lookup f3 = some ⟨oc3, od3, .func (PySem.W.fnOf "lowest" "lowest" (defArgs s_p_lowest) (defBody s_p_lowest) (defScope s_p_lowest) .none kV3 dc3 pm3 an3 cd3 ct3), sl3⟩)
    (c3 : PySem.W.codeIn K cd3 "lowest" = true) (k3 : PySem.W.keepIn K (.ref f3) = true)
    (a4 : PySem.W.nsIn K mainGlobals "plus" = some (some (.ref f4)))
    (l4 : K.lookup f4 = some ⟨oc4, od4, .func (PySem.W.fnOf "plus" "plus" (defArgs s_p_plus) (defBody s_p_plus) (defScope s_p_plus) .none kV4 dc4 pm4 an4 cd4 ct4), sl4⟩)
    (c4 : PySem.W.codeIn K cd4 "plus" = true) (k4 : PySem.W.keepIn K (.ref f4) = true)
    (a5 : PySem.W.nsIn K mainGlobals "times" = some (some (.ref f5)))
    (l5 : K.lookup f5 = some ⟨oc5, od5, .func (PySem.W.fnOf "times" "times" (defArgs s_p_times) (defBody s_p_times) (defScope s_p_times) .none kV5 dc5 pm5 an5 cd5 ct5), sl5⟩)
    (c5 : PySem.W.codeIn K cd5 "times" = true) (k5 : PySem.W.keepIn K (.ref f5) = true)
    (a6 : PySem.W.nsIn K mainGlobals "is_below" = some (some (.ref f6)))
    (l6 : K.lookup f6 = some ⟨oc6, od6, .func (PySem.W.fnOf "is_below" "is_below" (defArgs s_p_is_below) (defBody s_p_is_below) (defScope s_p_is_below) .none kV6 dc6 pm6 an6 cd6 ct6), sl6⟩)
    (c6 : PySem.W.codeIn K cd6 "is_below" = true) (k6 : PySem.W.keepIn K (.ref f6) = true)
    (a7 : PySem.W.nsIn K mainGlobals "is_one_of" = some (some (.ref f7)))
    (l7 : K.lookup f7 = some ⟨oc7, od7, .func (PySem.W.fnOf "is_one_of" "is_one_of" (defArgs s_p_is_one_of) (defBody s_p_is_one_of) (defScope s_p_is_one_of) .none kV7 dc7 pm7 an7 cd7 ct7), sl7⟩)
    (c7 : PySem.W.codeIn K cd7 "is_one_of" = true) (k7 : PySem.W.keepIn K (.ref f7) = true)
    (a8 : PySem.W.nsIn K mainGlobals "is_rising" = some (some (.ref f8)))
    (l8 : K.lookup f8 = some ⟨oc8, od8, .func (PySem.W.fnOf "is_rising" "is_rising" (defArgs s_p_is_rising) (defBody s_p_is_rising) (defScope s_p_is_rising) .none kV8 dc8 pm8 an8 cd8 ct8), sl8⟩)
    (c8 : PySem.W.codeIn K cd8 "is_rising" = true) (k8 : PySem.W.keepIn K (.ref f8) = true)
    (a9 : PySem.W.nsIn K mainGlobals "look_at_many" = some (some (.ref f9)))
    (l9 : K.lookup f9 = some ⟨oc9, od9, .func (PySem.W.fnOf "look_at_many" "look_at_many" (defArgs s_p_look_at_many) (defBody s_p_look_at_many) (defScope s_p_look_at_many) .none kV9 dc9 pm9 an9 cd9 ct9), sl9⟩)
    (c9 : PySem.W.codeIn K cd9 "look_at_many" = true) (k9 : PySem.W.keepIn K (.ref f9) = true)
    (a10 : PySem.W.nsIn K mainGlobals "is_line" = some (some (.ref f10)))
    (l10 : K.lookup f10 = some ⟨oc10, od10, .func (PySem.W.fnOf "is_line" "is_line" (defArgs s_p_is_line) (defBody s_p_is_line) (defScope s_p_is_line) .none kV10 dc10 pm10 an10 cd10 ct10), sl10⟩)
    (c10 : PySem.W.codeIn K cd10 "is_line" = true) (k10 : PySem.W.keepIn K (.ref f10) = true)
    (a11 : PySem.W.nsIn K mainGlobals "is_wish" = some (some (.ref f11)))
    (l11 : K.lookup f11 = some ⟨oc11, od11, .func (PySem.W.fnOf "is_wish" "is_wish" (defArgs s_p_is_wish) (defBody s_p_is_wish) (defScope s_p_is_wish) .none kV11 dc11 pm11 an11 cd11 ct11), sl11⟩)
    (c11 : PySem.W.codeIn K cd11 "is_wish" = true) (k11 : PySem.W.keepIn K (.ref f11) = true)
    (a12 : PySem.W.nsIn K mainGlobals "is_shares" = some (some (.ref f12)))
    (l12 : K.lookup f12 = some ⟨oc12, od12, .func (PySem.W.fnOf "is_shares" "is_shares" (defArgs s_p_is_shares) (defBody s_p_is_shares) (defScope s_p_is_shares) .none kV12 dc12 pm12 an12 cd12 ct12), sl12⟩)
    (c12 : PySem.W.codeIn K cd12 "is_shares" = true) (k12 : PySem.W.keepIn K (.ref f12) = true)
    (a13 : PySem.W.nsIn K mainGlobals "added_over" = some (some (.ref f13)))
    (l13 : K.lookup f13 = some ⟨oc13, od13, .func (PySem.W.fnOf "added_over" "added_over" (defArgs s_p_added_over) (defBody s_p_added_over) (defScope s_p_added_over) .none kV13 dc13 pm13 an13 cd13 ct13), sl13⟩)
    (c13 : PySem.W.codeIn K cd13 "added_over" = true) (k13 : PySem.W.keepIn K (.ref f13) = true)
    (a14 : PySem.W.nsIn K mainGlobals "carries" = some (some (.ref f14)))
    (l14 : K.lookup f14 = some ⟨oc14, od14, .func (PySem.W.fnOf "carries" "carries" (defArgs s_p_carries) (defBody s_p_carries) (defScope s_p_carries) .none kV14 dc14 pm14 an14 cd14 ct14), sl14⟩)
    (c14 : PySem.W.codeIn K cd14 "carries" = true) (k14 : PySem.W.keepIn K (.ref f14) = true)
    (a15 : PySem.W.nsIn K mainGlobals "minus_one" = some (some (.ref f15)))
    (l15 : K.lookup f15 = some ⟨oc15, od15, .func (PySem.W.fnOf "minus_one" "minus_one" (defArgs s_p_minus_one) (defBody s_p_minus_one) (defScope s_p_minus_one) .none kV15 dc15 pm15 an15 cd15 ct15), sl15⟩)
    (c15 : PySem.W.codeIn K cd15 "minus_one" = true) (k15 : PySem.W.keepIn K (.ref f15) = true)
    (a16 : PySem.W.nsIn K mainGlobals "is_letters" = some (some (.ref f16)))
    (l16 : K.lookup f16 = some ⟨oc16, od16, .func (PySem.W.fnOf "is_letters" "is_letters" (defArgs s_p_is_letters) (defBody s_p_is_letters) (defScope s_p_is_letters) .none kV16 dc16 pm16 an16 cd16 ct16), sl16⟩)
    (c16 : PySem.W.codeIn K cd16 "is_letters" = true) (k16 : PySem.W.keepIn K (.ref f16) = true)
    (a17 : PySem.W.nsIn K mainGlobals "is_name" = some (some (.ref f17)))
    (l17 : K.lookup f17 = some ⟨oc17, od17, .func (PySem.W.fnOf "is_name" "is_name" (defArgs s_p_is_name) (defBody s_p_is_name) (defScope s_p_is_name) .none kV17 dc17 pm17 an17 cd17 ct17), sl17⟩)
    (c17 : PySem.W.codeIn K cd17 "is_name" = true) (k17 : PySem.W.keepIn K (.ref f17) = true)
    (a18 : PySem.W.nsIn K mainGlobals "look_at_names" = some (some (.ref f18)))
    (l18 : K.lookup f18 = some ⟨oc18, od18, .func (PySem.W.fnOf "look_at_names" "look_at_names" (defArgs s_p_look_at_names) (defBody s_p_look_at_names) (defScope s_p_look_at_names) .none kV18 dc18 pm18 an18 cd18 ct18), sl18⟩)
    (c18 : PySem.W.codeIn K cd18 "look_at_names" = true) (k18 : PySem.W.keepIn K (.ref f18) = true)
    (a19 : PySem.W.nsIn K mainGlobals "is_wishes" = some (some (.ref f19)))
    (l19 : K.lookup f19 = some ⟨oc19, od19, .func (PySem.W.fnOf "is_wishes" "is_wishes" (defArgs s_p_is_wishes) (defBody s_p_is_wishes) (defScope s_p_is_wishes) .none kV19 dc19 pm19 an19 cd19 ct19), sl19⟩)
    (c19 : PySem.W.codeIn K cd19 "is_wishes" = true) (k19 : PySem.W.keepIn K (.ref f19) = true)
    (a20 : PySem.W.nsIn K mainGlobals "is_row" = some (some (.ref f20)))
    (l20 : K.lookup f20 = some ⟨oc20, od20, .func (PySem.W.fnOf "is_row" "is_row" (defArgs s_p_is_row) (defBody s_p_is_row) (defScope s_p_is_row) .none kV20 dc20 pm20 an20 cd20 ct20), sl20⟩)
    (c20 : PySem.W.codeIn K cd20 "is_row" = true) (k20 : PySem.W.keepIn K (.ref f20) = true)
    (a21 : PySem.W.nsIn K mainGlobals "look_at_rows" = some (some (.ref f21)))
    (l21 : K.lookup f21 = some ⟨oc21, od21, .func (PySem.W.fnOf "look_at_rows" "look_at_rows" (defArgs s_p_look_at_rows) (defBody s_p_look_at_rows) (defScope s_p_look_at_rows) .none kV21 dc21 pm21 an21 cd21 ct21), sl21⟩)
    (c21 : PySem.W.codeIn K cd21 "look_at_rows" = true) (k21 : PySem.W.keepIn K (.ref f21) = true)
    (a22 : PySem.W.nsIn K mainGlobals "look_at" = some (some (.ref f22)))
    (l22 : K.lookup f22 = some ⟨oc22, od22, .func (PySem.W.fnOf "look_at" "look_at" (defArgs s_p_look_at) (defBody s_p_look_at) (defScope s_p_look_at) .none kV22 dc22 pm22 an22 cd22 ct22), sl22⟩)
    (c22 : PySem.W.codeIn K cd22 "look_at" = true) (k22 : PySem.W.keepIn K (.ref f22) = true)
    (a23 : PySem.W.nsIn K mainGlobals "line_ahead" = some (some (.ref f23)))
    (l23 : K.lookup f23 = some ⟨oc23, od23, .func (PySem.W.fnOf "line_ahead" "line_ahead" (defArgs s_p_line_ahead) (defBody s_p_line_ahead) (defScope s_p_line_ahead) .none kV23 dc23 pm23 an23 cd23 ct23), sl23⟩)
    (c23 : PySem.W.codeIn K cd23 "line_ahead" = true) (k23 : PySem.W.keepIn K (.ref f23) = true)
    (a24 : PySem.W.nsIn K mainGlobals "line_behind" = some (some (.ref f24)))
    (l24 : K.lookup f24 = some ⟨oc24, od24, .func (PySem.W.fnOf "line_behind" "line_behind" (defArgs s_p_line_behind) (defBody s_p_line_behind) (defScope s_p_line_behind) .none kV24 dc24 pm24 an24 cd24 ct24), sl24⟩)
    (c24 : PySem.W.codeIn K cd24 "line_behind" = true) (k24 : PySem.W.keepIn K (.ref f24) = true)
    (a25 : PySem.W.nsIn K mainGlobals "is_weighing" = some (some (.ref f25)))
    (l25 : K.lookup f25 = some ⟨oc25, od25, .func (PySem.W.fnOf "is_weighing" "is_weighing" (defArgs s_p_is_weighing) (defBody s_p_is_weighing) (defScope s_p_is_weighing) .none kV25 dc25 pm25 an25 cd25 ct25), sl25⟩)
    (c25 : PySem.W.codeIn K cd25 "is_weighing" = true) (k25 : PySem.W.keepIn K (.ref f25) = true)
    (a26 : PySem.W.nsIn K mainGlobals "rise_by" = some (some (.ref f26)))
    (l26 : K.lookup f26 = some ⟨oc26, od26, .func (PySem.W.fnOf "rise_by" "rise_by" (defArgs s_p_rise_by) (defBody s_p_rise_by) (defScope s_p_rise_by) .none kV26 dc26 pm26 an26 cd26 ct26), sl26⟩)
    (c26 : PySem.W.codeIn K cd26 "rise_by" = true) (k26 : PySem.W.keepIn K (.ref f26) = true)
    (a27 : PySem.W.nsIn K mainGlobals "fall_by" = some (some (.ref f27)))
    (l27 : K.lookup f27 = some ⟨oc27, od27, .func (PySem.W.fnOf "fall_by" "fall_by" (defArgs s_p_fall_by) (defBody s_p_fall_by) (defScope s_p_fall_by) .none kV27 dc27 pm27 an27 cd27 ct27), sl27⟩)
    (c27 : PySem.W.codeIn K cd27 "fall_by" = true) (k27 : PySem.W.keepIn K (.ref f27) = true)
    (a28 : PySem.W.nsIn K mainGlobals "rows_that_go" = some (some (.ref f28)))
    (l28 : K.lookup f28 = some ⟨oc28, od28, .func (PySem.W.fnOf "rows_that_go" "rows_that_go" (defArgs s_p_rows_that_go) (defBody s_p_rows_that_go) (defScope s_p_rows_that_go) .none kV28 dc28 pm28 an28 cd28 ct28), sl28⟩)
    (c28 : PySem.W.codeIn K cd28 "rows_that_go" = true) (k28 : PySem.W.keepIn K (.ref f28) = true)
    (a29 : PySem.W.nsIn K mainGlobals "fall_asked" = some (some (.ref f29)))
    (l29 : K.lookup f29 = some ⟨oc29, od29, .func (PySem.W.fnOf "fall_asked" "fall_asked" (defArgs s_p_fall_asked) (defBody s_p_fall_asked) (defScope s_p_fall_asked) .none kV29 dc29 pm29 an29 cd29 ct29), sl29⟩)
    (c29 : PySem.W.codeIn K cd29 "fall_asked" = true) (k29 : PySem.W.keepIn K (.ref f29) = true)
    (a30 : PySem.W.nsIn K mainGlobals "lets_entry" = some (some (.ref f30)))
    (l30 : K.lookup f30 = some ⟨oc30, od30, .func (PySem.W.fnOf "lets_entry" "lets_entry" (defArgs s_p_lets_entry) (defBody s_p_lets_entry) (defScope s_p_lets_entry) .none kV30 dc30 pm30 an30 cd30 ct30), sl30⟩)
    (c30 : PySem.W.codeIn K cd30 "lets_entry" = true) (k30 : PySem.W.keepIn K (.ref f30) = true)
    (a31 : PySem.W.nsIn K mainGlobals "left_behind" = some (some (.ref f31)))
    (l31 : K.lookup f31 = some ⟨oc31, od31, .func (PySem.W.fnOf "left_behind" "left_behind" (defArgs s_p_left_behind) (defBody s_p_left_behind) (defScope s_p_left_behind) .none kV31 dc31 pm31 an31 cd31 ct31), sl31⟩)
    (c31 : PySem.W.codeIn K cd31 "left_behind" = true) (k31 : PySem.W.keepIn K (.ref f31) = true)
    (a32 : PySem.W.nsIn K mainGlobals "left_by" = some (some (.ref f32)))
    (l32 : K.lookup f32 = some ⟨oc32, od32, .func (PySem.W.fnOf "left_by" "left_by" (defArgs s_p_left_by) (defBody s_p_left_by) (defScope s_p_left_by) .none kV32 dc32 pm32 an32 cd32 ct32), sl32⟩)
    (c32 : PySem.W.codeIn K cd32 "left_by" = true) (k32 : PySem.W.keepIn K (.ref f32) = true)
    (a33 : PySem.W.nsIn K mainGlobals "lets_ranks" = some (some (.ref f33)))
    (l33 : K.lookup f33 = some ⟨oc33, od33, .func (PySem.W.fnOf "lets_ranks" "lets_ranks" (defArgs s_p_lets_ranks) (defBody s_p_lets_ranks) (defScope s_p_lets_ranks) .none kV33 dc33 pm33 an33 cd33 ct33), sl33⟩)
    (c33 : PySem.W.codeIn K cd33 "lets_ranks" = true) (k33 : PySem.W.keepIn K (.ref f33) = true)
    (a34 : PySem.W.nsIn K mainGlobals "_law_pool" = some (some (.ref f34)))
    (l34 : K.lookup f34 = some ⟨oc34, od34, .func (PySem.W.fnOf "_law_pool" "_law_pool" (defArgs s_L_pool) (defBody s_L_pool) (defScope s_L_pool) .none kV34 dc34 pm34 an34 cd34 ct34), sl34⟩)
    (c34 : PySem.W.codeIn K cd34 "_law_pool" = true) (k34 : PySem.W.keepIn K (.ref f34) = true)
    (a35 : PySem.W.nsIn K mainGlobals "_law_take" = some (some (.ref f35)))
    (l35 : K.lookup f35 = some ⟨oc35, od35, .func (PySem.W.fnOf "_law_take" "_law_take" (defArgs s_L_take) (defBody s_L_take) (defScope s_L_take) .none kV35 dc35 pm35 an35 cd35 ct35), sl35⟩)
    (c35 : PySem.W.codeIn K cd35 "_law_take" = true) (k35 : PySem.W.keepIn K (.ref f35) = true)
    (a36 : PySem.W.nsIn K mainGlobals "_law_line" = some (some (.ref f36)))
    (l36 : K.lookup f36 = some ⟨oc36, od36, .func (PySem.W.fnOf "_law_line" "_law_line" (defArgs s_L_line) (defBody s_L_line) (defScope s_L_line) .none kV36 dc36 pm36 an36 cd36 ct36), sl36⟩)
    (c36 : PySem.W.codeIn K cd36 "_law_line" = true) (k36 : PySem.W.keepIn K (.ref f36) = true)
    (a37 : PySem.W.nsIn K mainGlobals "_law_fall" = some (some (.ref f37)))
    (l37 : K.lookup f37 = some ⟨oc37, od37, .func (PySem.W.fnOf "_law_fall" "_law_fall" (defArgs s_L_fall) (defBody s_L_fall) (defScope s_L_fall) .none kV37 dc37 pm37 an37 cd37 ct37), sl37⟩)
    (c37 : PySem.W.codeIn K cd37 "_law_fall" = true) (k37 : PySem.W.keepIn K (.ref f37) = true)
    (a38 : PySem.W.nsIn K mainGlobals "_law_low" = some (some (.ref f38)))
    (l38 : K.lookup f38 = some ⟨oc38, od38, .func (PySem.W.fnOf "_law_low" "_law_low" (defArgs s_L_low) (defBody s_L_low) (defScope s_L_low) .none kV38 dc38 pm38 an38 cd38 ct38), sl38⟩)
    (c38 : PySem.W.codeIn K cd38 "_law_low" = true) (k38 : PySem.W.keepIn K (.ref f38) = true)
    (a39 : PySem.W.nsIn K mainGlobals "_law_shown_wish" = some (some (.ref f39)))
    (l39 : K.lookup f39 = some ⟨oc39, od39, .func (PySem.W.fnOf "_law_shown_wish" "_law_shown_wish" (defArgs s_L_shown_wish) (defBody s_L_shown_wish) (defScope s_L_shown_wish) .none kV39 dc39 pm39 an39 cd39 ct39), sl39⟩)
    (c39 : PySem.W.codeIn K cd39 "_law_shown_wish" = true) (k39 : PySem.W.keepIn K (.ref f39) = true)
    (a40 : PySem.W.nsIn K mainGlobals "_law_ranked" = some (some (.ref f40)))
    (l40 : K.lookup f40 = some ⟨oc40, od40, .func (PySem.W.fnOf "_law_ranked" "_law_ranked" (defArgs s_L_ranked) (defBody s_L_ranked) (defScope s_L_ranked) .none kV40 dc40 pm40 an40 cd40 ct40), sl40⟩)
    (c40 : PySem.W.codeIn K cd40 "_law_ranked" = true) (k40 : PySem.W.keepIn K (.ref f40) = true)
    (a41 : PySem.W.nsIn K mainGlobals "_law_shares_for" = some (some (.ref f41)))
    (l41 : K.lookup f41 = some ⟨oc41, od41, .func (PySem.W.fnOf "_law_shares_for" "_law_shares_for" (defArgs s_L_shares_for) (defBody s_L_shares_for) (defScope s_L_shares_for) .none kV41 dc41 pm41 an41 cd41 ct41), sl41⟩)
    (c41 : PySem.W.codeIn K cd41 "_law_shares_for" = true) (k41 : PySem.W.keepIn K (.ref f41) = true)
    (a42 : PySem.W.nsIn K mainGlobals "_law_paper" = some (some (.ref f42)))
    (l42 : K.lookup f42 = some ⟨oc42, od42, .func (PySem.W.fnOf "_law_paper" "_law_paper" (defArgs s_L_paper) (defBody s_L_paper) (defScope s_L_paper) .none kV42 dc42 pm42 an42 cd42 ct42), sl42⟩)
    (c42 : PySem.W.codeIn K cd42 "_law_paper" = true) (k42 : PySem.W.keepIn K (.ref f42) = true)
    (a43 : PySem.W.nsIn K mainGlobals "_law_is_whole" = some (some (.ref f43)))
    (l43 : K.lookup f43 = some ⟨oc43, od43, .func (PySem.W.fnOf "_law_is_whole" "_law_is_whole" (defArgs s_L_is_whole) (defBody s_L_is_whole) (defScope s_L_is_whole) .none kV43 dc43 pm43 an43 cd43 ct43), sl43⟩)
    (c43 : PySem.W.codeIn K cd43 "_law_is_whole" = true) (k43 : PySem.W.keepIn K (.ref f43) = true)
    (a44 : PySem.W.nsIn K mainGlobals "_law_is_fraction" = some (some (.ref f44)))
    (l44 : K.lookup f44 = some ⟨oc44, od44, .func (PySem.W.fnOf "_law_is_fraction" "_law_is_fraction" (defArgs s_L_is_fraction) (defBody s_L_is_fraction) (defScope s_L_is_fraction) .none kV44 dc44 pm44 an44 cd44 ct44), sl44⟩)
    (c44 : PySem.W.codeIn K cd44 "_law_is_fraction" = true) (k44 : PySem.W.keepIn K (.ref f44) = true)
    (a45 : PySem.W.nsIn K mainGlobals "_law_are_fractions" = some (some (.ref f45)))
    (l45 : K.lookup f45 = some ⟨oc45, od45, .func (PySem.W.fnOf "_law_are_fractions" "_law_are_fractions" (defArgs s_L_are_fractions) (defBody s_L_are_fractions) (defScope s_L_are_fractions) .none kV45 dc45 pm45 an45 cd45 ct45), sl45⟩)
    (c45 : PySem.W.codeIn K cd45 "_law_are_fractions" = true) (k45 : PySem.W.keepIn K (.ref f45) = true)
    (a46 : PySem.W.nsIn K mainGlobals "_law_sum" = some (some (.ref f46)))
    (l46 : K.lookup f46 = some ⟨oc46, od46, .func (PySem.W.fnOf "_law_sum" "_law_sum" (defArgs s_L_sum) (defBody s_L_sum) (defScope s_L_sum) .none kV46 dc46 pm46 an46 cd46 ct46), sl46⟩)
    (c46 : PySem.W.codeIn K cd46 "_law_sum" = true) (k46 : PySem.W.keepIn K (.ref f46) = true)
    (a47 : PySem.W.nsIn K mainGlobals "_law_product" = some (some (.ref f47)))
    (l47 : K.lookup f47 = some ⟨oc47, od47, .func (PySem.W.fnOf "_law_product" "_law_product" (defArgs s_L_product) (defBody s_L_product) (defScope s_L_product) .none kV47 dc47 pm47 an47 cd47 ct47), sl47⟩)
    (c47 : PySem.W.codeIn K cd47 "_law_product" = true) (k47 : PySem.W.keepIn K (.ref f47) = true)
    (a48 : PySem.W.nsIn K mainGlobals "_law_carried" = some (some (.ref f48)))
    (l48 : K.lookup f48 = some ⟨oc48, od48, .func (PySem.W.fnOf "_law_carried" "_law_carried" (defArgs s_L_carried) (defBody s_L_carried) (defScope s_L_carried) .none kV48 dc48 pm48 an48 cd48 ct48), sl48⟩)
    (c48 : PySem.W.codeIn K cd48 "_law_carried" = true) (k48 : PySem.W.keepIn K (.ref f48) = true)
    (a49 : PySem.W.nsIn K mainGlobals "_law_never_right" = some (some (.ref f49)))
    (l49 : K.lookup f49 = some ⟨oc49, od49, .func (PySem.W.fnOf "_law_never_right" "_law_never_right" (defArgs s_L_never_right) (defBody s_L_never_right) (defScope s_L_never_right) .none kV49 dc49 pm49 an49 cd49 ct49), sl49⟩)
    (c49 : PySem.W.codeIn K cd49 "_law_never_right" = true) (k49 : PySem.W.keepIn K (.ref f49) = true)
    (a50 : PySem.W.nsIn K mainGlobals "_law_is_table" = some (some (.ref f50)))
    (l50 : K.lookup f50 = some ⟨oc50, od50, .func (PySem.W.fnOf "_law_is_table" "_law_is_table" (defArgs s_L_is_table) (defBody s_L_is_table) (defScope s_L_is_table) .none kV50 dc50 pm50 an50 cd50 ct50), sl50⟩)
    (c50 : PySem.W.codeIn K cd50 "_law_is_table" = true) (k50 : PySem.W.keepIn K (.ref f50) = true)
    (a51 : PySem.W.nsIn K mainGlobals "_law_entry_right" = some (some (.ref f51)))
    (l51 : K.lookup f51 = some ⟨oc51, od51, .func (PySem.W.fnOf "_law_entry_right" "_law_entry_right" (defArgs s_L_entry_right) (defBody s_L_entry_right) (defScope s_L_entry_right) .none kV51 dc51 pm51 an51 cd51 ct51), sl51⟩)
    (c51 : PySem.W.codeIn K cd51 "_law_entry_right" = true) (k51 : PySem.W.keepIn K (.ref f51) = true)
    (a52 : PySem.W.nsIn K mainGlobals "_law_left" = some (some (.ref f52)))
    (l52 : K.lookup f52 = some ⟨oc52, od52, .func (PySem.W.fnOf "_law_left" "_law_left" (defArgs s_L_left) (defBody s_L_left) (defScope s_L_left) .none kV52 dc52 pm52 an52 cd52 ct52), sl52⟩)
    (c52 : PySem.W.codeIn K cd52 "_law_left" = true) (k52 : PySem.W.keepIn K (.ref f52) = true)
    (a53 : PySem.W.nsIn K mainGlobals "_law_odd" = some (some (.ref f53)))
    (l53 : K.lookup f53 = some ⟨oc53, od53, .func (PySem.W.fnOf "_law_odd" "_law_odd" (defArgs s_L_odd) (defBody s_L_odd) (defScope s_L_odd) .none kV53 dc53 pm53 an53 cd53 ct53), sl53⟩)
    (c53 : PySem.W.codeIn K cd53 "_law_odd" = true) (k53 : PySem.W.keepIn K (.ref f53) = true)
    (a54 : PySem.W.nsIn K mainGlobals "_law_put" = some (some (.ref f54)))
    (l54 : K.lookup f54 = some ⟨oc54, od54, .func (PySem.W.fnOf "_law_put" "_law_put" (defArgs s_L_put) (defBody s_L_put) (defScope s_L_put) .none kV54 dc54 pm54 an54 cd54 ct54), sl54⟩)
    (c54 : PySem.W.codeIn K cd54 "_law_put" = true) (k54 : PySem.W.keepIn K (.ref f54) = true)
    (a55 : PySem.W.nsIn K mainGlobals "_law_row" = some (some (.ref f55)))
    (l55 : K.lookup f55 = some ⟨oc55, od55, .func (PySem.W.fnOf "_law_row" "_law_row" (defArgs s_L_row) (defBody s_L_row) (defScope s_L_row) .none kV55 dc55 pm55 an55 cd55 ct55), sl55⟩)
    (c55 : PySem.W.codeIn K cd55 "_law_row" = true) (k55 : PySem.W.keepIn K (.ref f55) = true)
    (a56 : PySem.W.nsIn K mainGlobals "_law_shut" = some (some (.ref f56)))
    (l56 : K.lookup f56 = some ⟨oc56, od56, .func (PySem.W.fnOf "_law_shut" "_law_shut" (defArgs s_L_shut) (defBody s_L_shut) (defScope s_L_shut) .none kV56 dc56 pm56 an56 cd56 ct56), sl56⟩)
    (c56 : PySem.W.codeIn K cd56 "_law_shut" = true) (k56 : PySem.W.keepIn K (.ref f56) = true)
    (a57 : PySem.W.nsIn K mainGlobals "_law_right" = some (some (.ref f57)))
    (l57 : K.lookup f57 = some ⟨oc57, od57, .func (PySem.W.fnOf "_law_right" "_law_right" (defArgs s_L_right) (defBody s_L_right) (defScope s_L_right) .none kV57 dc57 pm57 an57 cd57 ct57), sl57⟩)
    (c57 : PySem.W.codeIn K cd57 "_law_right" = true) (k57 : PySem.W.keepIn K (.ref f57) = true)
    (a58 : PySem.W.nsIn K mainGlobals "law" = some (some (.ref f58)))
    (l58 : K.lookup f58 = some ⟨oc58, od58, .func (PySem.W.fnOf "law" "law" (defArgs s_L_law) (defBody s_L_law) (defScope s_L_law) .none kV58 dc58 pm58 an58 cd58 ct58), sl58⟩)
    (c58 : PySem.W.codeIn K cd58 "law" = true) (k58 : PySem.W.keepIn K (.ref f58) = true)
    (z_abs : PySem.W.nsIn K mainGlobals "abs" = some none)
    (z_all : PySem.W.nsIn K mainGlobals "all" = some none)
    (z_bool : PySem.W.nsIn K mainGlobals "bool" = some none)
    (z_enumerate : PySem.W.nsIn K mainGlobals "enumerate" = some none)
    (z_int : PySem.W.nsIn K mainGlobals "int" = some none)
    (z_isinstance : PySem.W.nsIn K mainGlobals "isinstance" = some none)
    (z_len : PySem.W.nsIn K mainGlobals "len" = some none)
    (z_list : PySem.W.nsIn K mainGlobals "list" = some none)
    (z_max : PySem.W.nsIn K mainGlobals "max" = some none)
    (z_min : PySem.W.nsIn K mainGlobals "min" = some none)
    (z_range : PySem.W.nsIn K mainGlobals "range" = some none)
    (z_repr : PySem.W.nsIn K mainGlobals "repr" = some none)
    (z_str : PySem.W.nsIn K mainGlobals "str" = some none)
    (z_tuple : PySem.W.nsIn K mainGlobals "tuple" = some none)
    (z_zip : PySem.W.nsIn K mainGlobals "zip" = some none)
    (x_JUST : PySem.W.nsIn K mainGlobals "JUST" = some (some (.str "just" tk_JUST)))
    (x_LEAST : PySem.W.nsIn K mainGlobals "LEAST" = some (some (.str "least" tk_LEAST)))
    (x_LETTERS : PySem.W.nsIn K mainGlobals "LETTERS" = some (some (.str "abcdefghijklmnopqrstuvwxyz" tk_LETTERS)))
    (x_LONGEST_NAME : PySem.W.nsIn K mainGlobals "LONGEST_NAME" = some (some (.int (6) tk_LONGEST_NAME)))
    (x_MOST_NAMES : PySem.W.nsIn K mainGlobals "MOST_NAMES" = some (some (.int (3) tk_MOST_NAMES)))
    (x_MOST_NUMBERS : PySem.W.nsIn K mainGlobals "MOST_NUMBERS" = some (some (.int (8) tk_MOST_NUMBERS)))
    (x_MOST_PLACES : PySem.W.nsIn K mainGlobals "MOST_PLACES" = some (some (.int (6) tk_MOST_PLACES)))
    (x_MOST_ROWS : PySem.W.nsIn K mainGlobals "MOST_ROWS" = some (some (.int (10) tk_MOST_ROWS)))
    (x_MOST_WISHES : PySem.W.nsIn K mainGlobals "MOST_WISHES" = some (some (.int (12) tk_MOST_WISHES)))
    (x_NOUGHT : PySem.W.nsIn K mainGlobals "NOUGHT" = some (some (.ref ad_NOUGHT)))
    (y_NOUGHT : K.lookup ad_NOUGHT = some ⟨.type "tuple", dd_NOUGHT, .seq #[.int (0) tk_NOUGHT_0, .int (1) tk_NOUGHT_1] nn_NOUGHT, ss_NOUGHT⟩)
    : ∃ fd : FuncData, (∀ (s : Shared) (v : Value), BindsTo s fd ⟨[v], []⟩ [("_law_script", v)]) ∧
      ∀ base : Heap, K.In base → base.Ns mainGlobals mg → FnG l.prog w K mg base 12 fa fd ["_law_script"] (spD K sp_L_law) := by
  have e := hfa.symm.trans (PySem.W.mg_of X G a58)
  cases e
  have F0 := fun_mk (st := s_p_is_whole) l0 c0 k0
  have F1 := fun_mk (st := s_p_common) l1 c1 k1
  have F2 := fun_mk (st := s_p_is_fraction) l2 c2 k2
  have F3 := fun_mk (st := s_p_lowest) l3 c3 k3
  have F4 := fun_mk (st := s_p_plus) l4 c4 k4
  have F5 := fun_mk (st := s_p_times) l5 c5 k5
  have F6 := fun_mk (st := s_p_is_below) l6 c6 k6
  have F7 := fun_mk (st := s_p_is_one_of) l7 c7 k7
  have F8 := fun_mk (st := s_p_is_rising) l8 c8 k8
  have F9 := fun_mk (st := s_p_look_at_many) l9 c9 k9
  have F10 := fun_mk (st := s_p_is_line) l10 c10 k10
  have F11 := fun_mk (st := s_p_is_wish) l11 c11 k11
  have F12 := fun_mk (st := s_p_is_shares) l12 c12 k12
  have F13 := fun_mk (st := s_p_added_over) l13 c13 k13
  have F14 := fun_mk (st := s_p_carries) l14 c14 k14
  have F15 := fun_mk (st := s_p_minus_one) l15 c15 k15
  have F16 := fun_mk (st := s_p_is_letters) l16 c16 k16
  have F17 := fun_mk (st := s_p_is_name) l17 c17 k17
  have F18 := fun_mk (st := s_p_look_at_names) l18 c18 k18
  have F19 := fun_mk (st := s_p_is_wishes) l19 c19 k19
  have F20 := fun_mk (st := s_p_is_row) l20 c20 k20
  have F21 := fun_mk (st := s_p_look_at_rows) l21 c21 k21
  have F22 := fun_mk (st := s_p_look_at) l22 c22 k22
  have F23 := fun_mk (st := s_p_line_ahead) l23 c23 k23
  have F24 := fun_mk (st := s_p_line_behind) l24 c24 k24
  have F25 := fun_mk (st := s_p_is_weighing) l25 c25 k25
  have F26 := fun_mk (st := s_p_rise_by) l26 c26 k26
  have F27 := fun_mk (st := s_p_fall_by) l27 c27 k27
  have F28 := fun_mk (st := s_p_rows_that_go) l28 c28 k28
  have F29 := fun_mk (st := s_p_fall_asked) l29 c29 k29
  have F30 := fun_mk (st := s_p_lets_entry) l30 c30 k30
  have F31 := fun_mk (st := s_p_left_behind) l31 c31 k31
  have F32 := fun_mk (st := s_p_left_by) l32 c32 k32
  have F33 := fun_mk (st := s_p_lets_ranks) l33 c33 k33
  have F34 := fun_mk (st := s_L_pool) l34 c34 k34
  have F35 := fun_mk (st := s_L_take) l35 c35 k35
  have F36 := fun_mk (st := s_L_line) l36 c36 k36
  have F37 := fun_mk (st := s_L_fall) l37 c37 k37
  have F38 := fun_mk (st := s_L_low) l38 c38 k38
  have F39 := fun_mk (st := s_L_shown_wish) l39 c39 k39
  have F40 := fun_mk (st := s_L_ranked) l40 c40 k40
  have F41 := fun_mk (st := s_L_shares_for) l41 c41 k41
  have F42 := fun_mk (st := s_L_paper) l42 c42 k42
  have F43 := fun_mk (st := s_L_is_whole) l43 c43 k43
  have F44 := fun_mk (st := s_L_is_fraction) l44 c44 k44
  have F45 := fun_mk (st := s_L_are_fractions) l45 c45 k45
  have F46 := fun_mk (st := s_L_sum) l46 c46 k46
  have F47 := fun_mk (st := s_L_product) l47 c47 k47
  have F48 := fun_mk (st := s_L_carried) l48 c48 k48
  have F49 := fun_mk (st := s_L_never_right) l49 c49 k49
  have F50 := fun_mk (st := s_L_is_table) l50 c50 k50
  have F51 := fun_mk (st := s_L_entry_right) l51 c51 k51
  have F52 := fun_mk (st := s_L_left) l52 c52 k52
  have F53 := fun_mk (st := s_L_odd) l53 c53 k53
  have F54 := fun_mk (st := s_L_put) l54 c54 k54
  have F55 := fun_mk (st := s_L_row) l55 c55 k55
  have F56 := fun_mk (st := s_L_shut) l56 c56 k56
  have F57 := fun_mk (st := s_L_right) l57 c57 k57
  have F58 := fun_mk (st := s_L_law) l58 c58 k58
  let T : Tx l.prog K mg := {
    n_abs := PySem.W.mg_none_of X G z_abs
    n_all := PySem.W.mg_none_of X G z_all
    n_bool := PySem.W.mg_none_of X G z_bool
    n_enumerate := PySem.W.mg_none_of X G z_enumerate
    n_int := PySem.W.mg_none_of X G z_int
    n_isinstance := PySem.W.mg_none_of X G z_isinstance
    n_len := PySem.W.mg_none_of X G z_len
    n_list := PySem.W.mg_none_of X G z_list
    n_max := PySem.W.mg_none_of X G z_max
    n_min := PySem.W.mg_none_of X G z_min
    n_range := PySem.W.mg_none_of X G z_range
    n_repr := PySem.W.mg_none_of X G z_repr
    n_str := PySem.W.mg_none_of X G z_str
    n_tuple := PySem.W.mg_none_of X G z_tuple
    n_zip := PySem.W.mg_none_of X G z_zip
    u_JUST := tk_JUST
    c_JUST := PySem.W.mg_of X G x_JUST
    u_LEAST := tk_LEAST
    c_LEAST := PySem.W.mg_of X G x_LEAST
    u_LETTERS := tk_LETTERS
    c_LETTERS := PySem.W.mg_of X G x_LETTERS
    u_LONGEST_NAME := tk_LONGEST_NAME
    c_LONGEST_NAME := PySem.W.mg_of X G x_LONGEST_NAME
    u_MOST_NAMES := tk_MOST_NAMES
    c_MOST_NAMES := PySem.W.mg_of X G x_MOST_NAMES
    u_MOST_NUMBERS := tk_MOST_NUMBERS
    c_MOST_NUMBERS := PySem.W.mg_of X G x_MOST_NUMBERS
    u_MOST_PLACES := tk_MOST_PLACES
    c_MOST_PLACES := PySem.W.mg_of X G x_MOST_PLACES
    u_MOST_ROWS := tk_MOST_ROWS
    c_MOST_ROWS := PySem.W.mg_of X G x_MOST_ROWS
    u_MOST_WISHES := tk_MOST_WISHES
    c_MOST_WISHES := PySem.W.mg_of X G x_MOST_WISHES
    a_NOUGHT := ad_NOUGHT
    c_NOUGHT := PySem.W.mg_of X G x_NOUGHT
    k_NOUGHT := fun F => DR.tup (xs := [.int (0), .int (1)]) (.inr ⟨_, _, _, y_NOUGHT, rfl, rfl, (show 2 ≤ sizeLine by decide), .cons ⟨_, rfl⟩ (.cons ⟨_, rfl⟩ .nil)⟩) (.cons (.int _) (.cons (.int _) .nil))
    f_p_is_whole := f0
    d_p_is_whole := _
    F_p_is_whole := F0
    g_p_is_whole := PySem.W.mg_of X G a0
    f_p_common := f1
    d_p_common := _
    F_p_common := F1
    g_p_common := PySem.W.mg_of X G a1
    f_p_is_fraction := f2
    d_p_is_fraction := _
    F_p_is_fraction := F2
    g_p_is_fraction := PySem.W.mg_of X G a2
    f_p_lowest := f3
    d_p_lowest := _
    F_p_lowest := F3
    g_p_lowest := PySem.W.mg_of X G a3
    f_p_plus := f4
    d_p_plus := _
    F_p_plus := F4
    g_p_plus := PySem.W.mg_of X G a4
    f_p_times := f5
    d_p_times := _
    F_p_times := F5
    g_p_times := PySem.W.mg_of X G a5
    f_p_is_below := f6
    d_p_is_below := _
    F_p_is_below := F6
    g_p_is_below := PySem.W.mg_of X G a6
    f_p_is_one_of := f7
    d_p_is_one_of := _
    F_p_is_one_of := F7
    g_p_is_one_of := PySem.W.mg_of X G a7
    f_p_is_rising := f8
    d_p_is_rising := _
    F_p_is_rising := F8
    g_p_is_rising := PySem.W.mg_of X G a8
    f_p_look_at_many := f9
    d_p_look_at_many := _
    F_p_look_at_many := F9
    g_p_look_at_many := PySem.W.mg_of X G a9
    f_p_is_line := f10
    d_p_is_line := _
    F_p_is_line := F10
    g_p_is_line := PySem.W.mg_of X G a10
    f_p_is_wish := f11
    d_p_is_wish := _
    F_p_is_wish := F11
    g_p_is_wish := PySem.W.mg_of X G a11
    f_p_is_shares := f12
    d_p_is_shares := _
    F_p_is_shares := F12
    g_p_is_shares := PySem.W.mg_of X G a12
    f_p_added_over := f13
    d_p_added_over := _
    F_p_added_over := F13
    g_p_added_over := PySem.W.mg_of X G a13
    f_p_carries := f14
    d_p_carries := _
    F_p_carries := F14
    g_p_carries := PySem.W.mg_of X G a14
    f_p_minus_one := f15
    d_p_minus_one := _
    F_p_minus_one := F15
    g_p_minus_one := PySem.W.mg_of X G a15
    f_p_is_letters := f16
    d_p_is_letters := _
    F_p_is_letters := F16
    g_p_is_letters := PySem.W.mg_of X G a16
    f_p_is_name := f17
    d_p_is_name := _
    F_p_is_name := F17
    g_p_is_name := PySem.W.mg_of X G a17
    f_p_look_at_names := f18
    d_p_look_at_names := _
    F_p_look_at_names := F18
    g_p_look_at_names := PySem.W.mg_of X G a18
    f_p_is_wishes := f19
    d_p_is_wishes := _
    F_p_is_wishes := F19
    g_p_is_wishes := PySem.W.mg_of X G a19
    f_p_is_row := f20
    d_p_is_row := _
    F_p_is_row := F20
    g_p_is_row := PySem.W.mg_of X G a20
    f_p_look_at_rows := f21
    d_p_look_at_rows := _
    F_p_look_at_rows := F21
    g_p_look_at_rows := PySem.W.mg_of X G a21
    f_p_look_at := f22
    d_p_look_at := _
    F_p_look_at := F22
    g_p_look_at := PySem.W.mg_of X G a22
    f_p_line_ahead := f23
    d_p_line_ahead := _
    F_p_line_ahead := F23
    g_p_line_ahead := PySem.W.mg_of X G a23
    f_p_line_behind := f24
    d_p_line_behind := _
    F_p_line_behind := F24
    g_p_line_behind := PySem.W.mg_of X G a24
    f_p_is_weighing := f25
    d_p_is_weighing := _
    F_p_is_weighing := F25
    g_p_is_weighing := PySem.W.mg_of X G a25
    f_p_rise_by := f26
    d_p_rise_by := _
    F_p_rise_by := F26
    g_p_rise_by := PySem.W.mg_of X G a26
    f_p_fall_by := f27
    d_p_fall_by := _
    F_p_fall_by := F27
    g_p_fall_by := PySem.W.mg_of X G a27
    f_p_rows_that_go := f28
    d_p_rows_that_go := _
    F_p_rows_that_go := F28
    g_p_rows_that_go := PySem.W.mg_of X G a28
    f_p_fall_asked := f29
    d_p_fall_asked := _
    F_p_fall_asked := F29
    g_p_fall_asked := PySem.W.mg_of X G a29
    f_p_lets_entry := f30
    d_p_lets_entry := _
    F_p_lets_entry := F30
    g_p_lets_entry := PySem.W.mg_of X G a30
    f_p_left_behind := f31
    d_p_left_behind := _
    F_p_left_behind := F31
    g_p_left_behind := PySem.W.mg_of X G a31
    f_p_left_by := f32
    d_p_left_by := _
    F_p_left_by := F32
    g_p_left_by := PySem.W.mg_of X G a32
    f_p_lets_ranks := f33
    d_p_lets_ranks := _
    F_p_lets_ranks := F33
    g_p_lets_ranks := PySem.W.mg_of X G a33
    f_L_pool := f34
    d_L_pool := _
    F_L_pool := F34
    g_L_pool := PySem.W.mg_of X G a34
    f_L_take := f35
    d_L_take := _
    F_L_take := F35
    g_L_take := PySem.W.mg_of X G a35
    f_L_line := f36
    d_L_line := _
    F_L_line := F36
    g_L_line := PySem.W.mg_of X G a36
    f_L_fall := f37
    d_L_fall := _
    F_L_fall := F37
    g_L_fall := PySem.W.mg_of X G a37
    f_L_low := f38
    d_L_low := _
    F_L_low := F38
    g_L_low := PySem.W.mg_of X G a38
    f_L_shown_wish := f39
    d_L_shown_wish := _
    F_L_shown_wish := F39
    g_L_shown_wish := PySem.W.mg_of X G a39
    f_L_ranked := f40
    d_L_ranked := _
    F_L_ranked := F40
    g_L_ranked := PySem.W.mg_of X G a40
    f_L_shares_for := f41
    d_L_shares_for := _
    F_L_shares_for := F41
    g_L_shares_for := PySem.W.mg_of X G a41
    f_L_paper := f42
    d_L_paper := _
    F_L_paper := F42
    g_L_paper := PySem.W.mg_of X G a42
    f_L_is_whole := f43
    d_L_is_whole := _
    F_L_is_whole := F43
    g_L_is_whole := PySem.W.mg_of X G a43
    f_L_is_fraction := f44
    d_L_is_fraction := _
    F_L_is_fraction := F44
    g_L_is_fraction := PySem.W.mg_of X G a44
    f_L_are_fractions := f45
    d_L_are_fractions := _
    F_L_are_fractions := F45
    g_L_are_fractions := PySem.W.mg_of X G a45
    f_L_sum := f46
    d_L_sum := _
    F_L_sum := F46
    g_L_sum := PySem.W.mg_of X G a46
    f_L_product := f47
    d_L_product := _
    F_L_product := F47
    g_L_product := PySem.W.mg_of X G a47
    f_L_carried := f48
    d_L_carried := _
    F_L_carried := F48
    g_L_carried := PySem.W.mg_of X G a48
    f_L_never_right := f49
    d_L_never_right := _
    F_L_never_right := F49
    g_L_never_right := PySem.W.mg_of X G a49
    f_L_is_table := f50
    d_L_is_table := _
    F_L_is_table := F50
    g_L_is_table := PySem.W.mg_of X G a50
    f_L_entry_right := f51
    d_L_entry_right := _
    F_L_entry_right := F51
    g_L_entry_right := PySem.W.mg_of X G a51
    f_L_left := f52
    d_L_left := _
    F_L_left := F52
    g_L_left := PySem.W.mg_of X G a52
    f_L_odd := f53
    d_L_odd := _
    F_L_odd := F53
    g_L_odd := PySem.W.mg_of X G a53
    f_L_put := f54
    d_L_put := _
    F_L_put := F54
    g_L_put := PySem.W.mg_of X G a54
    f_L_row := f55
    d_L_row := _
    F_L_row := F55
    g_L_row := PySem.W.mg_of X G a55
    f_L_shut := f56
    d_L_shut := _
    F_L_shut := F56
    g_L_shut := PySem.W.mg_of X G a56
    f_L_right := f57
    d_L_right := _
    F_L_right := F57
    g_L_right := PySem.W.mg_of X G a57
    f_L_law := fa
    d_L_law := _
    F_L_law := F58
    g_L_law := PySem.W.mg_of X G a58
    b_L_are_fractions_2 := bnd_of F45 fun _ _ _ _ _ _ us ws h1 h2 => match us, ws, h1, h2 with | [_, _], [], _, _ => rfl
    b_L_carried_3 := bnd_of F48 fun _ _ _ _ _ _ us ws h1 h2 => match us, ws, h1, h2 with | [_, _, _], [], _, _ => rfl
    b_L_entry_right_4 := bnd_of F51 fun _ _ _ _ _ _ us ws h1 h2 => match us, ws, h1, h2 with | [_, _, _, _], [], _, _ => rfl
    b_L_fall_2 := bnd_of F37 fun _ _ _ _ _ _ us ws h1 h2 => match us, ws, h1, h2 with | [_, _], [], _, _ => rfl
    b_L_is_fraction_1 := bnd_of F44 fun _ _ _ _ _ _ us ws h1 h2 => match us, ws, h1, h2 with | [_], [], _, _ => rfl
    b_L_is_table_2 := bnd_of F50 fun _ _ _ _ _ _ us ws h1 h2 => match us, ws, h1, h2 with | [_, _], [], _, _ => rfl
    b_L_is_whole_1 := bnd_of F43 fun _ _ _ _ _ _ us ws h1 h2 => match us, ws, h1, h2 with | [_], [], _, _ => rfl
    b_L_left_3 := bnd_of F52 fun _ _ _ _ _ _ us ws h1 h2 => match us, ws, h1, h2 with | [_, _, _], [], _, _ => rfl
    b_L_line_3 := bnd_of F36 fun _ _ _ _ _ _ us ws h1 h2 => match us, ws, h1, h2 with | [_, _, _], [], _, _ => rfl
    b_L_low_2 := bnd_of F38 fun _ _ _ _ _ _ us ws h1 h2 => match us, ws, h1, h2 with | [_, _], [], _, _ => rfl
    b_L_never_right_2 := bnd_of F49 fun _ _ _ _ _ _ us ws h1 h2 => match us, ws, h1, h2 with | [_, _], [], _, _ => rfl
    b_L_odd_2 := bnd_of F53 fun _ _ _ _ _ _ us ws h1 h2 => match us, ws, h1, h2 with | [_, _], [], _, _ => rfl
    b_L_paper_3 := bnd_of F42 fun _ _ _ _ _ _ us ws h1 h2 => match us, ws, h1, h2 with | [_, _, _], [], _, _ => rfl
    b_L_pool_2 := bnd_of F34 fun _ _ _ _ _ _ us ws h1 h2 => match us, ws, h1, h2 with | [_, _], [], _, _ => rfl
    b_L_product_2 := bnd_of F47 fun _ _ _ _ _ _ us ws h1 h2 => match us, ws, h1, h2 with | [_, _], [], _, _ => rfl
    b_L_put_2 := bnd_of F54 fun _ _ _ _ _ _ us ws h1 h2 => match us, ws, h1, h2 with | [_, _], [], _, _ => rfl
    b_L_ranked_5 := bnd_of F40 fun _ _ _ _ _ _ us ws h1 h2 => match us, ws, h1, h2 with | [_, _, _, _, _], [], _, _ => rfl
    b_L_right_3 := bnd_of F57 fun _ _ _ _ _ _ us ws h1 h2 => match us, ws, h1, h2 with | [_, _, _], [], _, _ => rfl
    b_L_row_3 := bnd_of F55 fun _ _ _ _ _ _ us ws h1 h2 => match us, ws, h1, h2 with | [_, _, _], [], _, _ => rfl
    b_L_shares_for_2 := bnd_of F41 fun _ _ _ _ _ _ us ws h1 h2 => match us, ws, h1, h2 with | [_, _], [], _, _ => rfl
    b_L_shown_wish_4 := bnd_of F39 fun _ _ _ _ _ _ us ws h1 h2 => match us, ws, h1, h2 with | [_, _, _, _], [], _, _ => rfl
    b_L_shut_3 := bnd_of F56 fun _ _ _ _ _ _ us ws h1 h2 => match us, ws, h1, h2 with | [_, _, _], [], _, _ => rfl
    b_L_sum_2 := bnd_of F46 fun _ _ _ _ _ _ us ws h1 h2 => match us, ws, h1, h2 with | [_, _], [], _, _ => rfl
    b_L_take_2 := bnd_of F35 fun _ _ _ _ _ _ us ws h1 h2 => match us, ws, h1, h2 with | [_, _], [], _, _ => rfl
    b_p_added_over_3 := bnd_of F13 fun _ _ _ _ _ _ us ws h1 h2 => match us, ws, h1, h2 with | [_, _, _], [], _, _ => rfl
    b_p_carries_3 := bnd_of F14 fun _ _ _ _ _ _ us ws h1 h2 => match us, ws, h1, h2 with | [_, _, _], [], _, _ => rfl
    b_p_common_2 := bnd_of F1 fun _ _ _ _ _ _ us ws h1 h2 => match us, ws, h1, h2 with | [_, _], [], _, _ => rfl
    b_p_fall_asked_3 := bnd_of F29 fun _ _ _ _ _ _ us ws h1 h2 => match us, ws, h1, h2 with | [_, _, _], [], _, _ => rfl
    b_p_fall_by_2 := bnd_of F27 fun _ _ _ _ _ _ us ws h1 h2 => match us, ws, h1, h2 with | [_, _], [], _, _ => rfl
    b_p_is_below_2 := bnd_of F6 fun _ _ _ _ _ _ us ws h1 h2 => match us, ws, h1, h2 with | [_, _], [], _, _ => rfl
    b_p_is_fraction_1 := bnd_of F2 fun _ _ _ _ _ _ us ws h1 h2 => match us, ws, h1, h2 with | [_], [], _, _ => rfl
    b_p_is_letters_2 := bnd_of F16 fun _ _ _ _ _ _ us ws h1 h2 => match us, ws, h1, h2 with | [_, _], [], _, _ => rfl
    b_p_is_line_2 := bnd_of F10 fun _ _ _ _ _ _ us ws h1 h2 => match us, ws, h1, h2 with | [_, _], [], _, _ => rfl
    b_p_is_name_1 := bnd_of F17 fun _ _ _ _ _ _ us ws h1 h2 => match us, ws, h1, h2 with | [_], [], _, _ => rfl
    b_p_is_one_of_2 := bnd_of F7 fun _ _ _ _ _ _ us ws h1 h2 => match us, ws, h1, h2 with | [_, _], [], _, _ => rfl
    b_p_is_rising_2 := bnd_of F8 fun _ _ _ _ _ _ us ws h1 h2 => match us, ws, h1, h2 with | [_, _], [], _, _ => rfl
    b_p_is_row_3 := bnd_of F20 fun _ _ _ _ _ _ us ws h1 h2 => match us, ws, h1, h2 with | [_, _, _], [], _, _ => rfl
    b_p_is_shares_2 := bnd_of F12 fun _ _ _ _ _ _ us ws h1 h2 => match us, ws, h1, h2 with | [_, _], [], _, _ => rfl
    b_p_is_weighing_2 := bnd_of F25 fun _ _ _ _ _ _ us ws h1 h2 => match us, ws, h1, h2 with | [_, _], [], _, _ => rfl
    b_p_is_whole_1 := bnd_of F0 fun _ _ _ _ _ _ us ws h1 h2 => match us, ws, h1, h2 with | [_], [], _, _ => rfl
    b_p_is_wish_2 := bnd_of F11 fun _ _ _ _ _ _ us ws h1 h2 => match us, ws, h1, h2 with | [_, _], [], _, _ => rfl
    b_p_is_wishes_2 := bnd_of F19 fun _ _ _ _ _ _ us ws h1 h2 => match us, ws, h1, h2 with | [_, _], [], _, _ => rfl
    b_p_left_behind_3 := bnd_of F31 fun _ _ _ _ _ _ us ws h1 h2 => match us, ws, h1, h2 with | [_, _, _], [], _, _ => rfl
    b_p_left_by_3 := bnd_of F32 fun _ _ _ _ _ _ us ws h1 h2 => match us, ws, h1, h2 with | [_, _, _], [], _, _ => rfl
    b_p_lets_entry_4 := bnd_of F30 fun _ _ _ _ _ _ us ws h1 h2 => match us, ws, h1, h2 with | [_, _, _, _], [], _, _ => rfl
    b_p_lets_ranks_3 := bnd_of F33 fun _ _ _ _ _ _ us ws h1 h2 => match us, ws, h1, h2 with | [_, _, _], [], _, _ => rfl
    b_p_line_ahead_1 := bnd_of F23 fun _ _ _ _ _ _ us ws h1 h2 => match us, ws, h1, h2 with | [_], [], _, _ => rfl
    b_p_line_behind_1 := bnd_of F24 fun _ _ _ _ _ _ us ws h1 h2 => match us, ws, h1, h2 with | [_], [], _, _ => rfl
    b_p_look_at_1 := bnd_of F22 fun _ _ _ _ _ _ us ws h1 h2 => match us, ws, h1, h2 with | [_], [], _, _ => rfl
    b_p_look_at_many_1 := bnd_of F9 fun _ _ _ _ _ _ us ws h1 h2 => match us, ws, h1, h2 with | [_], [], _, _ => rfl
    b_p_look_at_names_3 := bnd_of F18 fun _ _ _ _ _ _ us ws h1 h2 => match us, ws, h1, h2 with | [_, _, _], [], _, _ => rfl
    b_p_look_at_rows_3 := bnd_of F21 fun _ _ _ _ _ _ us ws h1 h2 => match us, ws, h1, h2 with | [_, _, _], [], _, _ => rfl
    b_p_lowest_2 := bnd_of F3 fun _ _ _ _ _ _ us ws h1 h2 => match us, ws, h1, h2 with | [_, _], [], _, _ => rfl
    b_p_minus_one_1 := bnd_of F15 fun _ _ _ _ _ _ us ws h1 h2 => match us, ws, h1, h2 with | [_], [], _, _ => rfl
    b_p_plus_2 := bnd_of F4 fun _ _ _ _ _ _ us ws h1 h2 => match us, ws, h1, h2 with | [_, _], [], _, _ => rfl
    b_p_rise_by_2 := bnd_of F26 fun _ _ _ _ _ _ us ws h1 h2 => match us, ws, h1, h2 with | [_, _], [], _, _ => rfl
    b_p_rows_that_go_2 := bnd_of F28 fun _ _ _ _ _ _ us ws h1 h2 => match us, ws, h1, h2 with | [_, _], [], _, _ => rfl
    b_p_times_2 := bnd_of F5 fun _ _ _ _ _ _ us ws h1 h2 => match us, ws, h1, h2 with | [_, _], [], _, _ => rfl }
  exact ⟨_, fun s v => .of_eq rfl, fun base _ _ => ok_L_law (base := base) T⟩
end Pf
open PySem PySem.W PyProof.Rows
set_option maxHeartbeats 0 in
theorem PySem.Challenge.cw_downweigh_k43_ranks_looked_at_holds : PySem.Challenge.rw_downweigh_k43_ranks_looked_at.Holds := by
  w_on; o_law; k_head; (case hw => w_witness2)
  k_fill
  refine DL.walkG (l := PySem.Challenge.rw_downweigh_k43_ranks_looked_at) (n := 63) (k := 12) (x := "_law_script") (fs := Pf.sp_L_law) rfl (by decide) rfl ⟨rfl, by decide, by decide⟩ (by rfl) (fun _ => by kernel_rfl) (fun w h Y => PySem.W.kIn_of Y) ?F (fun ns _ => ⟨ns, rfl, fun _ => rfl⟩)
  case F =>
    intro w mg fa h KX G hmg
    refine' Pf.all_mk KX G hmg ?a0 ?l0 ?c0 ?k0 ?a1 ?l1 ?c1 ?k1 ?a2 ?l2 ?c2 ?k2 ?a3 ?l3 ?c3 ?k3 ?a4 ?l4 ?c4 ?k4 ?a5 ?l5 ?c5 ?k5 ?a6 ?l6 ?c6 ?k6 ?a7 ?l7 ?c7 ?k7 ?a8 ?l8 ?c8 ?k8 ?a9 ?l9 ?c9 ?k9 ?a10 ?l10 ?c10 ?k10 ?a11 ?l11 ?c11 ?k11 ?a12 ?l12 ?c12 ?k12 ?a13 ?l13 ?c13 ?k13 ?a14 ?l14 ?c14 ?k14 ?a15 ?l15 ?c15 ?k15 ?a16 ?l16 ?c16 ?k16 ?a17 ?l17 ?c17 ?k17 ?a18 ?l18 ?c18 ?k18 ?a19 ?l19 ?c19 ?k19 ?a20 ?l20 ?c20 ?k20 ?a21 ?l21 ?c21 ?k21 ?a22 ?l22 ?c22 ?k22 ?a23 ?l23 ?c23 ?k23 ?a24 ?l24 ?c24 ?k24 ?a25 ?l25 ?c25 ?k25 ?a26 ?l26 ?c26 ?k26 ?a27 ?l27 ?c27 ?k27 ?a28 ?l28 ?c28 ?k28 ?a29 ?l29 ?c29 ?k29 ?a30 ?l30 ?c30 ?k30 ?a31 ?l31 ?c31 ?k31 ?a32 ?l32 ?c32 ?k32 ?a33 ?l33 ?c33 ?k33 ?a34 ?l34 ?c34 ?k34 ?a35 ?l35 ?c35 ?k35 ?a36 ?l36 ?c36 ?k36 ?a37 ?l37 ?c37 ?k37 ?a38 ?l38 ?c38 ?k38 ?a39 ?l39 ?c39 ?k39 ?a40 ?l40 ?c40 ?k40 ?a41 ?l41 ?c41 ?k41 ?a42 ?l42 ?c42 ?k42 ?a43 ?l43 ?c43 ?k43 ?a44 ?l44 ?c44 ?k44 ?a45 ?l45 ?c45 ?k45 ?a46 ?l46 ?c46 ?k46 ?a47 ?l47 ?c47 ?k47 ?a48 ?l48 ?c48 ?k48 ?a49 ?l49 ?c49 ?k49 ?a50 ?l50 ?c50 ?k50 ?a51 ?l51 ?c51 ?k51 ?a52 ?l52 ?c52 ?k52 ?a53 ?l53 ?c53 ?k53 ?a54 ?l54 ?c54 ?k54 ?a55 ?l55 ?c55 ?k55 ?a56 ?l56 ?c56 ?k56 ?a57 ?l57 ?c57 ?k57 ?a58 ?l58 ?c58 ?k58 ?z_abs ?z_all ?z_bool ?z_enumerate ?z_int ?z_isinstance ?z_len ?z_list ?z_max ?z_min ?z_range ?z_repr ?z_str ?z_tuple ?z_zip ?x_JUST ?x_LEAST ?x_LETTERS ?x_LONGEST_NAME ?x_MOST_NAMES ?x_MOST_NUMBERS ?x_MOST_PLACES ?x_MOST_ROWS ?x_MOST_WISHES ?x_NOUGHT ?y_NOUGHT
    (case a0 => k_is); (case l0 => k_is); (case c0 => k_is); (case k0 => k_is); (case a1 => k_is); (case l1 => k_is); (case c1 => k_is); (case k1 => k_is); (case a2 => k_is); (case l2 => k_is); (case c2 => k_is); (case k2 => k_is); (case a3 => k_is); (case l3 => k_is); (case c3 => k_is); (case k3 => k_is); (case a4 => k_is); (case l4 => k_is); (case c4 => k_is); (case k4 => k_is); (case a5 => k_is); (case l5 => k_is); (case c5 => k_is); (case k5 => k_is); (case a6 => k_is); (case l6 => k_is); (case c6 => k_is); (case k6 => k_is); (case a7 => k_is); (case l7 => k_is); (case c7 => k_is); (case k7 => k_is); (case a8 => k_is); (case l8 => k_is); (case c8 => k_is); (case k8 => k_is); (case a9 => k_is); (case l9 => k_is); (case c9 => k_is); (case k9 => k_is); (case a10 => k_is); (case l10 => k_is); (case c10 => k_is); (case k10 => k_is); (case a11 => k_is); (case l11 => k_is); (case c11 => k_is); (case k11 => k_is); (case a12 => k_is); (case l12 => k_is); (case c12 => k_is); (case k12 => k_is); (case a13 => k_is); (case l13 => k_is); (case c13 => k_is); (case k13 => k_is); (case a14 => k_is); (case l14 => k_is); (case c14 => k_is); (case k14 => k_is); (case a15 => k_is); (case l15 => k_is); (case c15 => k_is); (case k15 => k_is); (case a16 => k_is); (case l16 => k_is); (case c16 => k_is); (case k16 => k_is); (case a17 => k_is); (case l17 => k_is); (case c17 => k_is); (case k17 => k_is); (case a18 => k_is); (case l18 => k_is); (case c18 => k_is); (case k18 => k_is); (case a19 => k_is); (case l19 => k_is); (case c19 => k_is); (case k19 => k_is); (case a20 => k_is); (case l20 => k_is); (case c20 => k_is); (case k20 => k_is); (case a21 => k_is); (case l21 => k_is); (case c21 => k_is); (case k21 => k_is); (case a22 => k_is); (case l22 => k_is); (case c22 => k_is); (case k22 => k_is); (case a23 => k_is); (case l23 => k_is); (case c23 => k_is); (case k23 => k_is); (case a24 => k_is); (case l24 => k_is); (case c24 => k_is); (case k24 => k_is); (case a25 => k_is); (case l25 => k_is); (case c25 => k_is); (case k25 => k_is); (case a26 => k_is); (case l26 => k_is); (case c26 => k_is); (case k26 => k_is); (case a27 => k_is); (case l27 => k_is); (case c27 => k_is); (case k27 => k_is); (case a28 => k_is); (case l28 => k_is); (case c28 => k_is); (case k28 => k_is); (case a29 => k_is); (case l29 => k_is); (case c29 => k_is); (case k29 => k_is); (case a30 => k_is); (case l30 => k_is); (case c30 => k_is); (case k30 => k_is); (case a31 => k_is); (case l31 => k_is); (case c31 => k_is); (case k31 => k_is); (case a32 => k_is); (case l32 => k_is); (case c32 => k_is); (case k32 => k_is); (case a33 => k_is); (case l33 => k_is); (case c33 => k_is); (case k33 => k_is); (case a34 => k_is); (case l34 => k_is); (case c34 => k_is); (case k34 => k_is); (case a35 => k_is); (case l35 => k_is); (case c35 => k_is); (case k35 => k_is); (case a36 => k_is); (case l36 => k_is); (case c36 => k_is); (case k36 => k_is); (case a37 => k_is); (case l37 => k_is); (case c37 => k_is); (case k37 => k_is); (case a38 => k_is); (case l38 => k_is); (case c38 => k_is); (case k38 => k_is); (case a39 => k_is); (case l39 => k_is); (case c39 => k_is); (case k39 => k_is); (case a40 => k_is); (case l40 => k_is); (case c40 => k_is); (case k40 => k_is); (case a41 => k_is); (case l41 => k_is); (case c41 => k_is); (case k41 => k_is); (case a42 => k_is); (case l42 => k_is); (case c42 => k_is); (case k42 => k_is); (case a43 => k_is); (case l43 => k_is); (case c43 => k_is); (case k43 => k_is); (case a44 => k_is); (case l44 => k_is); (case c44 => k_is); (case k44 => k_is); (case a45 => k_is); (case l45 => k_is); (case c45 => k_is); (case k45 => k_is); (case a46 => k_is); (case l46 => k_is); (case c46 => k_is); (case k46 => k_is); (case a47 => k_is); (case l47 => k_is); (case c47 => k_is); (case k47 => k_is); (case a48 => k_is); (case l48 => k_is); (case c48 => k_is); (case k48 => k_is); (case a49 => k_is); (case l49 => k_is); (case c49 => k_is); (case k49 => k_is); (case a50 => k_is); (case l50 => k_is); (case c50 => k_is); (case k50 => k_is); (case a51 => k_is); (case l51 => k_is); (case c51 => k_is); (case k51 => k_is); (case a52 => k_is); (case l52 => k_is); (case c52 => k_is); (case k52 => k_is); (case a53 => k_is); (case l53 => k_is); (case c53 => k_is); (case k53 => k_is); (case a54 => k_is); (case l54 => k_is); (case c54 => k_is); (case k54 => k_is); (case a55 => k_is); (case l55 => k_is); (case c55 => k_is); (case k55 => k_is); (case a56 => k_is); (case l56 => k_is); (case c56 => k_is); (case k56 => k_is); (case a57 => k_is); (case l57 => k_is); (case c57 => k_is); (case k57 => k_is); (case a58 => k_is); (case l58 => k_is); (case c58 => k_is); (case k58 => k_is); (case z_abs => k_is); (case z_all => k_is); (case z_bool => k_is); (case z_enumerate => k_is); (case z_int => k_is); (case z_isinstance => k_is); (case z_len => k_is); (case z_list => k_is); (case z_max => k_is); (case z_min => k_is); (case z_range => k_is); (case z_repr => k_is); (case z_str => k_is); (case z_tuple => k_is); (case z_zip => k_is); (case x_JUST => k_is); (case x_LEAST => k_is); (case x_LETTERS => k_is); (case x_LONGEST_NAME => k_is); (case x_MOST_NAMES => k_is); (case x_MOST_NUMBERS => k_is); (case x_MOST_PLACES => k_is); (case x_MOST_ROWS => k_is); (case x_MOST_WISHES => k_is); (case x_NOUGHT => k_is); (case y_NOUGHT => k_is)
